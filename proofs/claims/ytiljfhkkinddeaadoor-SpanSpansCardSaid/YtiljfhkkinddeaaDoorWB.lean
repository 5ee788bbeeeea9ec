/-
  The walks of the laws on spans.
-/
import Derived.Test.YtiljfhkkinddeaaDoorQ
import Derived.Deep.RegionHeld3
namespace Go.Proofs.YtiljfhkkinddeaaDoor
open Go.RowKit Cal
set_option linter.unusedSimpArgs false
set_option linter.unusedVariables false

abbrev S6 (W : World) (b1 b2 b3 : Nat) (x0 x1 y0 y1 z0 z1 : Value) (w : World) : Prop :=
  Bl W w ∧ w.cell? ⟨b1, 0, none⟩ = some x0 ∧ w.cell? ⟨b1, 1, none⟩ = some x1 ∧ w.cell? ⟨b2, 0, none⟩ = some y0 ∧ w.cell? ⟨b2, 1, none⟩ = some y1 ∧ w.cell? ⟨b3, 0, none⟩ = some z0 ∧ w.cell? ⟨b3, 1, none⟩ = some z1 ∧ b1 < W.heap.size ∧ b2 < W.heap.size ∧ b3 < W.heap.size
theorem lt_of_cell' {w : World} {b o : Nat} {v : Value} (h : w.cell? ⟨b, o, none⟩ = some v) : b < w.heap.size := World.block_lt_of_cell? w ⟨b, o, none⟩ h
theorem S6.t {W a b : World} {b1 b2 b3 : Nat} {x0 x1 y0 y1 z0 z1 : Value} (h : S6 W b1 b2 b3 x0 x1 y0 y1 z0 z1 a) (hb : Bl a b) : S6 W b1 b2 b3 x0 x1 y0 y1 z0 z1 b := by
  obtain ⟨h1, c1, c2, c3, c4, c5, c6, l1, l2, l3⟩ := h
  obtain ⟨hc, hf⟩ := bcell hb
  have hz := h1.size
  exact ⟨h1.tr hb, (hc _ _ (by omega)).trans c1, (hc _ _ (by omega)).trans c2, (hc _ _ (by omega)).trans c3, (hc _ _ (by omega)).trans c4, (hc _ _ (by omega)).trans c5, (hc _ _ (by omega)).trans c6, l1, l2, l3⟩
theorem S6.bl {W a : World} {b1 b2 b3 : Nat} {x0 x1 y0 y1 z0 z1 : Value} (h : S6 W b1 b2 b3 x0 x1 y0 y1 z0 z1 a) : Bl W a := h.1
theorem S6.mo {W a : World} {b1 b2 b3 : Nat} {x0 x1 y0 y1 z0 z1 : Value} (h : S6 W b1 b2 b3 x0 x1 y0 y1 z0 z1 a) (hM : Mo W) : Mo a := hM.below h.1


set_option maxHeartbeats 800000 in
theorem spans_walk (al ah bl bh : Int) (w : World) (hM : Mo w) :
    Calls Tryd.prog 6 #[.agg #[.int .i64 al, .int .i64 ah], .agg #[.int .i64 bl, .int .i64 bh]] w fun e w' => e = .returned (.bool true) ∧ Bl w w' := by
  obtain ⟨m1, m2, m3, hm⟩ : ∃ m1 m2 m3, sumF al ah bl bh = (m1, m2, m3) := ⟨_, _, _, rfl⟩
  have Hm := Lib.hid hm
  clear hm
  obtain ⟨d1, d2, d3, hd⟩ : ∃ d1 d2 d3, oppF al ah = (d1, d2, d3) := ⟨_, _, _, rfl⟩
  have Hd := Lib.hid hd
  clear hd
  obtain ⟨f1, f2, f3, hf⟩ : ∃ f1 f2 f3, hullF al ah bl bh = (f1, f2, f3) := ⟨_, _, _, rfl⟩
  have Hf := Lib.hid hf
  clear hf
  have HM := Lib.hid hM
  clear hM
  go_enter Tryd.func6, Tryd.ntmps6
  go_wp2_with fail
  refine (sum_any _ _ _ _ _).mono ?_
  rintro e w1 ⟨rfl, hb⟩
  obtain ⟨ka0, ka1, kaf, kag, kal⟩ := kept2 (b := w.heap.size) (x := .int .i64 al) (y := .int .i64 ah) hb ⟨by go_cell, by go_cell, (by (try simp only [frozen?_alloc_cells, World.frozen?_setCell, fz_drew, fz_drewN]); first | assumption | exact frozen_beyond (by (try simp only [World.size_alloc, World.size_setCell, World.size_drew, sz_drewN]); omega)), (by (try simp only [frozen?_alloc_cells, World.frozen?_setCell, fz_drew, fz_drewN]); first | assumption | exact frozen_beyond (by (try simp only [World.size_alloc, World.size_setCell, World.size_drew, sz_drewN]); omega)), (by (try simp only [World.size_alloc, World.size_setCell, World.size_drew, sz_drewN]); omega)⟩
  obtain ⟨kb0, kb1, kbf, kbg, kbl⟩ := kept2 (b := w.heap.size + 1) (x := .int .i64 bl) (y := .int .i64 bh) hb ⟨by go_cell, by go_cell, (by (try simp only [frozen?_alloc_cells, World.frozen?_setCell, fz_drew, fz_drewN]); first | assumption | exact frozen_beyond (by (try simp only [World.size_alloc, World.size_setCell, World.size_drew, sz_drewN]); omega)), (by (try simp only [frozen?_alloc_cells, World.frozen?_setCell, fz_drew, fz_drewN]); first | assumption | exact frozen_beyond (by (try simp only [World.size_alloc, World.size_setCell, World.size_drew, sz_drewN]); omega)), (by (try simp only [World.size_alloc, World.size_setCell, World.size_drew, sz_drewN]); omega)⟩
  have B1 : Bl w w1 := Bl.tr (by go_grown) hb
  clear hb
  rw [Hm.out]
  unfold rS
  go_wp2_with fail
  refine (rsum_any _ _ _ _ _).mono ?_
  rintro e w2 ⟨rfl, hb⟩
  obtain ⟨ka0, ka1, kaf, kag, kal⟩ := kept2 (b := w.heap.size) (x := .int .i64 al) (y := .int .i64 ah) hb ⟨by go_cell, by go_cell, (by (try simp only [frozen?_alloc_cells, World.frozen?_setCell, fz_drew, fz_drewN]); first | assumption | exact frozen_beyond (by (try simp only [World.size_alloc, World.size_setCell, World.size_drew, sz_drewN]); omega)), (by (try simp only [frozen?_alloc_cells, World.frozen?_setCell, fz_drew, fz_drewN]); first | assumption | exact frozen_beyond (by (try simp only [World.size_alloc, World.size_setCell, World.size_drew, sz_drewN]); omega)), (by (try simp only [World.size_alloc, World.size_setCell, World.size_drew, sz_drewN]); omega)⟩
  obtain ⟨kb0, kb1, kbf, kbg, kbl⟩ := kept2 (b := w.heap.size + 1) (x := .int .i64 bl) (y := .int .i64 bh) hb ⟨by go_cell, by go_cell, (by (try simp only [frozen?_alloc_cells, World.frozen?_setCell, fz_drew, fz_drewN]); first | assumption | exact frozen_beyond (by (try simp only [World.size_alloc, World.size_setCell, World.size_drew, sz_drewN]); omega)), (by (try simp only [frozen?_alloc_cells, World.frozen?_setCell, fz_drew, fz_drewN]); first | assumption | exact frozen_beyond (by (try simp only [World.size_alloc, World.size_setCell, World.size_drew, sz_drewN]); omega)), (by (try simp only [World.size_alloc, World.size_setCell, World.size_drew, sz_drewN]); omega)⟩
  obtain ⟨kx0, kx1, kxf, kxg, kxl⟩ := kept2 (b := w1.heap.size) (x := .int .i64 m1) (y := .int .i64 m2) hb ⟨by go_cell, by go_cell, (by (try simp only [frozen?_alloc_cells, World.frozen?_setCell, fz_drew, fz_drewN]); first | assumption | exact frozen_beyond (by (try simp only [World.size_alloc, World.size_setCell, World.size_drew, sz_drewN]); omega)), (by (try simp only [frozen?_alloc_cells, World.frozen?_setCell, fz_drew, fz_drewN]); first | assumption | exact frozen_beyond (by (try simp only [World.size_alloc, World.size_setCell, World.size_drew, sz_drewN]); omega)), (by (try simp only [World.size_alloc, World.size_setCell, World.size_drew, sz_drewN]); omega)⟩
  have B2 : Bl w w2 := Below.trans (by go_grown) (hb.mono (by (try simp only [World.size_alloc, World.size_setCell, World.size_drew, sz_drewN]); omega))
  clear hb
  rw [Hm.out]
  unfold rS
  go_wp2_with fail
  refine (opp_any _ _ _).mono ?_
  rintro e w3 ⟨rfl, hb⟩
  obtain ⟨ka0, ka1, kaf, kag, kal⟩ := kept2 (b := w.heap.size) (x := .int .i64 al) (y := .int .i64 ah) hb ⟨by go_cell, by go_cell, (by (try simp only [frozen?_alloc_cells, World.frozen?_setCell, fz_drew, fz_drewN]); first | assumption | exact frozen_beyond (by (try simp only [World.size_alloc, World.size_setCell, World.size_drew, sz_drewN]); omega)), (by (try simp only [frozen?_alloc_cells, World.frozen?_setCell, fz_drew, fz_drewN]); first | assumption | exact frozen_beyond (by (try simp only [World.size_alloc, World.size_setCell, World.size_drew, sz_drewN]); omega)), (by (try simp only [World.size_alloc, World.size_setCell, World.size_drew, sz_drewN]); omega)⟩
  obtain ⟨kb0, kb1, kbf, kbg, kbl⟩ := kept2 (b := w.heap.size + 1) (x := .int .i64 bl) (y := .int .i64 bh) hb ⟨by go_cell, by go_cell, (by (try simp only [frozen?_alloc_cells, World.frozen?_setCell, fz_drew, fz_drewN]); first | assumption | exact frozen_beyond (by (try simp only [World.size_alloc, World.size_setCell, World.size_drew, sz_drewN]); omega)), (by (try simp only [frozen?_alloc_cells, World.frozen?_setCell, fz_drew, fz_drewN]); first | assumption | exact frozen_beyond (by (try simp only [World.size_alloc, World.size_setCell, World.size_drew, sz_drewN]); omega)), (by (try simp only [World.size_alloc, World.size_setCell, World.size_drew, sz_drewN]); omega)⟩
  obtain ⟨kx0, kx1, kxf, kxg, kxl⟩ := kept2 (b := w1.heap.size) (x := .int .i64 m1) (y := .int .i64 m2) hb ⟨by go_cell, by go_cell, (by (try simp only [frozen?_alloc_cells, World.frozen?_setCell, fz_drew, fz_drewN]); first | assumption | exact frozen_beyond (by (try simp only [World.size_alloc, World.size_setCell, World.size_drew, sz_drewN]); omega)), (by (try simp only [frozen?_alloc_cells, World.frozen?_setCell, fz_drew, fz_drewN]); first | assumption | exact frozen_beyond (by (try simp only [World.size_alloc, World.size_setCell, World.size_drew, sz_drewN]); omega)), (by (try simp only [World.size_alloc, World.size_setCell, World.size_drew, sz_drewN]); omega)⟩
  obtain ⟨ky0, ky1, kyf, kyg, kyl⟩ := kept2 (b := w2.heap.size) (x := .int .i64 m1) (y := .int .i64 m2) hb ⟨by go_cell, by go_cell, (by (try simp only [frozen?_alloc_cells, World.frozen?_setCell, fz_drew, fz_drewN]); first | assumption | exact frozen_beyond (by (try simp only [World.size_alloc, World.size_setCell, World.size_drew, sz_drewN]); omega)), (by (try simp only [frozen?_alloc_cells, World.frozen?_setCell, fz_drew, fz_drewN]); first | assumption | exact frozen_beyond (by (try simp only [World.size_alloc, World.size_setCell, World.size_drew, sz_drewN]); omega)), (by (try simp only [World.size_alloc, World.size_setCell, World.size_drew, sz_drewN]); omega)⟩
  have B3 : Bl w w3 := Below.trans (by go_grown) (hb.mono (by (try simp only [World.size_alloc, World.size_setCell, World.size_drew, sz_drewN]); omega))
  clear hb
  rw [Hd.out]
  unfold rS
  go_wp2_with fail
  refine (ropp_any _ _ _).mono ?_
  rintro e w4 ⟨rfl, hb⟩
  obtain ⟨ka0, ka1, kaf, kag, kal⟩ := kept2 (b := w.heap.size) (x := .int .i64 al) (y := .int .i64 ah) hb ⟨by go_cell, by go_cell, (by (try simp only [frozen?_alloc_cells, World.frozen?_setCell, fz_drew, fz_drewN]); first | assumption | exact frozen_beyond (by (try simp only [World.size_alloc, World.size_setCell, World.size_drew, sz_drewN]); omega)), (by (try simp only [frozen?_alloc_cells, World.frozen?_setCell, fz_drew, fz_drewN]); first | assumption | exact frozen_beyond (by (try simp only [World.size_alloc, World.size_setCell, World.size_drew, sz_drewN]); omega)), (by (try simp only [World.size_alloc, World.size_setCell, World.size_drew, sz_drewN]); omega)⟩
  obtain ⟨kb0, kb1, kbf, kbg, kbl⟩ := kept2 (b := w.heap.size + 1) (x := .int .i64 bl) (y := .int .i64 bh) hb ⟨by go_cell, by go_cell, (by (try simp only [frozen?_alloc_cells, World.frozen?_setCell, fz_drew, fz_drewN]); first | assumption | exact frozen_beyond (by (try simp only [World.size_alloc, World.size_setCell, World.size_drew, sz_drewN]); omega)), (by (try simp only [frozen?_alloc_cells, World.frozen?_setCell, fz_drew, fz_drewN]); first | assumption | exact frozen_beyond (by (try simp only [World.size_alloc, World.size_setCell, World.size_drew, sz_drewN]); omega)), (by (try simp only [World.size_alloc, World.size_setCell, World.size_drew, sz_drewN]); omega)⟩
  obtain ⟨kx0, kx1, kxf, kxg, kxl⟩ := kept2 (b := w1.heap.size) (x := .int .i64 d1) (y := .int .i64 d2) hb ⟨by go_cell, by go_cell, (by (try simp only [frozen?_alloc_cells, World.frozen?_setCell, fz_drew, fz_drewN]); first | assumption | exact frozen_beyond (by (try simp only [World.size_alloc, World.size_setCell, World.size_drew, sz_drewN]); omega)), (by (try simp only [frozen?_alloc_cells, World.frozen?_setCell, fz_drew, fz_drewN]); first | assumption | exact frozen_beyond (by (try simp only [World.size_alloc, World.size_setCell, World.size_drew, sz_drewN]); omega)), (by (try simp only [World.size_alloc, World.size_setCell, World.size_drew, sz_drewN]); omega)⟩
  obtain ⟨ky0, ky1, kyf, kyg, kyl⟩ := kept2 (b := w2.heap.size) (x := .int .i64 m1) (y := .int .i64 m2) hb ⟨by go_cell, by go_cell, (by (try simp only [frozen?_alloc_cells, World.frozen?_setCell, fz_drew, fz_drewN]); first | assumption | exact frozen_beyond (by (try simp only [World.size_alloc, World.size_setCell, World.size_drew, sz_drewN]); omega)), (by (try simp only [frozen?_alloc_cells, World.frozen?_setCell, fz_drew, fz_drewN]); first | assumption | exact frozen_beyond (by (try simp only [World.size_alloc, World.size_setCell, World.size_drew, sz_drewN]); omega)), (by (try simp only [World.size_alloc, World.size_setCell, World.size_drew, sz_drewN]); omega)⟩
  have B4 : Bl w w4 := Below.trans (by go_grown) (hb.mono (by (try simp only [World.size_alloc, World.size_setCell, World.size_drew, sz_drewN]); omega))
  clear hb
  rw [Hd.out]
  unfold rS
  go_wp2_with fail
  refine (hull_any _ _ _ _ _).mono ?_
  rintro e w5 ⟨rfl, hb⟩
  obtain ⟨ka0, ka1, kaf, kag, kal⟩ := kept2 (b := w.heap.size) (x := .int .i64 al) (y := .int .i64 ah) hb ⟨by go_cell, by go_cell, (by (try simp only [frozen?_alloc_cells, World.frozen?_setCell, fz_drew, fz_drewN]); first | assumption | exact frozen_beyond (by (try simp only [World.size_alloc, World.size_setCell, World.size_drew, sz_drewN]); omega)), (by (try simp only [frozen?_alloc_cells, World.frozen?_setCell, fz_drew, fz_drewN]); first | assumption | exact frozen_beyond (by (try simp only [World.size_alloc, World.size_setCell, World.size_drew, sz_drewN]); omega)), (by (try simp only [World.size_alloc, World.size_setCell, World.size_drew, sz_drewN]); omega)⟩
  obtain ⟨kb0, kb1, kbf, kbg, kbl⟩ := kept2 (b := w.heap.size + 1) (x := .int .i64 bl) (y := .int .i64 bh) hb ⟨by go_cell, by go_cell, (by (try simp only [frozen?_alloc_cells, World.frozen?_setCell, fz_drew, fz_drewN]); first | assumption | exact frozen_beyond (by (try simp only [World.size_alloc, World.size_setCell, World.size_drew, sz_drewN]); omega)), (by (try simp only [frozen?_alloc_cells, World.frozen?_setCell, fz_drew, fz_drewN]); first | assumption | exact frozen_beyond (by (try simp only [World.size_alloc, World.size_setCell, World.size_drew, sz_drewN]); omega)), (by (try simp only [World.size_alloc, World.size_setCell, World.size_drew, sz_drewN]); omega)⟩
  obtain ⟨kx0, kx1, kxf, kxg, kxl⟩ := kept2 (b := w1.heap.size) (x := .int .i64 d1) (y := .int .i64 d2) hb ⟨by go_cell, by go_cell, (by (try simp only [frozen?_alloc_cells, World.frozen?_setCell, fz_drew, fz_drewN]); first | assumption | exact frozen_beyond (by (try simp only [World.size_alloc, World.size_setCell, World.size_drew, sz_drewN]); omega)), (by (try simp only [frozen?_alloc_cells, World.frozen?_setCell, fz_drew, fz_drewN]); first | assumption | exact frozen_beyond (by (try simp only [World.size_alloc, World.size_setCell, World.size_drew, sz_drewN]); omega)), (by (try simp only [World.size_alloc, World.size_setCell, World.size_drew, sz_drewN]); omega)⟩
  obtain ⟨ky0, ky1, kyf, kyg, kyl⟩ := kept2 (b := w2.heap.size) (x := .int .i64 d1) (y := .int .i64 d2) hb ⟨by go_cell, by go_cell, (by (try simp only [frozen?_alloc_cells, World.frozen?_setCell, fz_drew, fz_drewN]); first | assumption | exact frozen_beyond (by (try simp only [World.size_alloc, World.size_setCell, World.size_drew, sz_drewN]); omega)), (by (try simp only [frozen?_alloc_cells, World.frozen?_setCell, fz_drew, fz_drewN]); first | assumption | exact frozen_beyond (by (try simp only [World.size_alloc, World.size_setCell, World.size_drew, sz_drewN]); omega)), (by (try simp only [World.size_alloc, World.size_setCell, World.size_drew, sz_drewN]); omega)⟩
  have B5 : Bl w w5 := Below.trans (by go_grown) (hb.mono (by (try simp only [World.size_alloc, World.size_setCell, World.size_drew, sz_drewN]); omega))
  clear hb
  rw [Hf.out]
  unfold rS
  go_wp2_with fail
  refine (rhull_any _ _ _ _ _).mono ?_
  rintro e w6 ⟨rfl, hb⟩
  obtain ⟨ka0, ka1, kaf, kag, kal⟩ := kept2 (b := w.heap.size) (x := .int .i64 al) (y := .int .i64 ah) hb ⟨by go_cell, by go_cell, (by (try simp only [frozen?_alloc_cells, World.frozen?_setCell, fz_drew, fz_drewN]); first | assumption | exact frozen_beyond (by (try simp only [World.size_alloc, World.size_setCell, World.size_drew, sz_drewN]); omega)), (by (try simp only [frozen?_alloc_cells, World.frozen?_setCell, fz_drew, fz_drewN]); first | assumption | exact frozen_beyond (by (try simp only [World.size_alloc, World.size_setCell, World.size_drew, sz_drewN]); omega)), (by (try simp only [World.size_alloc, World.size_setCell, World.size_drew, sz_drewN]); omega)⟩
  obtain ⟨kb0, kb1, kbf, kbg, kbl⟩ := kept2 (b := w.heap.size + 1) (x := .int .i64 bl) (y := .int .i64 bh) hb ⟨by go_cell, by go_cell, (by (try simp only [frozen?_alloc_cells, World.frozen?_setCell, fz_drew, fz_drewN]); first | assumption | exact frozen_beyond (by (try simp only [World.size_alloc, World.size_setCell, World.size_drew, sz_drewN]); omega)), (by (try simp only [frozen?_alloc_cells, World.frozen?_setCell, fz_drew, fz_drewN]); first | assumption | exact frozen_beyond (by (try simp only [World.size_alloc, World.size_setCell, World.size_drew, sz_drewN]); omega)), (by (try simp only [World.size_alloc, World.size_setCell, World.size_drew, sz_drewN]); omega)⟩
  obtain ⟨kx0, kx1, kxf, kxg, kxl⟩ := kept2 (b := w1.heap.size) (x := .int .i64 f1) (y := .int .i64 f2) hb ⟨by go_cell, by go_cell, (by (try simp only [frozen?_alloc_cells, World.frozen?_setCell, fz_drew, fz_drewN]); first | assumption | exact frozen_beyond (by (try simp only [World.size_alloc, World.size_setCell, World.size_drew, sz_drewN]); omega)), (by (try simp only [frozen?_alloc_cells, World.frozen?_setCell, fz_drew, fz_drewN]); first | assumption | exact frozen_beyond (by (try simp only [World.size_alloc, World.size_setCell, World.size_drew, sz_drewN]); omega)), (by (try simp only [World.size_alloc, World.size_setCell, World.size_drew, sz_drewN]); omega)⟩
  obtain ⟨ky0, ky1, kyf, kyg, kyl⟩ := kept2 (b := w2.heap.size) (x := .int .i64 d1) (y := .int .i64 d2) hb ⟨by go_cell, by go_cell, (by (try simp only [frozen?_alloc_cells, World.frozen?_setCell, fz_drew, fz_drewN]); first | assumption | exact frozen_beyond (by (try simp only [World.size_alloc, World.size_setCell, World.size_drew, sz_drewN]); omega)), (by (try simp only [frozen?_alloc_cells, World.frozen?_setCell, fz_drew, fz_drewN]); first | assumption | exact frozen_beyond (by (try simp only [World.size_alloc, World.size_setCell, World.size_drew, sz_drewN]); omega)), (by (try simp only [World.size_alloc, World.size_setCell, World.size_drew, sz_drewN]); omega)⟩
  have B6 : Bl w w6 := Below.trans (by go_grown) (hb.mono (by (try simp only [World.size_alloc, World.size_setCell, World.size_drew, sz_drewN]); omega))
  clear hb
  rw [Hf.out]
  unfold rS
  go_wp2_with fail
  have hx0 : True := trivial
  obtain ⟨W, hW⟩ : ∃ W, W = (w6.setCell { block := w2.heap.size, off := 0 } (Value.int IntKind.i64 f1)).setCell { block := w2.heap.size, off := 1 } (Value.int IntKind.i64 f2) := ⟨_, rfl⟩
  have BW : Bl w W := by rw [hW]; go_grown
  have x0 : W.cell? ⟨w1.heap.size, 0, none⟩ = some (.int .i64 f1) := by rw [hW]; go_cell
  have x1 : W.cell? ⟨w1.heap.size, 1, none⟩ = some (.int .i64 f2) := by rw [hW]; go_cell
  have y0 : W.cell? ⟨w2.heap.size, 0, none⟩ = some (.int .i64 f1) := by rw [hW]; go_cell
  have y1 : W.cell? ⟨w2.heap.size, 1, none⟩ = some (.int .i64 f2) := by rw [hW]; go_cell
  have z0 : W.cell? ⟨w.heap.size, 0, none⟩ = some (.int .i64 al) := by rw [hW]; go_cell
  have z1 : W.cell? ⟨w.heap.size, 1, none⟩ = some (.int .i64 ah) := by rw [hW]; go_cell
  have zl : w.heap.size < W.heap.size := by rw [hW]; simp; omega
  rw [← hW]
  clear hW
  have hS : S6 W w1.heap.size w2.heap.size w.heap.size (.int .i64 f1) (.int .i64 f2) (.int .i64 f1) (.int .i64 f2) (.int .i64 al) (.int .i64 ah) W := ⟨Bl.rf _, x0, x1, y0, y1, z0, z1, lt_of_cell' x0, lt_of_cell' y0, zl⟩
  have HMW : Hid (Mo W) := HM.out.below BW
  go_region_held3 (fun w' => Bl W w' ∧ w'.cell? ⟨w1.heap.size, 0, none⟩ = some (.int .i64 f1) ∧ w'.cell? ⟨w1.heap.size, 1, none⟩ = some (.int .i64 f2) ∧ w'.cell? ⟨w2.heap.size, 0, none⟩ = some (.int .i64 f1) ∧ w'.cell? ⟨w2.heap.size, 1, none⟩ = some (.int .i64 f2) ∧ w'.cell? ⟨w.heap.size, 0, none⟩ = some (.int .i64 al) ∧ w'.cell? ⟨w.heap.size, 1, none⟩ = some (.int .i64 ah) ∧ w1.heap.size < W.heap.size ∧ w2.heap.size < W.heap.size ∧ w.heap.size < W.heap.size) (first | exact S6.t hS (Bl.dn _ 1) | exact S6.t (by assumption) hb7 | exact S6.t (by assumption) hb8 | exact S6.t (by assumption) hb9) (first | (go_at_call 35; refine (validSpan_any _ _ _).mono ?_; rintro e w7 ⟨rfl, hb7⟩) | (go_at_call 36; refine (rvalidSpan_any _ _ _).mono ?_; rintro e w8 ⟨rfl, hb8⟩) | (go_at_call 20; refine (awake_any _ ?_).mono ?_; exact S6.mo (by assumption) HMW.out; rintro e w9 ⟨rfl, hb9⟩))
  go_wp2
  go_ret
  exact ⟨rfl, BW.tr (S6.bl (by assumption))⟩
end Go.Proofs.YtiljfhkkinddeaaDoor
