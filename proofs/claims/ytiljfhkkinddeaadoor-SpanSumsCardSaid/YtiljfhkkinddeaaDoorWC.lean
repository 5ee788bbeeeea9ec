/-
  The walk of a law on fractions.
-/
import Derived.Test.YtiljfhkkinddeaaDoorS
namespace Go.Proofs.YtiljfhkkinddeaaDoor
open Go.RowKit Cal
set_option linter.unusedSimpArgs false
set_option linter.unusedVariables false

set_option maxHeartbeats 1600000 in
theorem sums_walk (an ad bn bd : Int) (w : World) (hM : Mo w) :
    Calls Tryd.prog 4 #[.agg #[.int .i64 an, .int .i64 ad], .agg #[.int .i64 bn, .int .i64 bd]] w fun e w' => e = .returned (.bool true) ∧ Bl w w' := by
  obtain ⟨m1, m2, m3, hm⟩ : ∃ m1 m2 m3, addF an ad bn bd = (m1, m2, m3) := ⟨_, _, _, rfl⟩
  have Hm := Lib.hid hm
  clear hm
  obtain ⟨d1, d2, d3, hd⟩ : ∃ d1 d2 d3, subF an ad bn bd = (d1, d2, d3) := ⟨_, _, _, rfl⟩
  have Hd := Lib.hid hd
  clear hd
  obtain ⟨f1, f2, f3, hf⟩ : ∃ f1 f2 f3, mulF an ad bn bd = (f1, f2, f3) := ⟨_, _, _, rfl⟩
  have Hf := Lib.hid hf
  clear hf
  have HM := Lib.hid hM
  clear hM
  go_enter Tryd.func4, Tryd.ntmps4
  go_wp2_with fail
  refine (add_any _ _ _ _ _).mono ?_
  rintro e w1 ⟨rfl, hb⟩
  obtain ⟨ka0, ka1, kaf, kag, kal⟩ := kept2 (b := w.heap.size) (x := .int .i64 an) (y := .int .i64 ad) hb ⟨by go_cell, by go_cell, (by (try simp only [frozen?_alloc_cells, World.frozen?_setCell, fz_drew, fz_drewN]); first | assumption | exact frozen_beyond (by (try simp only [World.size_alloc, World.size_setCell, World.size_drew, sz_drewN]); omega)), (by (try simp only [frozen?_alloc_cells, World.frozen?_setCell, fz_drew, fz_drewN]); first | assumption | exact frozen_beyond (by (try simp only [World.size_alloc, World.size_setCell, World.size_drew, sz_drewN]); omega)), (by (try simp only [World.size_alloc, World.size_setCell, World.size_drew, sz_drewN]); omega)⟩
  obtain ⟨kb0, kb1, kbf, kbg, kbl⟩ := kept2 (b := w.heap.size + 1) (x := .int .i64 bn) (y := .int .i64 bd) hb ⟨by go_cell, by go_cell, (by (try simp only [frozen?_alloc_cells, World.frozen?_setCell, fz_drew, fz_drewN]); first | assumption | exact frozen_beyond (by (try simp only [World.size_alloc, World.size_setCell, World.size_drew, sz_drewN]); omega)), (by (try simp only [frozen?_alloc_cells, World.frozen?_setCell, fz_drew, fz_drewN]); first | assumption | exact frozen_beyond (by (try simp only [World.size_alloc, World.size_setCell, World.size_drew, sz_drewN]); omega)), (by (try simp only [World.size_alloc, World.size_setCell, World.size_drew, sz_drewN]); omega)⟩
  have B1 : Bl w w1 := Bl.tr (by go_grown) hb
  clear hb
  rw [Hm.out]
  unfold rR
  go_wp2_with fail
  refine (radd_any _ _ _ _ _).mono ?_
  rintro e w2 ⟨rfl, hb⟩
  obtain ⟨ka0, ka1, kaf, kag, kal⟩ := kept2 (b := w.heap.size) (x := .int .i64 an) (y := .int .i64 ad) hb ⟨by go_cell, by go_cell, (by (try simp only [frozen?_alloc_cells, World.frozen?_setCell, fz_drew, fz_drewN]); first | assumption | exact frozen_beyond (by (try simp only [World.size_alloc, World.size_setCell, World.size_drew, sz_drewN]); omega)), (by (try simp only [frozen?_alloc_cells, World.frozen?_setCell, fz_drew, fz_drewN]); first | assumption | exact frozen_beyond (by (try simp only [World.size_alloc, World.size_setCell, World.size_drew, sz_drewN]); omega)), (by (try simp only [World.size_alloc, World.size_setCell, World.size_drew, sz_drewN]); omega)⟩
  obtain ⟨kb0, kb1, kbf, kbg, kbl⟩ := kept2 (b := w.heap.size + 1) (x := .int .i64 bn) (y := .int .i64 bd) hb ⟨by go_cell, by go_cell, (by (try simp only [frozen?_alloc_cells, World.frozen?_setCell, fz_drew, fz_drewN]); first | assumption | exact frozen_beyond (by (try simp only [World.size_alloc, World.size_setCell, World.size_drew, sz_drewN]); omega)), (by (try simp only [frozen?_alloc_cells, World.frozen?_setCell, fz_drew, fz_drewN]); first | assumption | exact frozen_beyond (by (try simp only [World.size_alloc, World.size_setCell, World.size_drew, sz_drewN]); omega)), (by (try simp only [World.size_alloc, World.size_setCell, World.size_drew, sz_drewN]); omega)⟩
  obtain ⟨kx0, kx1, kxf, kxg, kxl⟩ := kept2 (b := w1.heap.size) (x := .int .i64 m1) (y := .int .i64 m2) hb ⟨by go_cell, by go_cell, (by (try simp only [frozen?_alloc_cells, World.frozen?_setCell, fz_drew, fz_drewN]); first | assumption | exact frozen_beyond (by (try simp only [World.size_alloc, World.size_setCell, World.size_drew, sz_drewN]); omega)), (by (try simp only [frozen?_alloc_cells, World.frozen?_setCell, fz_drew, fz_drewN]); first | assumption | exact frozen_beyond (by (try simp only [World.size_alloc, World.size_setCell, World.size_drew, sz_drewN]); omega)), (by (try simp only [World.size_alloc, World.size_setCell, World.size_drew, sz_drewN]); omega)⟩
  have B2 : Bl w w2 := Below.trans (by go_grown) (hb.mono (by (try simp only [World.size_alloc, World.size_setCell, World.size_drew, sz_drewN]); omega))
  clear hb
  rw [Hm.out]
  unfold rR
  go_wp2_with fail
  refine (sub_any _ _ _ _ _).mono ?_
  rintro e w3 ⟨rfl, hb⟩
  obtain ⟨ka0, ka1, kaf, kag, kal⟩ := kept2 (b := w.heap.size) (x := .int .i64 an) (y := .int .i64 ad) hb ⟨by go_cell, by go_cell, (by (try simp only [frozen?_alloc_cells, World.frozen?_setCell, fz_drew, fz_drewN]); first | assumption | exact frozen_beyond (by (try simp only [World.size_alloc, World.size_setCell, World.size_drew, sz_drewN]); omega)), (by (try simp only [frozen?_alloc_cells, World.frozen?_setCell, fz_drew, fz_drewN]); first | assumption | exact frozen_beyond (by (try simp only [World.size_alloc, World.size_setCell, World.size_drew, sz_drewN]); omega)), (by (try simp only [World.size_alloc, World.size_setCell, World.size_drew, sz_drewN]); omega)⟩
  obtain ⟨kb0, kb1, kbf, kbg, kbl⟩ := kept2 (b := w.heap.size + 1) (x := .int .i64 bn) (y := .int .i64 bd) hb ⟨by go_cell, by go_cell, (by (try simp only [frozen?_alloc_cells, World.frozen?_setCell, fz_drew, fz_drewN]); first | assumption | exact frozen_beyond (by (try simp only [World.size_alloc, World.size_setCell, World.size_drew, sz_drewN]); omega)), (by (try simp only [frozen?_alloc_cells, World.frozen?_setCell, fz_drew, fz_drewN]); first | assumption | exact frozen_beyond (by (try simp only [World.size_alloc, World.size_setCell, World.size_drew, sz_drewN]); omega)), (by (try simp only [World.size_alloc, World.size_setCell, World.size_drew, sz_drewN]); omega)⟩
  obtain ⟨kx0, kx1, kxf, kxg, kxl⟩ := kept2 (b := w1.heap.size) (x := .int .i64 m1) (y := .int .i64 m2) hb ⟨by go_cell, by go_cell, (by (try simp only [frozen?_alloc_cells, World.frozen?_setCell, fz_drew, fz_drewN]); first | assumption | exact frozen_beyond (by (try simp only [World.size_alloc, World.size_setCell, World.size_drew, sz_drewN]); omega)), (by (try simp only [frozen?_alloc_cells, World.frozen?_setCell, fz_drew, fz_drewN]); first | assumption | exact frozen_beyond (by (try simp only [World.size_alloc, World.size_setCell, World.size_drew, sz_drewN]); omega)), (by (try simp only [World.size_alloc, World.size_setCell, World.size_drew, sz_drewN]); omega)⟩
  obtain ⟨ky0, ky1, kyf, kyg, kyl⟩ := kept2 (b := w2.heap.size) (x := .int .i64 m1) (y := .int .i64 m2) hb ⟨by go_cell, by go_cell, (by (try simp only [frozen?_alloc_cells, World.frozen?_setCell, fz_drew, fz_drewN]); first | assumption | exact frozen_beyond (by (try simp only [World.size_alloc, World.size_setCell, World.size_drew, sz_drewN]); omega)), (by (try simp only [frozen?_alloc_cells, World.frozen?_setCell, fz_drew, fz_drewN]); first | assumption | exact frozen_beyond (by (try simp only [World.size_alloc, World.size_setCell, World.size_drew, sz_drewN]); omega)), (by (try simp only [World.size_alloc, World.size_setCell, World.size_drew, sz_drewN]); omega)⟩
  have B3 : Bl w w3 := Below.trans (by go_grown) (hb.mono (by (try simp only [World.size_alloc, World.size_setCell, World.size_drew, sz_drewN]); omega))
  clear hb
  rw [Hd.out]
  unfold rR
  go_wp2_with fail
  refine (rsub_any _ _ _ _ _).mono ?_
  rintro e w4 ⟨rfl, hb⟩
  obtain ⟨ka0, ka1, kaf, kag, kal⟩ := kept2 (b := w.heap.size) (x := .int .i64 an) (y := .int .i64 ad) hb ⟨by go_cell, by go_cell, (by (try simp only [frozen?_alloc_cells, World.frozen?_setCell, fz_drew, fz_drewN]); first | assumption | exact frozen_beyond (by (try simp only [World.size_alloc, World.size_setCell, World.size_drew, sz_drewN]); omega)), (by (try simp only [frozen?_alloc_cells, World.frozen?_setCell, fz_drew, fz_drewN]); first | assumption | exact frozen_beyond (by (try simp only [World.size_alloc, World.size_setCell, World.size_drew, sz_drewN]); omega)), (by (try simp only [World.size_alloc, World.size_setCell, World.size_drew, sz_drewN]); omega)⟩
  obtain ⟨kb0, kb1, kbf, kbg, kbl⟩ := kept2 (b := w.heap.size + 1) (x := .int .i64 bn) (y := .int .i64 bd) hb ⟨by go_cell, by go_cell, (by (try simp only [frozen?_alloc_cells, World.frozen?_setCell, fz_drew, fz_drewN]); first | assumption | exact frozen_beyond (by (try simp only [World.size_alloc, World.size_setCell, World.size_drew, sz_drewN]); omega)), (by (try simp only [frozen?_alloc_cells, World.frozen?_setCell, fz_drew, fz_drewN]); first | assumption | exact frozen_beyond (by (try simp only [World.size_alloc, World.size_setCell, World.size_drew, sz_drewN]); omega)), (by (try simp only [World.size_alloc, World.size_setCell, World.size_drew, sz_drewN]); omega)⟩
  obtain ⟨kx0, kx1, kxf, kxg, kxl⟩ := kept2 (b := w1.heap.size) (x := .int .i64 d1) (y := .int .i64 d2) hb ⟨by go_cell, by go_cell, (by (try simp only [frozen?_alloc_cells, World.frozen?_setCell, fz_drew, fz_drewN]); first | assumption | exact frozen_beyond (by (try simp only [World.size_alloc, World.size_setCell, World.size_drew, sz_drewN]); omega)), (by (try simp only [frozen?_alloc_cells, World.frozen?_setCell, fz_drew, fz_drewN]); first | assumption | exact frozen_beyond (by (try simp only [World.size_alloc, World.size_setCell, World.size_drew, sz_drewN]); omega)), (by (try simp only [World.size_alloc, World.size_setCell, World.size_drew, sz_drewN]); omega)⟩
  obtain ⟨ky0, ky1, kyf, kyg, kyl⟩ := kept2 (b := w2.heap.size) (x := .int .i64 m1) (y := .int .i64 m2) hb ⟨by go_cell, by go_cell, (by (try simp only [frozen?_alloc_cells, World.frozen?_setCell, fz_drew, fz_drewN]); first | assumption | exact frozen_beyond (by (try simp only [World.size_alloc, World.size_setCell, World.size_drew, sz_drewN]); omega)), (by (try simp only [frozen?_alloc_cells, World.frozen?_setCell, fz_drew, fz_drewN]); first | assumption | exact frozen_beyond (by (try simp only [World.size_alloc, World.size_setCell, World.size_drew, sz_drewN]); omega)), (by (try simp only [World.size_alloc, World.size_setCell, World.size_drew, sz_drewN]); omega)⟩
  have B4 : Bl w w4 := Below.trans (by go_grown) (hb.mono (by (try simp only [World.size_alloc, World.size_setCell, World.size_drew, sz_drewN]); omega))
  clear hb
  rw [Hd.out]
  unfold rR
  go_wp2_with fail
  refine (mul_any _ _ _ _ _).mono ?_
  rintro e w5 ⟨rfl, hb⟩
  obtain ⟨ka0, ka1, kaf, kag, kal⟩ := kept2 (b := w.heap.size) (x := .int .i64 an) (y := .int .i64 ad) hb ⟨by go_cell, by go_cell, (by (try simp only [frozen?_alloc_cells, World.frozen?_setCell, fz_drew, fz_drewN]); first | assumption | exact frozen_beyond (by (try simp only [World.size_alloc, World.size_setCell, World.size_drew, sz_drewN]); omega)), (by (try simp only [frozen?_alloc_cells, World.frozen?_setCell, fz_drew, fz_drewN]); first | assumption | exact frozen_beyond (by (try simp only [World.size_alloc, World.size_setCell, World.size_drew, sz_drewN]); omega)), (by (try simp only [World.size_alloc, World.size_setCell, World.size_drew, sz_drewN]); omega)⟩
  obtain ⟨kb0, kb1, kbf, kbg, kbl⟩ := kept2 (b := w.heap.size + 1) (x := .int .i64 bn) (y := .int .i64 bd) hb ⟨by go_cell, by go_cell, (by (try simp only [frozen?_alloc_cells, World.frozen?_setCell, fz_drew, fz_drewN]); first | assumption | exact frozen_beyond (by (try simp only [World.size_alloc, World.size_setCell, World.size_drew, sz_drewN]); omega)), (by (try simp only [frozen?_alloc_cells, World.frozen?_setCell, fz_drew, fz_drewN]); first | assumption | exact frozen_beyond (by (try simp only [World.size_alloc, World.size_setCell, World.size_drew, sz_drewN]); omega)), (by (try simp only [World.size_alloc, World.size_setCell, World.size_drew, sz_drewN]); omega)⟩
  obtain ⟨kx0, kx1, kxf, kxg, kxl⟩ := kept2 (b := w1.heap.size) (x := .int .i64 d1) (y := .int .i64 d2) hb ⟨by go_cell, by go_cell, (by (try simp only [frozen?_alloc_cells, World.frozen?_setCell, fz_drew, fz_drewN]); first | assumption | exact frozen_beyond (by (try simp only [World.size_alloc, World.size_setCell, World.size_drew, sz_drewN]); omega)), (by (try simp only [frozen?_alloc_cells, World.frozen?_setCell, fz_drew, fz_drewN]); first | assumption | exact frozen_beyond (by (try simp only [World.size_alloc, World.size_setCell, World.size_drew, sz_drewN]); omega)), (by (try simp only [World.size_alloc, World.size_setCell, World.size_drew, sz_drewN]); omega)⟩
  obtain ⟨ky0, ky1, kyf, kyg, kyl⟩ := kept2 (b := w2.heap.size) (x := .int .i64 d1) (y := .int .i64 d2) hb ⟨by go_cell, by go_cell, (by (try simp only [frozen?_alloc_cells, World.frozen?_setCell, fz_drew, fz_drewN]); first | assumption | exact frozen_beyond (by (try simp only [World.size_alloc, World.size_setCell, World.size_drew, sz_drewN]); omega)), (by (try simp only [frozen?_alloc_cells, World.frozen?_setCell, fz_drew, fz_drewN]); first | assumption | exact frozen_beyond (by (try simp only [World.size_alloc, World.size_setCell, World.size_drew, sz_drewN]); omega)), (by (try simp only [World.size_alloc, World.size_setCell, World.size_drew, sz_drewN]); omega)⟩
  have B5 : Bl w w5 := Below.trans (by go_grown) (hb.mono (by (try simp only [World.size_alloc, World.size_setCell, World.size_drew, sz_drewN]); omega))
  clear hb
  rw [Hf.out]
  unfold rR
  go_wp2_with fail
  refine (rmul_any _ _ _ _ _).mono ?_
  rintro e w6 ⟨rfl, hb⟩
  obtain ⟨ka0, ka1, kaf, kag, kal⟩ := kept2 (b := w.heap.size) (x := .int .i64 an) (y := .int .i64 ad) hb ⟨by go_cell, by go_cell, (by (try simp only [frozen?_alloc_cells, World.frozen?_setCell, fz_drew, fz_drewN]); first | assumption | exact frozen_beyond (by (try simp only [World.size_alloc, World.size_setCell, World.size_drew, sz_drewN]); omega)), (by (try simp only [frozen?_alloc_cells, World.frozen?_setCell, fz_drew, fz_drewN]); first | assumption | exact frozen_beyond (by (try simp only [World.size_alloc, World.size_setCell, World.size_drew, sz_drewN]); omega)), (by (try simp only [World.size_alloc, World.size_setCell, World.size_drew, sz_drewN]); omega)⟩
  obtain ⟨kb0, kb1, kbf, kbg, kbl⟩ := kept2 (b := w.heap.size + 1) (x := .int .i64 bn) (y := .int .i64 bd) hb ⟨by go_cell, by go_cell, (by (try simp only [frozen?_alloc_cells, World.frozen?_setCell, fz_drew, fz_drewN]); first | assumption | exact frozen_beyond (by (try simp only [World.size_alloc, World.size_setCell, World.size_drew, sz_drewN]); omega)), (by (try simp only [frozen?_alloc_cells, World.frozen?_setCell, fz_drew, fz_drewN]); first | assumption | exact frozen_beyond (by (try simp only [World.size_alloc, World.size_setCell, World.size_drew, sz_drewN]); omega)), (by (try simp only [World.size_alloc, World.size_setCell, World.size_drew, sz_drewN]); omega)⟩
  obtain ⟨kx0, kx1, kxf, kxg, kxl⟩ := kept2 (b := w1.heap.size) (x := .int .i64 f1) (y := .int .i64 f2) hb ⟨by go_cell, by go_cell, (by (try simp only [frozen?_alloc_cells, World.frozen?_setCell, fz_drew, fz_drewN]); first | assumption | exact frozen_beyond (by (try simp only [World.size_alloc, World.size_setCell, World.size_drew, sz_drewN]); omega)), (by (try simp only [frozen?_alloc_cells, World.frozen?_setCell, fz_drew, fz_drewN]); first | assumption | exact frozen_beyond (by (try simp only [World.size_alloc, World.size_setCell, World.size_drew, sz_drewN]); omega)), (by (try simp only [World.size_alloc, World.size_setCell, World.size_drew, sz_drewN]); omega)⟩
  obtain ⟨ky0, ky1, kyf, kyg, kyl⟩ := kept2 (b := w2.heap.size) (x := .int .i64 d1) (y := .int .i64 d2) hb ⟨by go_cell, by go_cell, (by (try simp only [frozen?_alloc_cells, World.frozen?_setCell, fz_drew, fz_drewN]); first | assumption | exact frozen_beyond (by (try simp only [World.size_alloc, World.size_setCell, World.size_drew, sz_drewN]); omega)), (by (try simp only [frozen?_alloc_cells, World.frozen?_setCell, fz_drew, fz_drewN]); first | assumption | exact frozen_beyond (by (try simp only [World.size_alloc, World.size_setCell, World.size_drew, sz_drewN]); omega)), (by (try simp only [World.size_alloc, World.size_setCell, World.size_drew, sz_drewN]); omega)⟩
  have B6 : Bl w w6 := Below.trans (by go_grown) (hb.mono (by (try simp only [World.size_alloc, World.size_setCell, World.size_drew, sz_drewN]); omega))
  clear hb
  rw [Hf.out]
  unfold rR
  go_wp2_with fail
  obtain ⟨W, hW⟩ : ∃ W, W = (w6.setCell { block := w2.heap.size, off := 0 } (Value.int IntKind.i64 f1)).setCell { block := w2.heap.size, off := 1 } (Value.int IntKind.i64 f2) := ⟨_, rfl⟩
  have BW : Bl w W := by rw [hW]; go_grown
  have q00 : W.cell? ⟨w1.heap.size, 0, none⟩ = some (.int .i64 f1) := by rw [hW]; go_cell
  have q01 : W.cell? ⟨w1.heap.size, 1, none⟩ = some (.int .i64 f2) := by rw [hW]; go_cell
  have q10 : W.cell? ⟨w2.heap.size, 0, none⟩ = some (.int .i64 f1) := by rw [hW]; go_cell
  have q11 : W.cell? ⟨w2.heap.size, 1, none⟩ = some (.int .i64 f2) := by rw [hW]; go_cell
  have q20 : W.cell? ⟨w.heap.size, 0, none⟩ = some (.int .i64 an) := by rw [hW]; go_cell
  have q21 : W.cell? ⟨w.heap.size, 1, none⟩ = some (.int .i64 ad) := by rw [hW]; go_cell
  have q30 : W.cell? ⟨w.heap.size + 1, 0, none⟩ = some (.int .i64 bn) := by rw [hW]; go_cell
  have q31 : W.cell? ⟨w.heap.size + 1, 1, none⟩ = some (.int .i64 bd) := by rw [hW]; go_cell
  rw [← hW]
  clear hW
  have hS : Hx4 W (w1.heap.size) (w2.heap.size) (w.heap.size) (w.heap.size + 1) (.int .i64 f1) (.int .i64 f2) (.int .i64 f1) (.int .i64 f2) (.int .i64 an) (.int .i64 ad) (.int .i64 bn) (.int .i64 bd) W := ⟨Bl.rf _, q00, q01, q10, q11, q20, q21, q30, q31, lt_of_cell' q00, lt_of_cell' q10, lt_of_cell' q20, lt_of_cell' q30⟩
  have HMW : Hid (Mo W) := HM.out.below BW
  go_region_held3 (fun w' => Bl W w' ∧ w'.cell? ⟨w1.heap.size, 0, none⟩ = some (.int .i64 f1) ∧ w'.cell? ⟨w1.heap.size, 1, none⟩ = some (.int .i64 f2) ∧ w'.cell? ⟨w2.heap.size, 0, none⟩ = some (.int .i64 f1) ∧ w'.cell? ⟨w2.heap.size, 1, none⟩ = some (.int .i64 f2) ∧ w'.cell? ⟨w.heap.size, 0, none⟩ = some (.int .i64 an) ∧ w'.cell? ⟨w.heap.size, 1, none⟩ = some (.int .i64 ad) ∧ w'.cell? ⟨w.heap.size + 1, 0, none⟩ = some (.int .i64 bn) ∧ w'.cell? ⟨w.heap.size + 1, 1, none⟩ = some (.int .i64 bd) ∧ w1.heap.size < W.heap.size ∧ w2.heap.size < W.heap.size ∧ w.heap.size < W.heap.size ∧ w.heap.size + 1 < W.heap.size) (first | exact Hx4.t hS (Bl.dn _ 1) | exact Hx4.t (by assumption) hh0 | exact Hx4.t (by assumption) hh1 | exact Hx4.t (by assumption) hh2) (first | (go_at_call 27; refine (cmp_any _ _ _ _ _).mono ?_; rintro e v0 ⟨rfl, hh0⟩) | (go_at_call 28; refine (rcmp_any _ _ _ _ _).mono ?_; rintro e v1 ⟨rfl, hh1⟩) | (go_at_call 20; refine (awake_any _ ?_).mono ?_; exact Hx4.mo (by assumption) HMW.out; rintro e v2 ⟨rfl, hh2⟩))
  go_wp2
  go_ret
  exact ⟨rfl, BW.tr (Hx4.bl (by assumption))⟩
end Go.Proofs.YtiljfhkkinddeaaDoor
