/-
  The walks of the laws on spans.
-/
import Derived.Test.YtiljfhkkinddeaaDoorQ
namespace Go.Proofs.YtiljfhkkinddeaaDoor
open Go.RowKit Cal
set_option linter.unusedSimpArgs false
set_option linter.unusedVariables false


set_option maxHeartbeats 800000 in
theorem meets_walk (al ah bl bh n : Int) (w : World) (hM : Mo w) :
    Calls Tryd.prog 7 #[.agg #[.int .i64 al, .int .i64 ah], .agg #[.int .i64 bl, .int .i64 bh], .int .i64 n] w fun e w' => e = .returned (.bool true) ∧ Bl w w' := by
  obtain ⟨m1, m2, m3, hm⟩ : ∃ m1 m2 m3, meetF al ah bl bh = (m1, m2, m3) := ⟨_, _, _, rfl⟩
  have Hm := Lib.hid hm
  clear hm
  obtain ⟨d1, d2, d3, hd⟩ : ∃ d1 d2 d3, widF al ah n = (d1, d2, d3) := ⟨_, _, _, rfl⟩
  have Hd := Lib.hid hd
  clear hd
  have HM := Lib.hid hM
  clear hM
  go_enter Tryd.func7, Tryd.ntmps7
  go_wp2_with fail
  refine (meet_any _ _ _ _ _).mono ?_
  rintro e w1 ⟨rfl, hb⟩
  obtain ⟨ka0, ka1, kaf, kag, kal⟩ := kept2 (b := w.heap.size) (x := .int .i64 al) (y := .int .i64 ah) hb ⟨by go_cell, by go_cell, (by (try simp only [frozen?_alloc_cells, World.frozen?_setCell, fz_drew, fz_drewN]); first | assumption | exact frozen_beyond (by (try simp only [World.size_alloc, World.size_setCell, World.size_drew, sz_drewN]); omega)), (by (try simp only [frozen?_alloc_cells, World.frozen?_setCell, fz_drew, fz_drewN]); first | assumption | exact frozen_beyond (by (try simp only [World.size_alloc, World.size_setCell, World.size_drew, sz_drewN]); omega)), (by (try simp only [World.size_alloc, World.size_setCell, World.size_drew, sz_drewN]); omega)⟩
  obtain ⟨kb0, kb1, kbf, kbg, kbl⟩ := kept2 (b := w.heap.size + 1) (x := .int .i64 bl) (y := .int .i64 bh) hb ⟨by go_cell, by go_cell, (by (try simp only [frozen?_alloc_cells, World.frozen?_setCell, fz_drew, fz_drewN]); first | assumption | exact frozen_beyond (by (try simp only [World.size_alloc, World.size_setCell, World.size_drew, sz_drewN]); omega)), (by (try simp only [frozen?_alloc_cells, World.frozen?_setCell, fz_drew, fz_drewN]); first | assumption | exact frozen_beyond (by (try simp only [World.size_alloc, World.size_setCell, World.size_drew, sz_drewN]); omega)), (by (try simp only [World.size_alloc, World.size_setCell, World.size_drew, sz_drewN]); omega)⟩
  have B1 : Bl w w1 := Bl.tr (by go_grown) hb
  clear hb
  rw [Hm.out]
  unfold rS
  go_wp2_with fail
  refine (rmeet_any _ _ _ _ _).mono ?_
  rintro e w2 ⟨rfl, hb⟩
  obtain ⟨ka0, ka1, kaf, kag, kal⟩ := kept2 (b := w.heap.size) (x := .int .i64 al) (y := .int .i64 ah) hb ⟨by go_cell, by go_cell, (by (try simp only [frozen?_alloc_cells, World.frozen?_setCell, fz_drew, fz_drewN]); first | assumption | exact frozen_beyond (by (try simp only [World.size_alloc, World.size_setCell, World.size_drew, sz_drewN]); omega)), (by (try simp only [frozen?_alloc_cells, World.frozen?_setCell, fz_drew, fz_drewN]); first | assumption | exact frozen_beyond (by (try simp only [World.size_alloc, World.size_setCell, World.size_drew, sz_drewN]); omega)), (by (try simp only [World.size_alloc, World.size_setCell, World.size_drew, sz_drewN]); omega)⟩
  obtain ⟨kb0, kb1, kbf, kbg, kbl⟩ := kept2 (b := w.heap.size + 1) (x := .int .i64 bl) (y := .int .i64 bh) hb ⟨by go_cell, by go_cell, (by (try simp only [frozen?_alloc_cells, World.frozen?_setCell, fz_drew, fz_drewN]); first | assumption | exact frozen_beyond (by (try simp only [World.size_alloc, World.size_setCell, World.size_drew, sz_drewN]); omega)), (by (try simp only [frozen?_alloc_cells, World.frozen?_setCell, fz_drew, fz_drewN]); first | assumption | exact frozen_beyond (by (try simp only [World.size_alloc, World.size_setCell, World.size_drew, sz_drewN]); omega)), (by (try simp only [World.size_alloc, World.size_setCell, World.size_drew, sz_drewN]); omega)⟩
  obtain ⟨kx0, kx1, kxf, kxg, kxl⟩ := kept2 (b := w1.heap.size) (x := .int .i64 m1) (y := .int .i64 m2) hb ⟨by go_cell, by go_cell, (by (try simp only [frozen?_alloc_cells, World.frozen?_setCell, fz_drew, fz_drewN]); first | assumption | exact frozen_beyond (by (try simp only [World.size_alloc, World.size_setCell, World.size_drew, sz_drewN]); omega)), (by (try simp only [frozen?_alloc_cells, World.frozen?_setCell, fz_drew, fz_drewN]); first | assumption | exact frozen_beyond (by (try simp only [World.size_alloc, World.size_setCell, World.size_drew, sz_drewN]); omega)), (by (try simp only [World.size_alloc, World.size_setCell, World.size_drew, sz_drewN]); omega)⟩
  have B2 : Bl w w2 := Below.trans (by go_grown) (hb.mono (by (try simp only [World.size_alloc, World.size_setCell, World.size_drew, sz_drewN]); omega))
  clear hb
  rw [Hm.out]
  unfold rS
  go_wp2_with fail
  refine (wid_any _ _ _ _).mono ?_
  rintro e w3 ⟨rfl, hb⟩
  obtain ⟨ka0, ka1, kaf, kag, kal⟩ := kept2 (b := w.heap.size) (x := .int .i64 al) (y := .int .i64 ah) hb ⟨by go_cell, by go_cell, (by (try simp only [frozen?_alloc_cells, World.frozen?_setCell, fz_drew, fz_drewN]); first | assumption | exact frozen_beyond (by (try simp only [World.size_alloc, World.size_setCell, World.size_drew, sz_drewN]); omega)), (by (try simp only [frozen?_alloc_cells, World.frozen?_setCell, fz_drew, fz_drewN]); first | assumption | exact frozen_beyond (by (try simp only [World.size_alloc, World.size_setCell, World.size_drew, sz_drewN]); omega)), (by (try simp only [World.size_alloc, World.size_setCell, World.size_drew, sz_drewN]); omega)⟩
  obtain ⟨kx0, kx1, kxf, kxg, kxl⟩ := kept2 (b := w1.heap.size) (x := .int .i64 m1) (y := .int .i64 m2) hb ⟨by go_cell, by go_cell, (by (try simp only [frozen?_alloc_cells, World.frozen?_setCell, fz_drew, fz_drewN]); first | assumption | exact frozen_beyond (by (try simp only [World.size_alloc, World.size_setCell, World.size_drew, sz_drewN]); omega)), (by (try simp only [frozen?_alloc_cells, World.frozen?_setCell, fz_drew, fz_drewN]); first | assumption | exact frozen_beyond (by (try simp only [World.size_alloc, World.size_setCell, World.size_drew, sz_drewN]); omega)), (by (try simp only [World.size_alloc, World.size_setCell, World.size_drew, sz_drewN]); omega)⟩
  obtain ⟨ky0, ky1, kyf, kyg, kyl⟩ := kept2 (b := w2.heap.size) (x := .int .i64 m1) (y := .int .i64 m2) hb ⟨by go_cell, by go_cell, (by (try simp only [frozen?_alloc_cells, World.frozen?_setCell, fz_drew, fz_drewN]); first | assumption | exact frozen_beyond (by (try simp only [World.size_alloc, World.size_setCell, World.size_drew, sz_drewN]); omega)), (by (try simp only [frozen?_alloc_cells, World.frozen?_setCell, fz_drew, fz_drewN]); first | assumption | exact frozen_beyond (by (try simp only [World.size_alloc, World.size_setCell, World.size_drew, sz_drewN]); omega)), (by (try simp only [World.size_alloc, World.size_setCell, World.size_drew, sz_drewN]); omega)⟩
  have B3 : Bl w w3 := Below.trans (by go_grown) (hb.mono (by (try simp only [World.size_alloc, World.size_setCell, World.size_drew, sz_drewN]); omega))
  clear hb
  rw [Hd.out]
  unfold rS
  go_wp2_with fail
  refine (rwid_any _ _ _ _).mono ?_
  rintro e w4 ⟨rfl, hb⟩
  obtain ⟨kx0, kx1, kxf, kxg, kxl⟩ := kept2 (b := w1.heap.size) (x := .int .i64 d1) (y := .int .i64 d2) hb ⟨by go_cell, by go_cell, (by (try simp only [frozen?_alloc_cells, World.frozen?_setCell, fz_drew, fz_drewN]); first | assumption | exact frozen_beyond (by (try simp only [World.size_alloc, World.size_setCell, World.size_drew, sz_drewN]); omega)), (by (try simp only [frozen?_alloc_cells, World.frozen?_setCell, fz_drew, fz_drewN]); first | assumption | exact frozen_beyond (by (try simp only [World.size_alloc, World.size_setCell, World.size_drew, sz_drewN]); omega)), (by (try simp only [World.size_alloc, World.size_setCell, World.size_drew, sz_drewN]); omega)⟩
  obtain ⟨ky0, ky1, kyf, kyg, kyl⟩ := kept2 (b := w2.heap.size) (x := .int .i64 m1) (y := .int .i64 m2) hb ⟨by go_cell, by go_cell, (by (try simp only [frozen?_alloc_cells, World.frozen?_setCell, fz_drew, fz_drewN]); first | assumption | exact frozen_beyond (by (try simp only [World.size_alloc, World.size_setCell, World.size_drew, sz_drewN]); omega)), (by (try simp only [frozen?_alloc_cells, World.frozen?_setCell, fz_drew, fz_drewN]); first | assumption | exact frozen_beyond (by (try simp only [World.size_alloc, World.size_setCell, World.size_drew, sz_drewN]); omega)), (by (try simp only [World.size_alloc, World.size_setCell, World.size_drew, sz_drewN]); omega)⟩
  have B4 : Bl w w4 := Below.trans (by go_grown) (hb.mono (by (try simp only [World.size_alloc, World.size_setCell, World.size_drew, sz_drewN]); omega))
  clear hb
  rw [Hd.out]
  unfold rS
  go_wp2_with fail
  refine (awake_any _ (HM.out.below (by go_grown))).mono ?_
  rintro e w5 ⟨rfl, hb⟩
  have B5 : Bl w w5 := Below.trans (by go_grown) (hb.mono (by (try simp only [World.size_alloc, World.size_setCell, World.size_drew, sz_drewN]); omega))
  clear hb
  go_wp2
  go_ret
  exact ⟨rfl, by go_grown⟩
end Go.Proofs.YtiljfhkkinddeaaDoor
