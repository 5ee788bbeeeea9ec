/-
  The walk of a law on fractions.
-/
import Derived.Test.YtiljfhkkinddeaaDoorS
namespace Go.Proofs.YtiljfhkkinddeaaDoor
open Go.RowKit Cal
set_option linter.unusedSimpArgs false
set_option linter.unusedVariables false

set_option maxHeartbeats 1600000 in
theorem ratios_walk (an ad n d : Int) (w : World) (hM : Mo w) :
    Calls Tryd.prog 3 #[.agg #[.int .i64 an, .int .i64 ad], .int .i64 n, .int .i64 d] w fun e w' => e = .returned (.bool true) ∧ Bl w w' := by
  obtain ⟨m1, m2, m3, hm⟩ : ∃ m1 m2 m3, makeF n d = (m1, m2, m3) := ⟨_, _, _, rfl⟩
  have Hm := Lib.hid hm
  clear hm
  obtain ⟨f1, f2, hf⟩ : ∃ f1 f2, floorF an ad = (f1, f2) := ⟨_, _, rfl⟩
  have Hf := Lib.hid hf
  clear hf
  have HM := Lib.hid hM
  clear hM
  go_enter Tryd.func3, Tryd.ntmps3
  go_wp2_with fail
  refine (make_any _ _ _).mono ?_
  rintro e w1 ⟨rfl, hb⟩
  obtain ⟨ka0, ka1, kaf, kag, kal⟩ := kept2 (b := w.heap.size) (x := .int .i64 an) (y := .int .i64 ad) hb ⟨by go_cell, by go_cell, (by (try simp only [frozen?_alloc_cells, World.frozen?_setCell, fz_drew, fz_drewN]); first | assumption | exact frozen_beyond (by (try simp only [World.size_alloc, World.size_setCell, World.size_drew, sz_drewN]); omega)), (by (try simp only [frozen?_alloc_cells, World.frozen?_setCell, fz_drew, fz_drewN]); first | assumption | exact frozen_beyond (by (try simp only [World.size_alloc, World.size_setCell, World.size_drew, sz_drewN]); omega)), (by (try simp only [World.size_alloc, World.size_setCell, World.size_drew, sz_drewN]); omega)⟩
  have B1 : Bl w w1 := Bl.tr (by go_grown) hb
  clear hb
  rw [Hm.out]
  unfold rR
  go_wp2_with fail
  refine (rmake_any _ _ _).mono ?_
  rintro e w2 ⟨rfl, hb⟩
  obtain ⟨ka0, ka1, kaf, kag, kal⟩ := kept2 (b := w.heap.size) (x := .int .i64 an) (y := .int .i64 ad) hb ⟨by go_cell, by go_cell, (by (try simp only [frozen?_alloc_cells, World.frozen?_setCell, fz_drew, fz_drewN]); first | assumption | exact frozen_beyond (by (try simp only [World.size_alloc, World.size_setCell, World.size_drew, sz_drewN]); omega)), (by (try simp only [frozen?_alloc_cells, World.frozen?_setCell, fz_drew, fz_drewN]); first | assumption | exact frozen_beyond (by (try simp only [World.size_alloc, World.size_setCell, World.size_drew, sz_drewN]); omega)), (by (try simp only [World.size_alloc, World.size_setCell, World.size_drew, sz_drewN]); omega)⟩
  obtain ⟨kx0, kx1, kxf, kxg, kxl⟩ := kept2 (b := w1.heap.size) (x := .int .i64 m1) (y := .int .i64 m2) hb ⟨by go_cell, by go_cell, (by (try simp only [frozen?_alloc_cells, World.frozen?_setCell, fz_drew, fz_drewN]); first | assumption | exact frozen_beyond (by (try simp only [World.size_alloc, World.size_setCell, World.size_drew, sz_drewN]); omega)), (by (try simp only [frozen?_alloc_cells, World.frozen?_setCell, fz_drew, fz_drewN]); first | assumption | exact frozen_beyond (by (try simp only [World.size_alloc, World.size_setCell, World.size_drew, sz_drewN]); omega)), (by (try simp only [World.size_alloc, World.size_setCell, World.size_drew, sz_drewN]); omega)⟩
  have B2 : Bl w w2 := Below.trans (by go_grown) (hb.mono (by (try simp only [World.size_alloc, World.size_setCell, World.size_drew, sz_drewN]); omega))
  clear hb
  rw [Hm.out]
  unfold rR
  go_wp2_with fail
  refine (floor_any _ _ _).mono ?_
  rintro e w3 ⟨rfl, hb⟩
  obtain ⟨ka0, ka1, kaf, kag, kal⟩ := kept2 (b := w.heap.size) (x := .int .i64 an) (y := .int .i64 ad) hb ⟨by go_cell, by go_cell, (by (try simp only [frozen?_alloc_cells, World.frozen?_setCell, fz_drew, fz_drewN]); first | assumption | exact frozen_beyond (by (try simp only [World.size_alloc, World.size_setCell, World.size_drew, sz_drewN]); omega)), (by (try simp only [frozen?_alloc_cells, World.frozen?_setCell, fz_drew, fz_drewN]); first | assumption | exact frozen_beyond (by (try simp only [World.size_alloc, World.size_setCell, World.size_drew, sz_drewN]); omega)), (by (try simp only [World.size_alloc, World.size_setCell, World.size_drew, sz_drewN]); omega)⟩
  obtain ⟨kx0, kx1, kxf, kxg, kxl⟩ := kept2 (b := w1.heap.size) (x := .int .i64 m1) (y := .int .i64 m2) hb ⟨by go_cell, by go_cell, (by (try simp only [frozen?_alloc_cells, World.frozen?_setCell, fz_drew, fz_drewN]); first | assumption | exact frozen_beyond (by (try simp only [World.size_alloc, World.size_setCell, World.size_drew, sz_drewN]); omega)), (by (try simp only [frozen?_alloc_cells, World.frozen?_setCell, fz_drew, fz_drewN]); first | assumption | exact frozen_beyond (by (try simp only [World.size_alloc, World.size_setCell, World.size_drew, sz_drewN]); omega)), (by (try simp only [World.size_alloc, World.size_setCell, World.size_drew, sz_drewN]); omega)⟩
  obtain ⟨ky0, ky1, kyf, kyg, kyl⟩ := kept2 (b := w2.heap.size) (x := .int .i64 m1) (y := .int .i64 m2) hb ⟨by go_cell, by go_cell, (by (try simp only [frozen?_alloc_cells, World.frozen?_setCell, fz_drew, fz_drewN]); first | assumption | exact frozen_beyond (by (try simp only [World.size_alloc, World.size_setCell, World.size_drew, sz_drewN]); omega)), (by (try simp only [frozen?_alloc_cells, World.frozen?_setCell, fz_drew, fz_drewN]); first | assumption | exact frozen_beyond (by (try simp only [World.size_alloc, World.size_setCell, World.size_drew, sz_drewN]); omega)), (by (try simp only [World.size_alloc, World.size_setCell, World.size_drew, sz_drewN]); omega)⟩
  have B3 : Bl w w3 := Below.trans (by go_grown) (hb.mono (by (try simp only [World.size_alloc, World.size_setCell, World.size_drew, sz_drewN]); omega))
  clear hb
  rw [Hf.out]
  go_wp2_with fail
  refine (rfloor_any _ _ _).mono ?_
  rintro e w4 ⟨rfl, hb⟩
  obtain ⟨ka0, ka1, kaf, kag, kal⟩ := kept2 (b := w.heap.size) (x := .int .i64 an) (y := .int .i64 ad) hb ⟨by go_cell, by go_cell, (by (try simp only [frozen?_alloc_cells, World.frozen?_setCell, fz_drew, fz_drewN]); first | assumption | exact frozen_beyond (by (try simp only [World.size_alloc, World.size_setCell, World.size_drew, sz_drewN]); omega)), (by (try simp only [frozen?_alloc_cells, World.frozen?_setCell, fz_drew, fz_drewN]); first | assumption | exact frozen_beyond (by (try simp only [World.size_alloc, World.size_setCell, World.size_drew, sz_drewN]); omega)), (by (try simp only [World.size_alloc, World.size_setCell, World.size_drew, sz_drewN]); omega)⟩
  obtain ⟨kx0, kx1, kxf, kxg, kxl⟩ := kept2 (b := w1.heap.size) (x := .int .i64 m1) (y := .int .i64 m2) hb ⟨by go_cell, by go_cell, (by (try simp only [frozen?_alloc_cells, World.frozen?_setCell, fz_drew, fz_drewN]); first | assumption | exact frozen_beyond (by (try simp only [World.size_alloc, World.size_setCell, World.size_drew, sz_drewN]); omega)), (by (try simp only [frozen?_alloc_cells, World.frozen?_setCell, fz_drew, fz_drewN]); first | assumption | exact frozen_beyond (by (try simp only [World.size_alloc, World.size_setCell, World.size_drew, sz_drewN]); omega)), (by (try simp only [World.size_alloc, World.size_setCell, World.size_drew, sz_drewN]); omega)⟩
  obtain ⟨ky0, ky1, kyf, kyg, kyl⟩ := kept2 (b := w2.heap.size) (x := .int .i64 m1) (y := .int .i64 m2) hb ⟨by go_cell, by go_cell, (by (try simp only [frozen?_alloc_cells, World.frozen?_setCell, fz_drew, fz_drewN]); first | assumption | exact frozen_beyond (by (try simp only [World.size_alloc, World.size_setCell, World.size_drew, sz_drewN]); omega)), (by (try simp only [frozen?_alloc_cells, World.frozen?_setCell, fz_drew, fz_drewN]); first | assumption | exact frozen_beyond (by (try simp only [World.size_alloc, World.size_setCell, World.size_drew, sz_drewN]); omega)), (by (try simp only [World.size_alloc, World.size_setCell, World.size_drew, sz_drewN]); omega)⟩
  have B4 : Bl w w4 := Below.trans (by go_grown) (hb.mono (by (try simp only [World.size_alloc, World.size_setCell, World.size_drew, sz_drewN]); omega))
  clear hb
  rw [Hf.out]
  go_wp2_with fail
  obtain ⟨W, hW⟩ : ∃ W, W = w4 := ⟨_, rfl⟩
  have BW : Bl w W := by rw [hW]; go_grown
  have q00 : W.cell? ⟨w1.heap.size, 0, none⟩ = some (.int .i64 m1) := by rw [hW]; go_cell
  have q01 : W.cell? ⟨w1.heap.size, 1, none⟩ = some (.int .i64 m2) := by rw [hW]; go_cell
  have q10 : W.cell? ⟨w2.heap.size, 0, none⟩ = some (.int .i64 m1) := by rw [hW]; go_cell
  have q11 : W.cell? ⟨w2.heap.size, 1, none⟩ = some (.int .i64 m2) := by rw [hW]; go_cell
  have q20 : W.cell? ⟨w.heap.size, 0, none⟩ = some (.int .i64 an) := by rw [hW]; go_cell
  have q21 : W.cell? ⟨w.heap.size, 1, none⟩ = some (.int .i64 ad) := by rw [hW]; go_cell
  rw [← hW]
  clear hW
  have hS : Hx3 W (w1.heap.size) (w2.heap.size) (w.heap.size) (.int .i64 m1) (.int .i64 m2) (.int .i64 m1) (.int .i64 m2) (.int .i64 an) (.int .i64 ad) W := ⟨Bl.rf _, q00, q01, q10, q11, q20, q21, lt_of_cell' q00, lt_of_cell' q10, lt_of_cell' q20⟩
  have HMW : Hid (Mo W) := HM.out.below BW
  go_region_held3 (fun w' => Bl W w' ∧ w'.cell? ⟨w1.heap.size, 0, none⟩ = some (.int .i64 m1) ∧ w'.cell? ⟨w1.heap.size, 1, none⟩ = some (.int .i64 m2) ∧ w'.cell? ⟨w2.heap.size, 0, none⟩ = some (.int .i64 m1) ∧ w'.cell? ⟨w2.heap.size, 1, none⟩ = some (.int .i64 m2) ∧ w'.cell? ⟨w.heap.size, 0, none⟩ = some (.int .i64 an) ∧ w'.cell? ⟨w.heap.size, 1, none⟩ = some (.int .i64 ad) ∧ w1.heap.size < W.heap.size ∧ w2.heap.size < W.heap.size ∧ w.heap.size < W.heap.size) (first | exact Hx3.t hS (Bl.dn _ 1) | exact Hx3.t (by assumption) hh0 | exact Hx3.t (by assumption) hh1 | exact Hx3.t (by assumption) hh2) (first | (go_at_call 18; refine (validRatio_any _ _ _).mono ?_; rintro e v0 ⟨rfl, hh0⟩) | (go_at_call 19; refine (rvalidRatio_any _ _ _).mono ?_; rintro e v1 ⟨rfl, hh1⟩) | (go_at_call 20; refine (awake_any _ ?_).mono ?_; exact Hx3.mo (by assumption) HMW.out; rintro e v2 ⟨rfl, hh2⟩))
  go_wp2
  go_ret
  exact ⟨rfl, BW.tr (Hx3.bl (by assumption))⟩
end Go.Proofs.YtiljfhkkinddeaaDoor
