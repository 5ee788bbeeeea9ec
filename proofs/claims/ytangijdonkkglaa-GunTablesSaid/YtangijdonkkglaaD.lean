/-
  Contracts of package span and of its reference: opposites, wider spans, and the reference's calls on spans.
-/
import Derived.Test.YtangijdonkkglaaC
namespace Go.Proofs.Ytangijdonkkglaa
open Go.RowKit
set_option linter.unusedSimpArgs false


set_option maxHeartbeats 800000 in
theorem opp_any (al ah : Int) (w : World) :
    Calls Try.prog 62 #[.agg #[.int .i64 al, .int .i64 ah]] w fun e w' => e = .returned (rS (oppF al ah)) ∧ Bl w w' := by
  by_cases hv : vS al ah = true
  · obtain ⟨a1, a2, a3⟩ := vS_iff.1 hv
    have Hv := Lib.hid hv
    clear hv
    go_enter Try.func62, Try.ntmps62
    go_wp2_with fail
    refine (allValid1_any _ al ah _ (by go_cell) (by go_cell)).mono ?_
    rintro e w1 ⟨rfl, hb⟩
    obtain ⟨u0, u1, uf, ug, ul⟩ := kept2 (b := w.heap.size) (x := .int .i64 al) (y := .int .i64 ah) hb ⟨by go_cell, by go_cell, (by (try simp only [frozen?_alloc_cells, World.frozen?_setCell, fz_drew, fz_drewN]); first | assumption | exact frozen_beyond (by (try simp only [World.size_alloc, World.size_setCell, World.size_drew, sz_drewN]); omega)), (by (try simp only [frozen?_alloc_cells, World.frozen?_setCell, fz_drew, fz_drewN]); first | assumption | exact frozen_beyond (by (try simp only [World.size_alloc, World.size_setCell, World.size_drew, sz_drewN]); omega)), (by (try simp only [World.size_alloc, World.size_setCell, World.size_drew, sz_drewN]); omega)⟩
    obtain ⟨r0, r1, rf, rg, rl⟩ := kept2 (b := w.heap.size + 1) (x := .int .i64 0) (y := .int .i64 0) hb ⟨by go_cell, by go_cell, (by (try simp only [frozen?_alloc_cells, World.frozen?_setCell, fz_drew, fz_drewN]); first | assumption | exact frozen_beyond (by (try simp only [World.size_alloc, World.size_setCell, World.size_drew, sz_drewN]); omega)), (by (try simp only [frozen?_alloc_cells, World.frozen?_setCell, fz_drew, fz_drewN]); first | assumption | exact frozen_beyond (by (try simp only [World.size_alloc, World.size_setCell, World.size_drew, sz_drewN]); omega)), (by (try simp only [World.size_alloc, World.size_setCell, World.size_drew, sz_drewN]); omega)⟩
    have B1 : Bl w w1 := Bl.tr (by go_grown) hb
    clear hb
    rw [Hv.out]
    go_wp2
    all_goals (refine bodyPost_ret (by simp [results, Try.results62, go_sem, r0, r1]; try rfl) rfl ⟨?_, by go_grown⟩)
    all_goals (refine rS_eq (r := oppF al ah) ?_ ?_ ?_ <;> (rw [oppF, if_pos Hv.out] <;> (repeat' split) <;> (try simp) <;> omega))
  · have hv : vS al ah = false := by simpa using hv
    have Hv := Lib.hid hv
    clear hv
    go_enter Try.func62, Try.ntmps62
    go_wp2_with fail
    refine (allValid1_any _ al ah _ (by go_cell) (by go_cell)).mono ?_
    rintro e w1 ⟨rfl, hb⟩
    obtain ⟨r0, r1, rf, rg, rl⟩ := kept2 (b := w.heap.size + 1) (x := .int .i64 0) (y := .int .i64 0) hb ⟨by go_cell, by go_cell, (by (try simp only [frozen?_alloc_cells, World.frozen?_setCell, fz_drew, fz_drewN]); first | assumption | exact frozen_beyond (by (try simp only [World.size_alloc, World.size_setCell, World.size_drew, sz_drewN]); omega)), (by (try simp only [frozen?_alloc_cells, World.frozen?_setCell, fz_drew, fz_drewN]); first | assumption | exact frozen_beyond (by (try simp only [World.size_alloc, World.size_setCell, World.size_drew, sz_drewN]); omega)), (by (try simp only [World.size_alloc, World.size_setCell, World.size_drew, sz_drewN]); omega)⟩
    have B1 : Bl w w1 := Bl.tr (by go_grown) hb
    clear hb
    rw [Hv.out]
    go_wp2
    all_goals (refine bodyPost_ret (by simp [results, Try.results62, go_sem, r0, r1]; try rfl) rfl ⟨?_, by go_grown⟩)
    all_goals (refine rS_eq (r := oppF al ah) ?_ ?_ ?_ <;> (rw [oppF, if_neg (by rw [Hv.out]; decide)] <;> (repeat' split) <;> (try simp) <;> omega))
