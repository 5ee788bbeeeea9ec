/-
  Contracts of package span and of its reference: opposites, wider spans, and the reference's calls on spans.
-/
import Derived.Test.YtchikfegpoonjaaC
namespace Go.Proofs.Ytchikfegpoonjaa
open Go.RowKit
set_option linter.unusedSimpArgs false


set_option maxHeartbeats 800000 in
theorem opp_any (al ah : Int) (w : World) :
    Calls Try.prog 8 #[.agg #[.int .i64 al, .int .i64 ah]] w fun e w' => e = .returned (rS (oppF al ah)) ∧ Bl w w' := by
  by_cases hv : vS al ah = true
  · obtain ⟨a1, a2, a3⟩ := vS_iff.1 hv
    have Hv := Lib.hid hv
    clear hv
    go_enter Try.func8, Try.ntmps8
    go_wp2_with fail
    refine (allValid1_any _ al ah _ (by go_cell) (by go_cell)).mono ?_
    rintro e w1 ⟨rfl, hb⟩
    obtain ⟨u0, u1, uf, ug, ul⟩ := kept2 (b := w.heap.size) (x := .int .i64 al) (y := .int .i64 ah) hb ⟨by go_cell, by go_cell, (by (try simp only [frozen?_alloc_cells, World.frozen?_setCell, fz_drew, fz_drewN]); first | assumption | exact frozen_beyond (by (try simp only [World.size_alloc, World.size_setCell, World.size_drew, sz_drewN]); omega)), (by (try simp only [frozen?_alloc_cells, World.frozen?_setCell, fz_drew, fz_drewN]); first | assumption | exact frozen_beyond (by (try simp only [World.size_alloc, World.size_setCell, World.size_drew, sz_drewN]); omega)), (by (try simp only [World.size_alloc, World.size_setCell, World.size_drew, sz_drewN]); omega)⟩
    obtain ⟨r0, r1, rf, rg, rl⟩ := kept2 (b := w.heap.size + 1) (x := .int .i64 0) (y := .int .i64 0) hb ⟨by go_cell, by go_cell, (by (try simp only [frozen?_alloc_cells, World.frozen?_setCell, fz_drew, fz_drewN]); first | assumption | exact frozen_beyond (by (try simp only [World.size_alloc, World.size_setCell, World.size_drew, sz_drewN]); omega)), (by (try simp only [frozen?_alloc_cells, World.frozen?_setCell, fz_drew, fz_drewN]); first | assumption | exact frozen_beyond (by (try simp only [World.size_alloc, World.size_setCell, World.size_drew, sz_drewN]); omega)), (by (try simp only [World.size_alloc, World.size_setCell, World.size_drew, sz_drewN]); omega)⟩
    have B1 : Bl w w1 := Bl.tr (by go_grown) hb
    clear hb
    rw [Hv.out]
    go_wp2
    all_goals (refine bodyPost_ret (by simp [results, Try.results8, go_sem, r0, r1]; try rfl) rfl ⟨?_, by go_grown⟩)
    all_goals (refine rS_eq (r := oppF al ah) ?_ ?_ ?_ <;> (rw [oppF, if_pos Hv.out] <;> (repeat' split) <;> (try simp) <;> omega))
  · have hv : vS al ah = false := by simpa using hv
    have Hv := Lib.hid hv
    clear hv
    go_enter Try.func8, Try.ntmps8
    go_wp2_with fail
    refine (allValid1_any _ al ah _ (by go_cell) (by go_cell)).mono ?_
    rintro e w1 ⟨rfl, hb⟩
    obtain ⟨r0, r1, rf, rg, rl⟩ := kept2 (b := w.heap.size + 1) (x := .int .i64 0) (y := .int .i64 0) hb ⟨by go_cell, by go_cell, (by (try simp only [frozen?_alloc_cells, World.frozen?_setCell, fz_drew, fz_drewN]); first | assumption | exact frozen_beyond (by (try simp only [World.size_alloc, World.size_setCell, World.size_drew, sz_drewN]); omega)), (by (try simp only [frozen?_alloc_cells, World.frozen?_setCell, fz_drew, fz_drewN]); first | assumption | exact frozen_beyond (by (try simp only [World.size_alloc, World.size_setCell, World.size_drew, sz_drewN]); omega)), (by (try simp only [World.size_alloc, World.size_setCell, World.size_drew, sz_drewN]); omega)⟩
    have B1 : Bl w w1 := Bl.tr (by go_grown) hb
    clear hb
    rw [Hv.out]
    go_wp2
    all_goals (refine bodyPost_ret (by simp [results, Try.results8, go_sem, r0, r1]; try rfl) rfl ⟨?_, by go_grown⟩)
    all_goals (refine rS_eq (r := oppF al ah) ?_ ?_ ?_ <;> (rw [oppF, if_neg (by rw [Hv.out]; decide)] <;> (repeat' split) <;> (try simp) <;> omega))

set_option maxHeartbeats 800000 in
theorem wid_any (al ah n : Int) (w : World) :
    Calls Try.prog 10 #[.agg #[.int .i64 al, .int .i64 ah], .int .i64 n] w fun e w' => e = .returned (rS (widF al ah n)) ∧ Bl w w' := by
  by_cases hv : vS al ah = true
  · obtain ⟨a1, a2, a3⟩ := vS_iff.1 hv
    have Hv := Lib.hid hv
    clear hv
    by_cases n1 : n < 0
    · skip
      go_enter Try.func10, Try.ntmps10
      go_wp2_with fail
      refine (allValid1_any _ al ah _ (by go_cell) (by go_cell)).mono ?_
      rintro e w1 ⟨rfl, hb⟩
      obtain ⟨u0, u1, uf, ug, ul⟩ := kept2 (b := w.heap.size) (x := .int .i64 al) (y := .int .i64 ah) hb ⟨by go_cell, by go_cell, (by (try simp only [frozen?_alloc_cells, World.frozen?_setCell, fz_drew, fz_drewN]); first | assumption | exact frozen_beyond (by (try simp only [World.size_alloc, World.size_setCell, World.size_drew, sz_drewN]); omega)), (by (try simp only [frozen?_alloc_cells, World.frozen?_setCell, fz_drew, fz_drewN]); first | assumption | exact frozen_beyond (by (try simp only [World.size_alloc, World.size_setCell, World.size_drew, sz_drewN]); omega)), (by (try simp only [World.size_alloc, World.size_setCell, World.size_drew, sz_drewN]); omega)⟩
      obtain ⟨r0, r1, rf, rg, rl⟩ := kept2 (b := w.heap.size + 1) (x := .int .i64 0) (y := .int .i64 0) hb ⟨by go_cell, by go_cell, (by (try simp only [frozen?_alloc_cells, World.frozen?_setCell, fz_drew, fz_drewN]); first | assumption | exact frozen_beyond (by (try simp only [World.size_alloc, World.size_setCell, World.size_drew, sz_drewN]); omega)), (by (try simp only [frozen?_alloc_cells, World.frozen?_setCell, fz_drew, fz_drewN]); first | assumption | exact frozen_beyond (by (try simp only [World.size_alloc, World.size_setCell, World.size_drew, sz_drewN]); omega)), (by (try simp only [World.size_alloc, World.size_setCell, World.size_drew, sz_drewN]); omega)⟩
      have B1 : Bl w w1 := Bl.tr (by go_grown) hb
      clear hb
      rw [Hv.out]
      go_wp2
      all_goals (refine bodyPost_ret (by simp [results, Try.results10, go_sem, r0, r1]; try rfl) rfl ⟨?_, by go_grown⟩)
      all_goals (refine rS_eq (r := widF al ah n) ?_ ?_ ?_ <;> (rw [widF, if_pos Hv.out, if_pos n1] <;> (repeat' split) <;> (try simp) <;> omega))
    · by_cases n2 : 1000000000000 < n
      · skip
        go_enter Try.func10, Try.ntmps10
        go_wp2_with fail
        refine (allValid1_any _ al ah _ (by go_cell) (by go_cell)).mono ?_
        rintro e w1 ⟨rfl, hb⟩
        obtain ⟨u0, u1, uf, ug, ul⟩ := kept2 (b := w.heap.size) (x := .int .i64 al) (y := .int .i64 ah) hb ⟨by go_cell, by go_cell, (by (try simp only [frozen?_alloc_cells, World.frozen?_setCell, fz_drew, fz_drewN]); first | assumption | exact frozen_beyond (by (try simp only [World.size_alloc, World.size_setCell, World.size_drew, sz_drewN]); omega)), (by (try simp only [frozen?_alloc_cells, World.frozen?_setCell, fz_drew, fz_drewN]); first | assumption | exact frozen_beyond (by (try simp only [World.size_alloc, World.size_setCell, World.size_drew, sz_drewN]); omega)), (by (try simp only [World.size_alloc, World.size_setCell, World.size_drew, sz_drewN]); omega)⟩
        obtain ⟨r0, r1, rf, rg, rl⟩ := kept2 (b := w.heap.size + 1) (x := .int .i64 0) (y := .int .i64 0) hb ⟨by go_cell, by go_cell, (by (try simp only [frozen?_alloc_cells, World.frozen?_setCell, fz_drew, fz_drewN]); first | assumption | exact frozen_beyond (by (try simp only [World.size_alloc, World.size_setCell, World.size_drew, sz_drewN]); omega)), (by (try simp only [frozen?_alloc_cells, World.frozen?_setCell, fz_drew, fz_drewN]); first | assumption | exact frozen_beyond (by (try simp only [World.size_alloc, World.size_setCell, World.size_drew, sz_drewN]); omega)), (by (try simp only [World.size_alloc, World.size_setCell, World.size_drew, sz_drewN]); omega)⟩
        have B1 : Bl w w1 := Bl.tr (by go_grown) hb
        clear hb
        rw [Hv.out]
        go_wp2
        all_goals (refine bodyPost_ret (by simp [results, Try.results10, go_sem, r0, r1]; try rfl) rfl ⟨?_, by go_grown⟩)
        all_goals (refine rS_eq (r := widF al ah n) ?_ ?_ ?_ <;> (rw [widF, if_pos Hv.out, if_neg (by omega), if_pos (by omega)] <;> (repeat' split) <;> (try simp) <;> omega))
      · skip
        go_enter Try.func10, Try.ntmps10
        go_wp2_with fail
        refine (allValid1_any _ al ah _ (by go_cell) (by go_cell)).mono ?_
        rintro e w1 ⟨rfl, hb⟩
        obtain ⟨u0, u1, uf, ug, ul⟩ := kept2 (b := w.heap.size) (x := .int .i64 al) (y := .int .i64 ah) hb ⟨by go_cell, by go_cell, (by (try simp only [frozen?_alloc_cells, World.frozen?_setCell, fz_drew, fz_drewN]); first | assumption | exact frozen_beyond (by (try simp only [World.size_alloc, World.size_setCell, World.size_drew, sz_drewN]); omega)), (by (try simp only [frozen?_alloc_cells, World.frozen?_setCell, fz_drew, fz_drewN]); first | assumption | exact frozen_beyond (by (try simp only [World.size_alloc, World.size_setCell, World.size_drew, sz_drewN]); omega)), (by (try simp only [World.size_alloc, World.size_setCell, World.size_drew, sz_drewN]); omega)⟩
        obtain ⟨r0, r1, rf, rg, rl⟩ := kept2 (b := w.heap.size + 1) (x := .int .i64 0) (y := .int .i64 0) hb ⟨by go_cell, by go_cell, (by (try simp only [frozen?_alloc_cells, World.frozen?_setCell, fz_drew, fz_drewN]); first | assumption | exact frozen_beyond (by (try simp only [World.size_alloc, World.size_setCell, World.size_drew, sz_drewN]); omega)), (by (try simp only [frozen?_alloc_cells, World.frozen?_setCell, fz_drew, fz_drewN]); first | assumption | exact frozen_beyond (by (try simp only [World.size_alloc, World.size_setCell, World.size_drew, sz_drewN]); omega)), (by (try simp only [World.size_alloc, World.size_setCell, World.size_drew, sz_drewN]); omega)⟩
        have B1 : Bl w w1 := Bl.tr (by go_grown) hb
        clear hb
        rw [Hv.out]
        go_wp2_with fail
        refine (limited_any _ _ _).mono ?_
        rintro e w2 ⟨rfl, hb⟩
        obtain ⟨r0, r1, rf, rg, rl⟩ := kept2 (b := w.heap.size + 1) (x := .int .i64 0) (y := .int .i64 0) hb ⟨by go_cell, by go_cell, (by (try simp only [frozen?_alloc_cells, World.frozen?_setCell, fz_drew, fz_drewN]); first | assumption | exact frozen_beyond (by (try simp only [World.size_alloc, World.size_setCell, World.size_drew, sz_drewN]); omega)), (by (try simp only [frozen?_alloc_cells, World.frozen?_setCell, fz_drew, fz_drewN]); first | assumption | exact frozen_beyond (by (try simp only [World.size_alloc, World.size_setCell, World.size_drew, sz_drewN]); omega)), (by (try simp only [World.size_alloc, World.size_setCell, World.size_drew, sz_drewN]); omega)⟩
        have B2 : Bl w w2 := Below.trans (by go_grown) (hb.mono (by (try simp only [World.size_alloc, World.size_setCell, World.size_drew, sz_drewN]); omega))
        clear hb
        have hs : widF al ah n = limF (al - n) (ah + n) := by rw [widF, if_pos Hv.out, if_neg (by omega), if_neg (by omega)]
        have Hs := Lib.hid hs
        clear hs
        generalize limF (al - n) (ah + n) = q at Hs ⊢
        obtain ⟨q1, q2, q3⟩ := q
        unfold rS
        go_wp2
        refine bodyPost_ret (v := rS (q1, q2, q3)) (by simp [results, Try.results10, go_sem, rS, r0, r1]) rfl ⟨by rw [Hs.out], ?_⟩
        go_grown
  · have hv : vS al ah = false := by simpa using hv
    have Hv := Lib.hid hv
    clear hv
    go_enter Try.func10, Try.ntmps10
    go_wp2_with fail
    refine (allValid1_any _ al ah _ (by go_cell) (by go_cell)).mono ?_
    rintro e w1 ⟨rfl, hb⟩
    obtain ⟨r0, r1, rf, rg, rl⟩ := kept2 (b := w.heap.size + 1) (x := .int .i64 0) (y := .int .i64 0) hb ⟨by go_cell, by go_cell, (by (try simp only [frozen?_alloc_cells, World.frozen?_setCell, fz_drew, fz_drewN]); first | assumption | exact frozen_beyond (by (try simp only [World.size_alloc, World.size_setCell, World.size_drew, sz_drewN]); omega)), (by (try simp only [frozen?_alloc_cells, World.frozen?_setCell, fz_drew, fz_drewN]); first | assumption | exact frozen_beyond (by (try simp only [World.size_alloc, World.size_setCell, World.size_drew, sz_drewN]); omega)), (by (try simp only [World.size_alloc, World.size_setCell, World.size_drew, sz_drewN]); omega)⟩
    have B1 : Bl w w1 := Bl.tr (by go_grown) hb
    clear hb
    rw [Hv.out]
    go_wp2
    all_goals (refine bodyPost_ret (by simp [results, Try.results10, go_sem, r0, r1]; try rfl) rfl ⟨?_, by go_grown⟩)
    all_goals (refine rS_eq (r := widF al ah n) ?_ ?_ ?_ <;> (rw [widF, if_neg (by rw [Hv.out]; decide)] <;> (repeat' split) <;> (try simp) <;> omega))
