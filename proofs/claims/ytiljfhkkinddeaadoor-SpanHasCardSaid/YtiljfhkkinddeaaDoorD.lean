/-
  Contracts of package span and of its reference: opposites, wider spans, and the reference's calls on spans.
-/
import Derived.Test.YtiljfhkkinddeaaDoorC
namespace Go.Proofs.YtiljfhkkinddeaaDoor
open Go.RowKit
set_option linter.unusedSimpArgs false


set_option maxHeartbeats 800000 in
theorem opp_any (al ah : Int) (w : World) :
    Calls Tryd.prog 31 #[.agg #[.int .i64 al, .int .i64 ah]] w fun e w' => e = .returned (rS (oppF al ah)) ∧ Bl w w' := by
  by_cases hv : vS al ah = true
  · obtain ⟨a1, a2, a3⟩ := vS_iff.1 hv
    have Hv := Lib.hid hv
    clear hv
    go_enter Tryd.func31, Tryd.ntmps31
    go_wp2_with fail
    refine (allValid1_any _ al ah _ (by go_cell) (by go_cell)).mono ?_
    rintro e w1 ⟨rfl, hb⟩
    obtain ⟨u0, u1, uf, ug, ul⟩ := kept2 (b := w.heap.size) (x := .int .i64 al) (y := .int .i64 ah) hb ⟨by go_cell, by go_cell, (by (try simp only [frozen?_alloc_cells, World.frozen?_setCell, fz_drew, fz_drewN]); first | assumption | exact frozen_beyond (by (try simp only [World.size_alloc, World.size_setCell, World.size_drew, sz_drewN]); omega)), (by (try simp only [frozen?_alloc_cells, World.frozen?_setCell, fz_drew, fz_drewN]); first | assumption | exact frozen_beyond (by (try simp only [World.size_alloc, World.size_setCell, World.size_drew, sz_drewN]); omega)), (by (try simp only [World.size_alloc, World.size_setCell, World.size_drew, sz_drewN]); omega)⟩
    obtain ⟨r0, r1, rf, rg, rl⟩ := kept2 (b := w.heap.size + 1) (x := .int .i64 0) (y := .int .i64 0) hb ⟨by go_cell, by go_cell, (by (try simp only [frozen?_alloc_cells, World.frozen?_setCell, fz_drew, fz_drewN]); first | assumption | exact frozen_beyond (by (try simp only [World.size_alloc, World.size_setCell, World.size_drew, sz_drewN]); omega)), (by (try simp only [frozen?_alloc_cells, World.frozen?_setCell, fz_drew, fz_drewN]); first | assumption | exact frozen_beyond (by (try simp only [World.size_alloc, World.size_setCell, World.size_drew, sz_drewN]); omega)), (by (try simp only [World.size_alloc, World.size_setCell, World.size_drew, sz_drewN]); omega)⟩
    have B1 : Bl w w1 := Bl.tr (by go_grown) hb
    clear hb
    rw [Hv.out]
    go_wp2
    all_goals (refine bodyPost_ret (by simp [results, Tryd.results31, go_sem, r0, r1]; try rfl) rfl ⟨?_, by go_grown⟩)
    all_goals (refine rS_eq (r := oppF al ah) ?_ ?_ ?_ <;> (rw [oppF, if_pos Hv.out] <;> (repeat' split) <;> (try simp) <;> omega))
  · have hv : vS al ah = false := by simpa using hv
    have Hv := Lib.hid hv
    clear hv
    go_enter Tryd.func31, Tryd.ntmps31
    go_wp2_with fail
    refine (allValid1_any _ al ah _ (by go_cell) (by go_cell)).mono ?_
    rintro e w1 ⟨rfl, hb⟩
    obtain ⟨r0, r1, rf, rg, rl⟩ := kept2 (b := w.heap.size + 1) (x := .int .i64 0) (y := .int .i64 0) hb ⟨by go_cell, by go_cell, (by (try simp only [frozen?_alloc_cells, World.frozen?_setCell, fz_drew, fz_drewN]); first | assumption | exact frozen_beyond (by (try simp only [World.size_alloc, World.size_setCell, World.size_drew, sz_drewN]); omega)), (by (try simp only [frozen?_alloc_cells, World.frozen?_setCell, fz_drew, fz_drewN]); first | assumption | exact frozen_beyond (by (try simp only [World.size_alloc, World.size_setCell, World.size_drew, sz_drewN]); omega)), (by (try simp only [World.size_alloc, World.size_setCell, World.size_drew, sz_drewN]); omega)⟩
    have B1 : Bl w w1 := Bl.tr (by go_grown) hb
    clear hb
    rw [Hv.out]
    go_wp2
    all_goals (refine bodyPost_ret (by simp [results, Tryd.results31, go_sem, r0, r1]; try rfl) rfl ⟨?_, by go_grown⟩)
    all_goals (refine rS_eq (r := oppF al ah) ?_ ?_ ?_ <;> (rw [oppF, if_neg (by rw [Hv.out]; decide)] <;> (repeat' split) <;> (try simp) <;> omega))

set_option maxHeartbeats 800000 in
theorem ropp_any (al ah : Int) (w : World) :
    Calls Tryd.prog 32 #[.agg #[.int .i64 al, .int .i64 ah]] w fun e w' => e = .returned (rS (oppF al ah)) ∧ Bl w w' := by
  by_cases hv : vS al ah = true
  · obtain ⟨a1, a2, a3⟩ := vS_iff.1 hv
    have Hv := Lib.hid hv
    clear hv
    go_enter Tryd.func32, Tryd.ntmps32
    go_wp2_with fail
    refine (rvalidSpan_any _ _ _).mono ?_
    rintro e w1 ⟨rfl, hb⟩
    obtain ⟨u0, u1, uf, ug, ul⟩ := kept2 (b := w.heap.size) (x := .int .i64 al) (y := .int .i64 ah) hb ⟨by go_cell, by go_cell, (by (try simp only [frozen?_alloc_cells, World.frozen?_setCell, fz_drew, fz_drewN]); first | assumption | exact frozen_beyond (by (try simp only [World.size_alloc, World.size_setCell, World.size_drew, sz_drewN]); omega)), (by (try simp only [frozen?_alloc_cells, World.frozen?_setCell, fz_drew, fz_drewN]); first | assumption | exact frozen_beyond (by (try simp only [World.size_alloc, World.size_setCell, World.size_drew, sz_drewN]); omega)), (by (try simp only [World.size_alloc, World.size_setCell, World.size_drew, sz_drewN]); omega)⟩
    obtain ⟨r0, r1, rf, rg, rl⟩ := kept2 (b := w.heap.size + 1) (x := .int .i64 0) (y := .int .i64 0) hb ⟨by go_cell, by go_cell, (by (try simp only [frozen?_alloc_cells, World.frozen?_setCell, fz_drew, fz_drewN]); first | assumption | exact frozen_beyond (by (try simp only [World.size_alloc, World.size_setCell, World.size_drew, sz_drewN]); omega)), (by (try simp only [frozen?_alloc_cells, World.frozen?_setCell, fz_drew, fz_drewN]); first | assumption | exact frozen_beyond (by (try simp only [World.size_alloc, World.size_setCell, World.size_drew, sz_drewN]); omega)), (by (try simp only [World.size_alloc, World.size_setCell, World.size_drew, sz_drewN]); omega)⟩
    have B1 : Bl w w1 := Bl.tr (by go_grown) hb
    clear hb
    rw [Hv.out]
    go_wp2_with fail
    refine (checked_any _ _ _).mono ?_
    rintro e w2 ⟨rfl, hb⟩
    obtain ⟨r0, r1, rf, rg, rl⟩ := kept2 (b := w.heap.size + 1) (x := .int .i64 0) (y := .int .i64 0) hb ⟨by go_cell, by go_cell, (by (try simp only [frozen?_alloc_cells, World.frozen?_setCell, fz_drew, fz_drewN]); first | assumption | exact frozen_beyond (by (try simp only [World.size_alloc, World.size_setCell, World.size_drew, sz_drewN]); omega)), (by (try simp only [frozen?_alloc_cells, World.frozen?_setCell, fz_drew, fz_drewN]); first | assumption | exact frozen_beyond (by (try simp only [World.size_alloc, World.size_setCell, World.size_drew, sz_drewN]); omega)), (by (try simp only [World.size_alloc, World.size_setCell, World.size_drew, sz_drewN]); omega)⟩
    have B2 : Bl w w2 := Below.trans (by go_grown) (hb.mono (by (try simp only [World.size_alloc, World.size_setCell, World.size_drew, sz_drewN]); omega))
    clear hb
    have hs : oppF al ah = chkF (-ah) (-al) := by rw [oppF, if_pos Hv.out, chkF, if_pos (vS_iff.2 ⟨by omega, by omega, by omega⟩)]
    have Hs := Lib.hid hs
    clear hs
    generalize chkF (-ah) (-al) = q at Hs ⊢
    obtain ⟨q1, q2, q3⟩ := q
    unfold rS
    go_wp2
    refine bodyPost_ret (v := rS (q1, q2, q3)) (by simp [results, Tryd.results32, go_sem, rS, r0, r1]) rfl ⟨by rw [Hs.out], ?_⟩
    go_grown
  · have hv : vS al ah = false := by simpa using hv
    have Hv := Lib.hid hv
    clear hv
    go_enter Tryd.func32, Tryd.ntmps32
    go_wp2_with fail
    refine (rvalidSpan_any _ _ _).mono ?_
    rintro e w1 ⟨rfl, hb⟩
    obtain ⟨r0, r1, rf, rg, rl⟩ := kept2 (b := w.heap.size + 1) (x := .int .i64 0) (y := .int .i64 0) hb ⟨by go_cell, by go_cell, (by (try simp only [frozen?_alloc_cells, World.frozen?_setCell, fz_drew, fz_drewN]); first | assumption | exact frozen_beyond (by (try simp only [World.size_alloc, World.size_setCell, World.size_drew, sz_drewN]); omega)), (by (try simp only [frozen?_alloc_cells, World.frozen?_setCell, fz_drew, fz_drewN]); first | assumption | exact frozen_beyond (by (try simp only [World.size_alloc, World.size_setCell, World.size_drew, sz_drewN]); omega)), (by (try simp only [World.size_alloc, World.size_setCell, World.size_drew, sz_drewN]); omega)⟩
    have B1 : Bl w w1 := Bl.tr (by go_grown) hb
    clear hb
    rw [Hv.out]
    go_wp2
    all_goals (refine bodyPost_ret (by simp [results, Tryd.results32, go_sem, r0, r1]; try rfl) rfl ⟨?_, by go_grown⟩)
    all_goals (refine rS_eq (r := oppF al ah) ?_ ?_ ?_ <;> (rw [oppF, if_neg (by rw [Hv.out]; decide)] <;> (repeat' split) <;> (try simp) <;> omega))

set_option maxHeartbeats 800000 in
theorem wid_any (al ah n : Int) (w : World) :
    Calls Tryd.prog 39 #[.agg #[.int .i64 al, .int .i64 ah], .int .i64 n] w fun e w' => e = .returned (rS (widF al ah n)) ∧ Bl w w' := by
  by_cases hv : vS al ah = true
  · obtain ⟨a1, a2, a3⟩ := vS_iff.1 hv
    have Hv := Lib.hid hv
    clear hv
    by_cases n1 : n < 0
    · skip
      go_enter Tryd.func39, Tryd.ntmps39
      go_wp2_with fail
      refine (allValid1_any _ al ah _ (by go_cell) (by go_cell)).mono ?_
      rintro e w1 ⟨rfl, hb⟩
      obtain ⟨u0, u1, uf, ug, ul⟩ := kept2 (b := w.heap.size) (x := .int .i64 al) (y := .int .i64 ah) hb ⟨by go_cell, by go_cell, (by (try simp only [frozen?_alloc_cells, World.frozen?_setCell, fz_drew, fz_drewN]); first | assumption | exact frozen_beyond (by (try simp only [World.size_alloc, World.size_setCell, World.size_drew, sz_drewN]); omega)), (by (try simp only [frozen?_alloc_cells, World.frozen?_setCell, fz_drew, fz_drewN]); first | assumption | exact frozen_beyond (by (try simp only [World.size_alloc, World.size_setCell, World.size_drew, sz_drewN]); omega)), (by (try simp only [World.size_alloc, World.size_setCell, World.size_drew, sz_drewN]); omega)⟩
      obtain ⟨r0, r1, rf, rg, rl⟩ := kept2 (b := w.heap.size + 1) (x := .int .i64 0) (y := .int .i64 0) hb ⟨by go_cell, by go_cell, (by (try simp only [frozen?_alloc_cells, World.frozen?_setCell, fz_drew, fz_drewN]); first | assumption | exact frozen_beyond (by (try simp only [World.size_alloc, World.size_setCell, World.size_drew, sz_drewN]); omega)), (by (try simp only [frozen?_alloc_cells, World.frozen?_setCell, fz_drew, fz_drewN]); first | assumption | exact frozen_beyond (by (try simp only [World.size_alloc, World.size_setCell, World.size_drew, sz_drewN]); omega)), (by (try simp only [World.size_alloc, World.size_setCell, World.size_drew, sz_drewN]); omega)⟩
      have B1 : Bl w w1 := Bl.tr (by go_grown) hb
      clear hb
      rw [Hv.out]
      go_wp2
      all_goals (refine bodyPost_ret (by simp [results, Tryd.results39, go_sem, r0, r1]; try rfl) rfl ⟨?_, by go_grown⟩)
      all_goals (refine rS_eq (r := widF al ah n) ?_ ?_ ?_ <;> (rw [widF, if_pos Hv.out, if_pos n1] <;> (repeat' split) <;> (try simp) <;> omega))
    · by_cases n2 : 1000000000000 < n
      · skip
        go_enter Tryd.func39, Tryd.ntmps39
        go_wp2_with fail
        refine (allValid1_any _ al ah _ (by go_cell) (by go_cell)).mono ?_
        rintro e w1 ⟨rfl, hb⟩
        obtain ⟨u0, u1, uf, ug, ul⟩ := kept2 (b := w.heap.size) (x := .int .i64 al) (y := .int .i64 ah) hb ⟨by go_cell, by go_cell, (by (try simp only [frozen?_alloc_cells, World.frozen?_setCell, fz_drew, fz_drewN]); first | assumption | exact frozen_beyond (by (try simp only [World.size_alloc, World.size_setCell, World.size_drew, sz_drewN]); omega)), (by (try simp only [frozen?_alloc_cells, World.frozen?_setCell, fz_drew, fz_drewN]); first | assumption | exact frozen_beyond (by (try simp only [World.size_alloc, World.size_setCell, World.size_drew, sz_drewN]); omega)), (by (try simp only [World.size_alloc, World.size_setCell, World.size_drew, sz_drewN]); omega)⟩
        obtain ⟨r0, r1, rf, rg, rl⟩ := kept2 (b := w.heap.size + 1) (x := .int .i64 0) (y := .int .i64 0) hb ⟨by go_cell, by go_cell, (by (try simp only [frozen?_alloc_cells, World.frozen?_setCell, fz_drew, fz_drewN]); first | assumption | exact frozen_beyond (by (try simp only [World.size_alloc, World.size_setCell, World.size_drew, sz_drewN]); omega)), (by (try simp only [frozen?_alloc_cells, World.frozen?_setCell, fz_drew, fz_drewN]); first | assumption | exact frozen_beyond (by (try simp only [World.size_alloc, World.size_setCell, World.size_drew, sz_drewN]); omega)), (by (try simp only [World.size_alloc, World.size_setCell, World.size_drew, sz_drewN]); omega)⟩
        have B1 : Bl w w1 := Bl.tr (by go_grown) hb
        clear hb
        rw [Hv.out]
        go_wp2
        all_goals (refine bodyPost_ret (by simp [results, Tryd.results39, go_sem, r0, r1]; try rfl) rfl ⟨?_, by go_grown⟩)
        all_goals (refine rS_eq (r := widF al ah n) ?_ ?_ ?_ <;> (rw [widF, if_pos Hv.out, if_neg (by omega), if_pos (by omega)] <;> (repeat' split) <;> (try simp) <;> omega))
      · skip
        go_enter Tryd.func39, Tryd.ntmps39
        go_wp2_with fail
        refine (allValid1_any _ al ah _ (by go_cell) (by go_cell)).mono ?_
        rintro e w1 ⟨rfl, hb⟩
        obtain ⟨u0, u1, uf, ug, ul⟩ := kept2 (b := w.heap.size) (x := .int .i64 al) (y := .int .i64 ah) hb ⟨by go_cell, by go_cell, (by (try simp only [frozen?_alloc_cells, World.frozen?_setCell, fz_drew, fz_drewN]); first | assumption | exact frozen_beyond (by (try simp only [World.size_alloc, World.size_setCell, World.size_drew, sz_drewN]); omega)), (by (try simp only [frozen?_alloc_cells, World.frozen?_setCell, fz_drew, fz_drewN]); first | assumption | exact frozen_beyond (by (try simp only [World.size_alloc, World.size_setCell, World.size_drew, sz_drewN]); omega)), (by (try simp only [World.size_alloc, World.size_setCell, World.size_drew, sz_drewN]); omega)⟩
        obtain ⟨r0, r1, rf, rg, rl⟩ := kept2 (b := w.heap.size + 1) (x := .int .i64 0) (y := .int .i64 0) hb ⟨by go_cell, by go_cell, (by (try simp only [frozen?_alloc_cells, World.frozen?_setCell, fz_drew, fz_drewN]); first | assumption | exact frozen_beyond (by (try simp only [World.size_alloc, World.size_setCell, World.size_drew, sz_drewN]); omega)), (by (try simp only [frozen?_alloc_cells, World.frozen?_setCell, fz_drew, fz_drewN]); first | assumption | exact frozen_beyond (by (try simp only [World.size_alloc, World.size_setCell, World.size_drew, sz_drewN]); omega)), (by (try simp only [World.size_alloc, World.size_setCell, World.size_drew, sz_drewN]); omega)⟩
        have B1 : Bl w w1 := Bl.tr (by go_grown) hb
        clear hb
        rw [Hv.out]
        go_wp2_with fail
        refine (limited_any _ _ _).mono ?_
        rintro e w2 ⟨rfl, hb⟩
        obtain ⟨r0, r1, rf, rg, rl⟩ := kept2 (b := w.heap.size + 1) (x := .int .i64 0) (y := .int .i64 0) hb ⟨by go_cell, by go_cell, (by (try simp only [frozen?_alloc_cells, World.frozen?_setCell, fz_drew, fz_drewN]); first | assumption | exact frozen_beyond (by (try simp only [World.size_alloc, World.size_setCell, World.size_drew, sz_drewN]); omega)), (by (try simp only [frozen?_alloc_cells, World.frozen?_setCell, fz_drew, fz_drewN]); first | assumption | exact frozen_beyond (by (try simp only [World.size_alloc, World.size_setCell, World.size_drew, sz_drewN]); omega)), (by (try simp only [World.size_alloc, World.size_setCell, World.size_drew, sz_drewN]); omega)⟩
        have B2 : Bl w w2 := Below.trans (by go_grown) (hb.mono (by (try simp only [World.size_alloc, World.size_setCell, World.size_drew, sz_drewN]); omega))
        clear hb
        have hs : widF al ah n = limF (al - n) (ah + n) := by rw [widF, if_pos Hv.out, if_neg (by omega), if_neg (by omega)]
        have Hs := Lib.hid hs
        clear hs
        generalize limF (al - n) (ah + n) = q at Hs ⊢
        obtain ⟨q1, q2, q3⟩ := q
        unfold rS
        go_wp2
        refine bodyPost_ret (v := rS (q1, q2, q3)) (by simp [results, Tryd.results39, go_sem, rS, r0, r1]) rfl ⟨by rw [Hs.out], ?_⟩
        go_grown
  · have hv : vS al ah = false := by simpa using hv
    have Hv := Lib.hid hv
    clear hv
    go_enter Tryd.func39, Tryd.ntmps39
    go_wp2_with fail
    refine (allValid1_any _ al ah _ (by go_cell) (by go_cell)).mono ?_
    rintro e w1 ⟨rfl, hb⟩
    obtain ⟨r0, r1, rf, rg, rl⟩ := kept2 (b := w.heap.size + 1) (x := .int .i64 0) (y := .int .i64 0) hb ⟨by go_cell, by go_cell, (by (try simp only [frozen?_alloc_cells, World.frozen?_setCell, fz_drew, fz_drewN]); first | assumption | exact frozen_beyond (by (try simp only [World.size_alloc, World.size_setCell, World.size_drew, sz_drewN]); omega)), (by (try simp only [frozen?_alloc_cells, World.frozen?_setCell, fz_drew, fz_drewN]); first | assumption | exact frozen_beyond (by (try simp only [World.size_alloc, World.size_setCell, World.size_drew, sz_drewN]); omega)), (by (try simp only [World.size_alloc, World.size_setCell, World.size_drew, sz_drewN]); omega)⟩
    have B1 : Bl w w1 := Bl.tr (by go_grown) hb
    clear hb
    rw [Hv.out]
    go_wp2
    all_goals (refine bodyPost_ret (by simp [results, Tryd.results39, go_sem, r0, r1]; try rfl) rfl ⟨?_, by go_grown⟩)
    all_goals (refine rS_eq (r := widF al ah n) ?_ ?_ ?_ <;> (rw [widF, if_neg (by rw [Hv.out]; decide)] <;> (repeat' split) <;> (try simp) <;> omega))

set_option maxHeartbeats 800000 in
theorem rwid_any (al ah n : Int) (w : World) :
    Calls Tryd.prog 40 #[.agg #[.int .i64 al, .int .i64 ah], .int .i64 n] w fun e w' => e = .returned (rS (widF al ah n)) ∧ Bl w w' := by
  by_cases hv : vS al ah = true
  · obtain ⟨a1, a2, a3⟩ := vS_iff.1 hv
    have Hv := Lib.hid hv
    clear hv
    by_cases n1 : n < 0
    · skip
      go_enter Tryd.func40, Tryd.ntmps40
      go_wp2_with fail
      refine (rvalidSpan_any _ _ _).mono ?_
      rintro e w1 ⟨rfl, hb⟩
      obtain ⟨u0, u1, uf, ug, ul⟩ := kept2 (b := w.heap.size) (x := .int .i64 al) (y := .int .i64 ah) hb ⟨by go_cell, by go_cell, (by (try simp only [frozen?_alloc_cells, World.frozen?_setCell, fz_drew, fz_drewN]); first | assumption | exact frozen_beyond (by (try simp only [World.size_alloc, World.size_setCell, World.size_drew, sz_drewN]); omega)), (by (try simp only [frozen?_alloc_cells, World.frozen?_setCell, fz_drew, fz_drewN]); first | assumption | exact frozen_beyond (by (try simp only [World.size_alloc, World.size_setCell, World.size_drew, sz_drewN]); omega)), (by (try simp only [World.size_alloc, World.size_setCell, World.size_drew, sz_drewN]); omega)⟩
      obtain ⟨r0, r1, rf, rg, rl⟩ := kept2 (b := w.heap.size + 1) (x := .int .i64 0) (y := .int .i64 0) hb ⟨by go_cell, by go_cell, (by (try simp only [frozen?_alloc_cells, World.frozen?_setCell, fz_drew, fz_drewN]); first | assumption | exact frozen_beyond (by (try simp only [World.size_alloc, World.size_setCell, World.size_drew, sz_drewN]); omega)), (by (try simp only [frozen?_alloc_cells, World.frozen?_setCell, fz_drew, fz_drewN]); first | assumption | exact frozen_beyond (by (try simp only [World.size_alloc, World.size_setCell, World.size_drew, sz_drewN]); omega)), (by (try simp only [World.size_alloc, World.size_setCell, World.size_drew, sz_drewN]); omega)⟩
      have B1 : Bl w w1 := Bl.tr (by go_grown) hb
      clear hb
      rw [Hv.out]
      go_wp2
      all_goals (refine bodyPost_ret (by simp [results, Tryd.results40, go_sem, r0, r1]; try rfl) rfl ⟨?_, by go_grown⟩)
      all_goals (refine rS_eq (r := widF al ah n) ?_ ?_ ?_ <;> (rw [widF, if_pos Hv.out, if_pos n1] <;> (repeat' split) <;> (try simp) <;> omega))
    · by_cases n2 : 2000000000000 < n
      · skip
        go_enter Tryd.func40, Tryd.ntmps40
        go_wp2_with fail
        refine (rvalidSpan_any _ _ _).mono ?_
        rintro e w1 ⟨rfl, hb⟩
        obtain ⟨u0, u1, uf, ug, ul⟩ := kept2 (b := w.heap.size) (x := .int .i64 al) (y := .int .i64 ah) hb ⟨by go_cell, by go_cell, (by (try simp only [frozen?_alloc_cells, World.frozen?_setCell, fz_drew, fz_drewN]); first | assumption | exact frozen_beyond (by (try simp only [World.size_alloc, World.size_setCell, World.size_drew, sz_drewN]); omega)), (by (try simp only [frozen?_alloc_cells, World.frozen?_setCell, fz_drew, fz_drewN]); first | assumption | exact frozen_beyond (by (try simp only [World.size_alloc, World.size_setCell, World.size_drew, sz_drewN]); omega)), (by (try simp only [World.size_alloc, World.size_setCell, World.size_drew, sz_drewN]); omega)⟩
        obtain ⟨r0, r1, rf, rg, rl⟩ := kept2 (b := w.heap.size + 1) (x := .int .i64 0) (y := .int .i64 0) hb ⟨by go_cell, by go_cell, (by (try simp only [frozen?_alloc_cells, World.frozen?_setCell, fz_drew, fz_drewN]); first | assumption | exact frozen_beyond (by (try simp only [World.size_alloc, World.size_setCell, World.size_drew, sz_drewN]); omega)), (by (try simp only [frozen?_alloc_cells, World.frozen?_setCell, fz_drew, fz_drewN]); first | assumption | exact frozen_beyond (by (try simp only [World.size_alloc, World.size_setCell, World.size_drew, sz_drewN]); omega)), (by (try simp only [World.size_alloc, World.size_setCell, World.size_drew, sz_drewN]); omega)⟩
        have B1 : Bl w w1 := Bl.tr (by go_grown) hb
        clear hb
        rw [Hv.out]
        go_wp2
        all_goals (refine bodyPost_ret (by simp [results, Tryd.results40, go_sem, r0, r1]; try rfl) rfl ⟨?_, by go_grown⟩)
        all_goals (refine rS_eq (r := widF al ah n) ?_ ?_ ?_ <;> (rw [widF, if_pos Hv.out, if_neg (by omega), if_pos (by omega)] <;> (repeat' split) <;> (try simp) <;> omega))
      · skip
        go_enter Tryd.func40, Tryd.ntmps40
        go_wp2_with fail
        refine (rvalidSpan_any _ _ _).mono ?_
        rintro e w1 ⟨rfl, hb⟩
        obtain ⟨u0, u1, uf, ug, ul⟩ := kept2 (b := w.heap.size) (x := .int .i64 al) (y := .int .i64 ah) hb ⟨by go_cell, by go_cell, (by (try simp only [frozen?_alloc_cells, World.frozen?_setCell, fz_drew, fz_drewN]); first | assumption | exact frozen_beyond (by (try simp only [World.size_alloc, World.size_setCell, World.size_drew, sz_drewN]); omega)), (by (try simp only [frozen?_alloc_cells, World.frozen?_setCell, fz_drew, fz_drewN]); first | assumption | exact frozen_beyond (by (try simp only [World.size_alloc, World.size_setCell, World.size_drew, sz_drewN]); omega)), (by (try simp only [World.size_alloc, World.size_setCell, World.size_drew, sz_drewN]); omega)⟩
        obtain ⟨r0, r1, rf, rg, rl⟩ := kept2 (b := w.heap.size + 1) (x := .int .i64 0) (y := .int .i64 0) hb ⟨by go_cell, by go_cell, (by (try simp only [frozen?_alloc_cells, World.frozen?_setCell, fz_drew, fz_drewN]); first | assumption | exact frozen_beyond (by (try simp only [World.size_alloc, World.size_setCell, World.size_drew, sz_drewN]); omega)), (by (try simp only [frozen?_alloc_cells, World.frozen?_setCell, fz_drew, fz_drewN]); first | assumption | exact frozen_beyond (by (try simp only [World.size_alloc, World.size_setCell, World.size_drew, sz_drewN]); omega)), (by (try simp only [World.size_alloc, World.size_setCell, World.size_drew, sz_drewN]); omega)⟩
        have B1 : Bl w w1 := Bl.tr (by go_grown) hb
        clear hb
        rw [Hv.out]
        go_wp2_with fail
        refine (checked_any _ _ _).mono ?_
        rintro e w2 ⟨rfl, hb⟩
        obtain ⟨r0, r1, rf, rg, rl⟩ := kept2 (b := w.heap.size + 1) (x := .int .i64 0) (y := .int .i64 0) hb ⟨by go_cell, by go_cell, (by (try simp only [frozen?_alloc_cells, World.frozen?_setCell, fz_drew, fz_drewN]); first | assumption | exact frozen_beyond (by (try simp only [World.size_alloc, World.size_setCell, World.size_drew, sz_drewN]); omega)), (by (try simp only [frozen?_alloc_cells, World.frozen?_setCell, fz_drew, fz_drewN]); first | assumption | exact frozen_beyond (by (try simp only [World.size_alloc, World.size_setCell, World.size_drew, sz_drewN]); omega)), (by (try simp only [World.size_alloc, World.size_setCell, World.size_drew, sz_drewN]); omega)⟩
        have B2 : Bl w w2 := Below.trans (by go_grown) (hb.mono (by (try simp only [World.size_alloc, World.size_setCell, World.size_drew, sz_drewN]); omega))
        clear hb
        have hs : widF al ah n = chkF (al - n) (ah + n) := by rw [widF, if_pos Hv.out, if_neg (by omega), chk_eq_lim (by omega)]; split <;> first | rfl | (rw [limF, if_pos (by omega)])
        have Hs := Lib.hid hs
        clear hs
        generalize chkF (al - n) (ah + n) = q at Hs ⊢
        obtain ⟨q1, q2, q3⟩ := q
        unfold rS
        go_wp2
        refine bodyPost_ret (v := rS (q1, q2, q3)) (by simp [results, Tryd.results40, go_sem, rS, r0, r1]) rfl ⟨by rw [Hs.out], ?_⟩
        go_grown
  · have hv : vS al ah = false := by simpa using hv
    have Hv := Lib.hid hv
    clear hv
    go_enter Tryd.func40, Tryd.ntmps40
    go_wp2_with fail
    refine (rvalidSpan_any _ _ _).mono ?_
    rintro e w1 ⟨rfl, hb⟩
    obtain ⟨r0, r1, rf, rg, rl⟩ := kept2 (b := w.heap.size + 1) (x := .int .i64 0) (y := .int .i64 0) hb ⟨by go_cell, by go_cell, (by (try simp only [frozen?_alloc_cells, World.frozen?_setCell, fz_drew, fz_drewN]); first | assumption | exact frozen_beyond (by (try simp only [World.size_alloc, World.size_setCell, World.size_drew, sz_drewN]); omega)), (by (try simp only [frozen?_alloc_cells, World.frozen?_setCell, fz_drew, fz_drewN]); first | assumption | exact frozen_beyond (by (try simp only [World.size_alloc, World.size_setCell, World.size_drew, sz_drewN]); omega)), (by (try simp only [World.size_alloc, World.size_setCell, World.size_drew, sz_drewN]); omega)⟩
    have B1 : Bl w w1 := Bl.tr (by go_grown) hb
    clear hb
    rw [Hv.out]
    go_wp2
    all_goals (refine bodyPost_ret (by simp [results, Tryd.results40, go_sem, r0, r1]; try rfl) rfl ⟨?_, by go_grown⟩)
    all_goals (refine rS_eq (r := widF al ah n) ?_ ?_ ?_ <;> (rw [widF, if_neg (by rw [Hv.out]; decide)] <;> (repeat' split) <;> (try simp) <;> omega))

set_option maxHeartbeats 800000 in
theorem rsum_any (al ah bl bh : Int) (w : World) :
    Calls Tryd.prog 30 #[.agg #[.int .i64 al, .int .i64 ah], .agg #[.int .i64 bl, .int .i64 bh]] w fun e w' => e = .returned (rS (sumF al ah bl bh)) ∧ Bl w w' := by
  by_cases hva : vS al ah = true
  · by_cases hvb : vS bl bh = true
    · obtain ⟨a1, a2, a3⟩ := vS_iff.1 hva
      obtain ⟨b1, b2, b3⟩ := vS_iff.1 hvb
      have Ha := Lib.hid hva
      clear hva
      have Hb := Lib.hid hvb
      clear hvb
      go_enter Tryd.func30, Tryd.ntmps30
      go_wp2_with fail
      refine (rvalidSpan_any _ _ _).mono ?_
      rintro e w1 ⟨rfl, hb⟩
      obtain ⟨u0, u1, uf, ug, ul⟩ := kept2 (b := w.heap.size) (x := .int .i64 al) (y := .int .i64 ah) hb ⟨by go_cell, by go_cell, (by (try simp only [frozen?_alloc_cells, World.frozen?_setCell, fz_drew, fz_drewN]); first | assumption | exact frozen_beyond (by (try simp only [World.size_alloc, World.size_setCell, World.size_drew, sz_drewN]); omega)), (by (try simp only [frozen?_alloc_cells, World.frozen?_setCell, fz_drew, fz_drewN]); first | assumption | exact frozen_beyond (by (try simp only [World.size_alloc, World.size_setCell, World.size_drew, sz_drewN]); omega)), (by (try simp only [World.size_alloc, World.size_setCell, World.size_drew, sz_drewN]); omega)⟩
      obtain ⟨v0, v1, vf, vg, vl⟩ := kept2 (b := w.heap.size + 1) (x := .int .i64 bl) (y := .int .i64 bh) hb ⟨by go_cell, by go_cell, (by (try simp only [frozen?_alloc_cells, World.frozen?_setCell, fz_drew, fz_drewN]); first | assumption | exact frozen_beyond (by (try simp only [World.size_alloc, World.size_setCell, World.size_drew, sz_drewN]); omega)), (by (try simp only [frozen?_alloc_cells, World.frozen?_setCell, fz_drew, fz_drewN]); first | assumption | exact frozen_beyond (by (try simp only [World.size_alloc, World.size_setCell, World.size_drew, sz_drewN]); omega)), (by (try simp only [World.size_alloc, World.size_setCell, World.size_drew, sz_drewN]); omega)⟩
      obtain ⟨r0, r1, rf, rg, rl⟩ := kept2 (b := w.heap.size + 1 + 1) (x := .int .i64 0) (y := .int .i64 0) hb ⟨by go_cell, by go_cell, (by (try simp only [frozen?_alloc_cells, World.frozen?_setCell, fz_drew, fz_drewN]); first | assumption | exact frozen_beyond (by (try simp only [World.size_alloc, World.size_setCell, World.size_drew, sz_drewN]); omega)), (by (try simp only [frozen?_alloc_cells, World.frozen?_setCell, fz_drew, fz_drewN]); first | assumption | exact frozen_beyond (by (try simp only [World.size_alloc, World.size_setCell, World.size_drew, sz_drewN]); omega)), (by (try simp only [World.size_alloc, World.size_setCell, World.size_drew, sz_drewN]); omega)⟩
      have B1 : Bl w w1 := Bl.tr (by go_grown) hb
      clear hb
      rw [Ha.out]
      go_wp2_with fail
      refine (rvalidSpan_any _ _ _).mono ?_
      rintro e w2 ⟨rfl, hb⟩
      obtain ⟨u0, u1, uf, ug, ul⟩ := kept2 (b := w.heap.size) (x := .int .i64 al) (y := .int .i64 ah) hb ⟨by go_cell, by go_cell, (by (try simp only [frozen?_alloc_cells, World.frozen?_setCell, fz_drew, fz_drewN]); first | assumption | exact frozen_beyond (by (try simp only [World.size_alloc, World.size_setCell, World.size_drew, sz_drewN]); omega)), (by (try simp only [frozen?_alloc_cells, World.frozen?_setCell, fz_drew, fz_drewN]); first | assumption | exact frozen_beyond (by (try simp only [World.size_alloc, World.size_setCell, World.size_drew, sz_drewN]); omega)), (by (try simp only [World.size_alloc, World.size_setCell, World.size_drew, sz_drewN]); omega)⟩
      obtain ⟨v0, v1, vf, vg, vl⟩ := kept2 (b := w.heap.size + 1) (x := .int .i64 bl) (y := .int .i64 bh) hb ⟨by go_cell, by go_cell, (by (try simp only [frozen?_alloc_cells, World.frozen?_setCell, fz_drew, fz_drewN]); first | assumption | exact frozen_beyond (by (try simp only [World.size_alloc, World.size_setCell, World.size_drew, sz_drewN]); omega)), (by (try simp only [frozen?_alloc_cells, World.frozen?_setCell, fz_drew, fz_drewN]); first | assumption | exact frozen_beyond (by (try simp only [World.size_alloc, World.size_setCell, World.size_drew, sz_drewN]); omega)), (by (try simp only [World.size_alloc, World.size_setCell, World.size_drew, sz_drewN]); omega)⟩
      obtain ⟨r0, r1, rf, rg, rl⟩ := kept2 (b := w.heap.size + 1 + 1) (x := .int .i64 0) (y := .int .i64 0) hb ⟨by go_cell, by go_cell, (by (try simp only [frozen?_alloc_cells, World.frozen?_setCell, fz_drew, fz_drewN]); first | assumption | exact frozen_beyond (by (try simp only [World.size_alloc, World.size_setCell, World.size_drew, sz_drewN]); omega)), (by (try simp only [frozen?_alloc_cells, World.frozen?_setCell, fz_drew, fz_drewN]); first | assumption | exact frozen_beyond (by (try simp only [World.size_alloc, World.size_setCell, World.size_drew, sz_drewN]); omega)), (by (try simp only [World.size_alloc, World.size_setCell, World.size_drew, sz_drewN]); omega)⟩
      have B2 : Bl w w2 := Below.trans (by go_grown) (hb.mono (by (try simp only [World.size_alloc, World.size_setCell, World.size_drew, sz_drewN]); omega))
      clear hb
      rw [Hb.out]
      go_wp2_with fail
      refine (checked_any _ _ _).mono ?_
      rintro e w3 ⟨rfl, hb⟩
      obtain ⟨r0, r1, rf, rg, rl⟩ := kept2 (b := w.heap.size + 1 + 1) (x := .int .i64 0) (y := .int .i64 0) hb ⟨by go_cell, by go_cell, (by (try simp only [frozen?_alloc_cells, World.frozen?_setCell, fz_drew, fz_drewN]); first | assumption | exact frozen_beyond (by (try simp only [World.size_alloc, World.size_setCell, World.size_drew, sz_drewN]); omega)), (by (try simp only [frozen?_alloc_cells, World.frozen?_setCell, fz_drew, fz_drewN]); first | assumption | exact frozen_beyond (by (try simp only [World.size_alloc, World.size_setCell, World.size_drew, sz_drewN]); omega)), (by (try simp only [World.size_alloc, World.size_setCell, World.size_drew, sz_drewN]); omega)⟩
      have B3 : Bl w w3 := Below.trans (by go_grown) (hb.mono (by (try simp only [World.size_alloc, World.size_setCell, World.size_drew, sz_drewN]); omega))
      clear hb
      have hs : sumF al ah bl bh = chkF (al + bl) (ah + bh) := by rw [sumF, if_pos (by rw [Ha.out, Hb.out]; rfl), chk_eq_lim (by omega)]
      have Hs := Lib.hid hs
      clear hs
      generalize chkF (al + bl) (ah + bh) = q at Hs ⊢
      obtain ⟨q1, q2, q3⟩ := q
      unfold rS
      go_wp2
      refine bodyPost_ret (v := rS (q1, q2, q3)) (by simp [results, Tryd.results30, go_sem, rS, r0, r1]) rfl ⟨by rw [Hs.out], ?_⟩
      go_grown
    · have hvb : vS bl bh = false := by simpa using hvb
      have Ha := Lib.hid hva
      clear hva
      have Hb := Lib.hid hvb
      clear hvb
      go_enter Tryd.func30, Tryd.ntmps30
      go_wp2_with fail
      refine (rvalidSpan_any _ _ _).mono ?_
      rintro e w1 ⟨rfl, hb⟩
      obtain ⟨u0, u1, uf, ug, ul⟩ := kept2 (b := w.heap.size) (x := .int .i64 al) (y := .int .i64 ah) hb ⟨by go_cell, by go_cell, (by (try simp only [frozen?_alloc_cells, World.frozen?_setCell, fz_drew, fz_drewN]); first | assumption | exact frozen_beyond (by (try simp only [World.size_alloc, World.size_setCell, World.size_drew, sz_drewN]); omega)), (by (try simp only [frozen?_alloc_cells, World.frozen?_setCell, fz_drew, fz_drewN]); first | assumption | exact frozen_beyond (by (try simp only [World.size_alloc, World.size_setCell, World.size_drew, sz_drewN]); omega)), (by (try simp only [World.size_alloc, World.size_setCell, World.size_drew, sz_drewN]); omega)⟩
      obtain ⟨v0, v1, vf, vg, vl⟩ := kept2 (b := w.heap.size + 1) (x := .int .i64 bl) (y := .int .i64 bh) hb ⟨by go_cell, by go_cell, (by (try simp only [frozen?_alloc_cells, World.frozen?_setCell, fz_drew, fz_drewN]); first | assumption | exact frozen_beyond (by (try simp only [World.size_alloc, World.size_setCell, World.size_drew, sz_drewN]); omega)), (by (try simp only [frozen?_alloc_cells, World.frozen?_setCell, fz_drew, fz_drewN]); first | assumption | exact frozen_beyond (by (try simp only [World.size_alloc, World.size_setCell, World.size_drew, sz_drewN]); omega)), (by (try simp only [World.size_alloc, World.size_setCell, World.size_drew, sz_drewN]); omega)⟩
      obtain ⟨r0, r1, rf, rg, rl⟩ := kept2 (b := w.heap.size + 1 + 1) (x := .int .i64 0) (y := .int .i64 0) hb ⟨by go_cell, by go_cell, (by (try simp only [frozen?_alloc_cells, World.frozen?_setCell, fz_drew, fz_drewN]); first | assumption | exact frozen_beyond (by (try simp only [World.size_alloc, World.size_setCell, World.size_drew, sz_drewN]); omega)), (by (try simp only [frozen?_alloc_cells, World.frozen?_setCell, fz_drew, fz_drewN]); first | assumption | exact frozen_beyond (by (try simp only [World.size_alloc, World.size_setCell, World.size_drew, sz_drewN]); omega)), (by (try simp only [World.size_alloc, World.size_setCell, World.size_drew, sz_drewN]); omega)⟩
      have B1 : Bl w w1 := Bl.tr (by go_grown) hb
      clear hb
      rw [Ha.out]
      go_wp2_with fail
      refine (rvalidSpan_any _ _ _).mono ?_
      rintro e w2 ⟨rfl, hb⟩
      obtain ⟨u0, u1, uf, ug, ul⟩ := kept2 (b := w.heap.size) (x := .int .i64 al) (y := .int .i64 ah) hb ⟨by go_cell, by go_cell, (by (try simp only [frozen?_alloc_cells, World.frozen?_setCell, fz_drew, fz_drewN]); first | assumption | exact frozen_beyond (by (try simp only [World.size_alloc, World.size_setCell, World.size_drew, sz_drewN]); omega)), (by (try simp only [frozen?_alloc_cells, World.frozen?_setCell, fz_drew, fz_drewN]); first | assumption | exact frozen_beyond (by (try simp only [World.size_alloc, World.size_setCell, World.size_drew, sz_drewN]); omega)), (by (try simp only [World.size_alloc, World.size_setCell, World.size_drew, sz_drewN]); omega)⟩
      obtain ⟨v0, v1, vf, vg, vl⟩ := kept2 (b := w.heap.size + 1) (x := .int .i64 bl) (y := .int .i64 bh) hb ⟨by go_cell, by go_cell, (by (try simp only [frozen?_alloc_cells, World.frozen?_setCell, fz_drew, fz_drewN]); first | assumption | exact frozen_beyond (by (try simp only [World.size_alloc, World.size_setCell, World.size_drew, sz_drewN]); omega)), (by (try simp only [frozen?_alloc_cells, World.frozen?_setCell, fz_drew, fz_drewN]); first | assumption | exact frozen_beyond (by (try simp only [World.size_alloc, World.size_setCell, World.size_drew, sz_drewN]); omega)), (by (try simp only [World.size_alloc, World.size_setCell, World.size_drew, sz_drewN]); omega)⟩
      obtain ⟨r0, r1, rf, rg, rl⟩ := kept2 (b := w.heap.size + 1 + 1) (x := .int .i64 0) (y := .int .i64 0) hb ⟨by go_cell, by go_cell, (by (try simp only [frozen?_alloc_cells, World.frozen?_setCell, fz_drew, fz_drewN]); first | assumption | exact frozen_beyond (by (try simp only [World.size_alloc, World.size_setCell, World.size_drew, sz_drewN]); omega)), (by (try simp only [frozen?_alloc_cells, World.frozen?_setCell, fz_drew, fz_drewN]); first | assumption | exact frozen_beyond (by (try simp only [World.size_alloc, World.size_setCell, World.size_drew, sz_drewN]); omega)), (by (try simp only [World.size_alloc, World.size_setCell, World.size_drew, sz_drewN]); omega)⟩
      have B2 : Bl w w2 := Below.trans (by go_grown) (hb.mono (by (try simp only [World.size_alloc, World.size_setCell, World.size_drew, sz_drewN]); omega))
      clear hb
      rw [Hb.out]
      go_wp2
      all_goals (refine bodyPost_ret (by simp [results, Tryd.results30, go_sem, r0, r1]; try rfl) rfl ⟨?_, by go_grown⟩)
      all_goals (refine rS_eq (r := sumF al ah bl bh) ?_ ?_ ?_ <;> (rw [sumF, if_neg (by rw [Ha.out, Hb.out]; simp)] <;> (repeat' split) <;> (try simp) <;> omega))
  · have hva : vS al ah = false := by simpa using hva
    have Ha := Lib.hid hva
    clear hva
    go_enter Tryd.func30, Tryd.ntmps30
    go_wp2_with fail
    refine (rvalidSpan_any _ _ _).mono ?_
    rintro e w1 ⟨rfl, hb⟩
    obtain ⟨u0, u1, uf, ug, ul⟩ := kept2 (b := w.heap.size) (x := .int .i64 al) (y := .int .i64 ah) hb ⟨by go_cell, by go_cell, (by (try simp only [frozen?_alloc_cells, World.frozen?_setCell, fz_drew, fz_drewN]); first | assumption | exact frozen_beyond (by (try simp only [World.size_alloc, World.size_setCell, World.size_drew, sz_drewN]); omega)), (by (try simp only [frozen?_alloc_cells, World.frozen?_setCell, fz_drew, fz_drewN]); first | assumption | exact frozen_beyond (by (try simp only [World.size_alloc, World.size_setCell, World.size_drew, sz_drewN]); omega)), (by (try simp only [World.size_alloc, World.size_setCell, World.size_drew, sz_drewN]); omega)⟩
    obtain ⟨v0, v1, vf, vg, vl⟩ := kept2 (b := w.heap.size + 1) (x := .int .i64 bl) (y := .int .i64 bh) hb ⟨by go_cell, by go_cell, (by (try simp only [frozen?_alloc_cells, World.frozen?_setCell, fz_drew, fz_drewN]); first | assumption | exact frozen_beyond (by (try simp only [World.size_alloc, World.size_setCell, World.size_drew, sz_drewN]); omega)), (by (try simp only [frozen?_alloc_cells, World.frozen?_setCell, fz_drew, fz_drewN]); first | assumption | exact frozen_beyond (by (try simp only [World.size_alloc, World.size_setCell, World.size_drew, sz_drewN]); omega)), (by (try simp only [World.size_alloc, World.size_setCell, World.size_drew, sz_drewN]); omega)⟩
    obtain ⟨r0, r1, rf, rg, rl⟩ := kept2 (b := w.heap.size + 1 + 1) (x := .int .i64 0) (y := .int .i64 0) hb ⟨by go_cell, by go_cell, (by (try simp only [frozen?_alloc_cells, World.frozen?_setCell, fz_drew, fz_drewN]); first | assumption | exact frozen_beyond (by (try simp only [World.size_alloc, World.size_setCell, World.size_drew, sz_drewN]); omega)), (by (try simp only [frozen?_alloc_cells, World.frozen?_setCell, fz_drew, fz_drewN]); first | assumption | exact frozen_beyond (by (try simp only [World.size_alloc, World.size_setCell, World.size_drew, sz_drewN]); omega)), (by (try simp only [World.size_alloc, World.size_setCell, World.size_drew, sz_drewN]); omega)⟩
    have B1 : Bl w w1 := Bl.tr (by go_grown) hb
    clear hb
    rw [Ha.out]
    go_wp2
    all_goals (refine bodyPost_ret (by simp [results, Tryd.results30, go_sem, r0, r1]; try rfl) rfl ⟨?_, by go_grown⟩)
    all_goals (refine rS_eq (r := sumF al ah bl bh) ?_ ?_ ?_ <;> (rw [sumF, if_neg (by rw [Ha.out]; simp)] <;> (repeat' split) <;> (try simp) <;> omega))

set_option maxHeartbeats 800000 in
theorem rhull_any (al ah bl bh : Int) (w : World) :
    Calls Tryd.prog 34 #[.agg #[.int .i64 al, .int .i64 ah], .agg #[.int .i64 bl, .int .i64 bh]] w fun e w' => e = .returned (rS (hullF al ah bl bh)) ∧ Bl w w' := by
  by_cases hva : vS al ah = true
  · by_cases hvb : vS bl bh = true
    · obtain ⟨a1, a2, a3⟩ := vS_iff.1 hva
      obtain ⟨b1, b2, b3⟩ := vS_iff.1 hvb
      have Ha := Lib.hid hva
      clear hva
      have Hb := Lib.hid hvb
      clear hvb
      go_enter Tryd.func34, Tryd.ntmps34
      go_wp2_with fail
      refine (rvalidSpan_any _ _ _).mono ?_
      rintro e w1 ⟨rfl, hb⟩
      obtain ⟨u0, u1, uf, ug, ul⟩ := kept2 (b := w.heap.size) (x := .int .i64 al) (y := .int .i64 ah) hb ⟨by go_cell, by go_cell, (by (try simp only [frozen?_alloc_cells, World.frozen?_setCell, fz_drew, fz_drewN]); first | assumption | exact frozen_beyond (by (try simp only [World.size_alloc, World.size_setCell, World.size_drew, sz_drewN]); omega)), (by (try simp only [frozen?_alloc_cells, World.frozen?_setCell, fz_drew, fz_drewN]); first | assumption | exact frozen_beyond (by (try simp only [World.size_alloc, World.size_setCell, World.size_drew, sz_drewN]); omega)), (by (try simp only [World.size_alloc, World.size_setCell, World.size_drew, sz_drewN]); omega)⟩
      obtain ⟨v0, v1, vf, vg, vl⟩ := kept2 (b := w.heap.size + 1) (x := .int .i64 bl) (y := .int .i64 bh) hb ⟨by go_cell, by go_cell, (by (try simp only [frozen?_alloc_cells, World.frozen?_setCell, fz_drew, fz_drewN]); first | assumption | exact frozen_beyond (by (try simp only [World.size_alloc, World.size_setCell, World.size_drew, sz_drewN]); omega)), (by (try simp only [frozen?_alloc_cells, World.frozen?_setCell, fz_drew, fz_drewN]); first | assumption | exact frozen_beyond (by (try simp only [World.size_alloc, World.size_setCell, World.size_drew, sz_drewN]); omega)), (by (try simp only [World.size_alloc, World.size_setCell, World.size_drew, sz_drewN]); omega)⟩
      obtain ⟨r0, r1, rf, rg, rl⟩ := kept2 (b := w.heap.size + 1 + 1) (x := .int .i64 0) (y := .int .i64 0) hb ⟨by go_cell, by go_cell, (by (try simp only [frozen?_alloc_cells, World.frozen?_setCell, fz_drew, fz_drewN]); first | assumption | exact frozen_beyond (by (try simp only [World.size_alloc, World.size_setCell, World.size_drew, sz_drewN]); omega)), (by (try simp only [frozen?_alloc_cells, World.frozen?_setCell, fz_drew, fz_drewN]); first | assumption | exact frozen_beyond (by (try simp only [World.size_alloc, World.size_setCell, World.size_drew, sz_drewN]); omega)), (by (try simp only [World.size_alloc, World.size_setCell, World.size_drew, sz_drewN]); omega)⟩
      have B1 : Bl w w1 := Bl.tr (by go_grown) hb
      clear hb
      rw [Ha.out]
      go_wp2_with fail
      refine (rvalidSpan_any _ _ _).mono ?_
      rintro e w2 ⟨rfl, hb⟩
      obtain ⟨u0, u1, uf, ug, ul⟩ := kept2 (b := w.heap.size) (x := .int .i64 al) (y := .int .i64 ah) hb ⟨by go_cell, by go_cell, (by (try simp only [frozen?_alloc_cells, World.frozen?_setCell, fz_drew, fz_drewN]); first | assumption | exact frozen_beyond (by (try simp only [World.size_alloc, World.size_setCell, World.size_drew, sz_drewN]); omega)), (by (try simp only [frozen?_alloc_cells, World.frozen?_setCell, fz_drew, fz_drewN]); first | assumption | exact frozen_beyond (by (try simp only [World.size_alloc, World.size_setCell, World.size_drew, sz_drewN]); omega)), (by (try simp only [World.size_alloc, World.size_setCell, World.size_drew, sz_drewN]); omega)⟩
      obtain ⟨v0, v1, vf, vg, vl⟩ := kept2 (b := w.heap.size + 1) (x := .int .i64 bl) (y := .int .i64 bh) hb ⟨by go_cell, by go_cell, (by (try simp only [frozen?_alloc_cells, World.frozen?_setCell, fz_drew, fz_drewN]); first | assumption | exact frozen_beyond (by (try simp only [World.size_alloc, World.size_setCell, World.size_drew, sz_drewN]); omega)), (by (try simp only [frozen?_alloc_cells, World.frozen?_setCell, fz_drew, fz_drewN]); first | assumption | exact frozen_beyond (by (try simp only [World.size_alloc, World.size_setCell, World.size_drew, sz_drewN]); omega)), (by (try simp only [World.size_alloc, World.size_setCell, World.size_drew, sz_drewN]); omega)⟩
      obtain ⟨r0, r1, rf, rg, rl⟩ := kept2 (b := w.heap.size + 1 + 1) (x := .int .i64 0) (y := .int .i64 0) hb ⟨by go_cell, by go_cell, (by (try simp only [frozen?_alloc_cells, World.frozen?_setCell, fz_drew, fz_drewN]); first | assumption | exact frozen_beyond (by (try simp only [World.size_alloc, World.size_setCell, World.size_drew, sz_drewN]); omega)), (by (try simp only [frozen?_alloc_cells, World.frozen?_setCell, fz_drew, fz_drewN]); first | assumption | exact frozen_beyond (by (try simp only [World.size_alloc, World.size_setCell, World.size_drew, sz_drewN]); omega)), (by (try simp only [World.size_alloc, World.size_setCell, World.size_drew, sz_drewN]); omega)⟩
      have B2 : Bl w w2 := Below.trans (by go_grown) (hb.mono (by (try simp only [World.size_alloc, World.size_setCell, World.size_drew, sz_drewN]); omega))
      clear hb
      rw [Hb.out]
      go_wp2_with fail
      all_goals (refine (checked_any _ _ _).mono ?_; rintro e w3 ⟨rfl, hb⟩)
      all_goals (obtain ⟨r0, r1, rf, rg, rl⟩ := kept2 (b := w.heap.size + 1 + 1) (x := .int .i64 0) (y := .int .i64 0) hb ⟨by go_cell, by go_cell, (by (try simp only [frozen?_alloc_cells, World.frozen?_setCell, fz_drew, fz_drewN]); first | assumption | exact frozen_beyond (by (try simp only [World.size_alloc, World.size_setCell, World.size_drew, sz_drewN]); omega)), (by (try simp only [frozen?_alloc_cells, World.frozen?_setCell, fz_drew, fz_drewN]); first | assumption | exact frozen_beyond (by (try simp only [World.size_alloc, World.size_setCell, World.size_drew, sz_drewN]); omega)), (by (try simp only [World.size_alloc, World.size_setCell, World.size_drew, sz_drewN]); omega)⟩)
      all_goals (have B3 : Bl w w3 := Below.trans (by go_grown) (hb.mono (by (try simp only [World.size_alloc, World.size_setCell, World.size_drew, sz_drewN]); omega)); clear hb)
      all_goals (rw [chkF, if_pos (vS_iff.2 ⟨by omega, by omega, by omega⟩)]; unfold rS; go_wp2)
      all_goals (refine bodyPost_ret (by simp [results, Tryd.results34, go_sem, r0, r1]; try rfl) rfl ⟨?_, by go_grown⟩)
      all_goals (refine rS_eq (r := hullF al ah bl bh) ?_ ?_ ?_ <;> (rw [hullF, if_pos (by rw [Ha.out, Hb.out]; rfl)] <;> (repeat' split) <;> (try simp) <;> omega))
    · have hvb : vS bl bh = false := by simpa using hvb
      have Ha := Lib.hid hva
      clear hva
      have Hb := Lib.hid hvb
      clear hvb
      go_enter Tryd.func34, Tryd.ntmps34
      go_wp2_with fail
      refine (rvalidSpan_any _ _ _).mono ?_
      rintro e w1 ⟨rfl, hb⟩
      obtain ⟨u0, u1, uf, ug, ul⟩ := kept2 (b := w.heap.size) (x := .int .i64 al) (y := .int .i64 ah) hb ⟨by go_cell, by go_cell, (by (try simp only [frozen?_alloc_cells, World.frozen?_setCell, fz_drew, fz_drewN]); first | assumption | exact frozen_beyond (by (try simp only [World.size_alloc, World.size_setCell, World.size_drew, sz_drewN]); omega)), (by (try simp only [frozen?_alloc_cells, World.frozen?_setCell, fz_drew, fz_drewN]); first | assumption | exact frozen_beyond (by (try simp only [World.size_alloc, World.size_setCell, World.size_drew, sz_drewN]); omega)), (by (try simp only [World.size_alloc, World.size_setCell, World.size_drew, sz_drewN]); omega)⟩
      obtain ⟨v0, v1, vf, vg, vl⟩ := kept2 (b := w.heap.size + 1) (x := .int .i64 bl) (y := .int .i64 bh) hb ⟨by go_cell, by go_cell, (by (try simp only [frozen?_alloc_cells, World.frozen?_setCell, fz_drew, fz_drewN]); first | assumption | exact frozen_beyond (by (try simp only [World.size_alloc, World.size_setCell, World.size_drew, sz_drewN]); omega)), (by (try simp only [frozen?_alloc_cells, World.frozen?_setCell, fz_drew, fz_drewN]); first | assumption | exact frozen_beyond (by (try simp only [World.size_alloc, World.size_setCell, World.size_drew, sz_drewN]); omega)), (by (try simp only [World.size_alloc, World.size_setCell, World.size_drew, sz_drewN]); omega)⟩
      obtain ⟨r0, r1, rf, rg, rl⟩ := kept2 (b := w.heap.size + 1 + 1) (x := .int .i64 0) (y := .int .i64 0) hb ⟨by go_cell, by go_cell, (by (try simp only [frozen?_alloc_cells, World.frozen?_setCell, fz_drew, fz_drewN]); first | assumption | exact frozen_beyond (by (try simp only [World.size_alloc, World.size_setCell, World.size_drew, sz_drewN]); omega)), (by (try simp only [frozen?_alloc_cells, World.frozen?_setCell, fz_drew, fz_drewN]); first | assumption | exact frozen_beyond (by (try simp only [World.size_alloc, World.size_setCell, World.size_drew, sz_drewN]); omega)), (by (try simp only [World.size_alloc, World.size_setCell, World.size_drew, sz_drewN]); omega)⟩
      have B1 : Bl w w1 := Bl.tr (by go_grown) hb
      clear hb
      rw [Ha.out]
      go_wp2_with fail
      refine (rvalidSpan_any _ _ _).mono ?_
      rintro e w2 ⟨rfl, hb⟩
      obtain ⟨u0, u1, uf, ug, ul⟩ := kept2 (b := w.heap.size) (x := .int .i64 al) (y := .int .i64 ah) hb ⟨by go_cell, by go_cell, (by (try simp only [frozen?_alloc_cells, World.frozen?_setCell, fz_drew, fz_drewN]); first | assumption | exact frozen_beyond (by (try simp only [World.size_alloc, World.size_setCell, World.size_drew, sz_drewN]); omega)), (by (try simp only [frozen?_alloc_cells, World.frozen?_setCell, fz_drew, fz_drewN]); first | assumption | exact frozen_beyond (by (try simp only [World.size_alloc, World.size_setCell, World.size_drew, sz_drewN]); omega)), (by (try simp only [World.size_alloc, World.size_setCell, World.size_drew, sz_drewN]); omega)⟩
      obtain ⟨v0, v1, vf, vg, vl⟩ := kept2 (b := w.heap.size + 1) (x := .int .i64 bl) (y := .int .i64 bh) hb ⟨by go_cell, by go_cell, (by (try simp only [frozen?_alloc_cells, World.frozen?_setCell, fz_drew, fz_drewN]); first | assumption | exact frozen_beyond (by (try simp only [World.size_alloc, World.size_setCell, World.size_drew, sz_drewN]); omega)), (by (try simp only [frozen?_alloc_cells, World.frozen?_setCell, fz_drew, fz_drewN]); first | assumption | exact frozen_beyond (by (try simp only [World.size_alloc, World.size_setCell, World.size_drew, sz_drewN]); omega)), (by (try simp only [World.size_alloc, World.size_setCell, World.size_drew, sz_drewN]); omega)⟩
      obtain ⟨r0, r1, rf, rg, rl⟩ := kept2 (b := w.heap.size + 1 + 1) (x := .int .i64 0) (y := .int .i64 0) hb ⟨by go_cell, by go_cell, (by (try simp only [frozen?_alloc_cells, World.frozen?_setCell, fz_drew, fz_drewN]); first | assumption | exact frozen_beyond (by (try simp only [World.size_alloc, World.size_setCell, World.size_drew, sz_drewN]); omega)), (by (try simp only [frozen?_alloc_cells, World.frozen?_setCell, fz_drew, fz_drewN]); first | assumption | exact frozen_beyond (by (try simp only [World.size_alloc, World.size_setCell, World.size_drew, sz_drewN]); omega)), (by (try simp only [World.size_alloc, World.size_setCell, World.size_drew, sz_drewN]); omega)⟩
      have B2 : Bl w w2 := Below.trans (by go_grown) (hb.mono (by (try simp only [World.size_alloc, World.size_setCell, World.size_drew, sz_drewN]); omega))
      clear hb
      rw [Hb.out]
      go_wp2
      all_goals (refine bodyPost_ret (by simp [results, Tryd.results34, go_sem, r0, r1]; try rfl) rfl ⟨?_, by go_grown⟩)
      all_goals (refine rS_eq (r := hullF al ah bl bh) ?_ ?_ ?_ <;> (rw [hullF, if_neg (by rw [Ha.out, Hb.out]; simp)] <;> (repeat' split) <;> (try simp) <;> omega))
  · have hva : vS al ah = false := by simpa using hva
    have Ha := Lib.hid hva
    clear hva
    go_enter Tryd.func34, Tryd.ntmps34
    go_wp2_with fail
    refine (rvalidSpan_any _ _ _).mono ?_
    rintro e w1 ⟨rfl, hb⟩
    obtain ⟨u0, u1, uf, ug, ul⟩ := kept2 (b := w.heap.size) (x := .int .i64 al) (y := .int .i64 ah) hb ⟨by go_cell, by go_cell, (by (try simp only [frozen?_alloc_cells, World.frozen?_setCell, fz_drew, fz_drewN]); first | assumption | exact frozen_beyond (by (try simp only [World.size_alloc, World.size_setCell, World.size_drew, sz_drewN]); omega)), (by (try simp only [frozen?_alloc_cells, World.frozen?_setCell, fz_drew, fz_drewN]); first | assumption | exact frozen_beyond (by (try simp only [World.size_alloc, World.size_setCell, World.size_drew, sz_drewN]); omega)), (by (try simp only [World.size_alloc, World.size_setCell, World.size_drew, sz_drewN]); omega)⟩
    obtain ⟨v0, v1, vf, vg, vl⟩ := kept2 (b := w.heap.size + 1) (x := .int .i64 bl) (y := .int .i64 bh) hb ⟨by go_cell, by go_cell, (by (try simp only [frozen?_alloc_cells, World.frozen?_setCell, fz_drew, fz_drewN]); first | assumption | exact frozen_beyond (by (try simp only [World.size_alloc, World.size_setCell, World.size_drew, sz_drewN]); omega)), (by (try simp only [frozen?_alloc_cells, World.frozen?_setCell, fz_drew, fz_drewN]); first | assumption | exact frozen_beyond (by (try simp only [World.size_alloc, World.size_setCell, World.size_drew, sz_drewN]); omega)), (by (try simp only [World.size_alloc, World.size_setCell, World.size_drew, sz_drewN]); omega)⟩
    obtain ⟨r0, r1, rf, rg, rl⟩ := kept2 (b := w.heap.size + 1 + 1) (x := .int .i64 0) (y := .int .i64 0) hb ⟨by go_cell, by go_cell, (by (try simp only [frozen?_alloc_cells, World.frozen?_setCell, fz_drew, fz_drewN]); first | assumption | exact frozen_beyond (by (try simp only [World.size_alloc, World.size_setCell, World.size_drew, sz_drewN]); omega)), (by (try simp only [frozen?_alloc_cells, World.frozen?_setCell, fz_drew, fz_drewN]); first | assumption | exact frozen_beyond (by (try simp only [World.size_alloc, World.size_setCell, World.size_drew, sz_drewN]); omega)), (by (try simp only [World.size_alloc, World.size_setCell, World.size_drew, sz_drewN]); omega)⟩
    have B1 : Bl w w1 := Bl.tr (by go_grown) hb
    clear hb
    rw [Ha.out]
    go_wp2
    all_goals (refine bodyPost_ret (by simp [results, Tryd.results34, go_sem, r0, r1]; try rfl) rfl ⟨?_, by go_grown⟩)
    all_goals (refine rS_eq (r := hullF al ah bl bh) ?_ ?_ ?_ <;> (rw [hullF, if_neg (by rw [Ha.out]; simp)] <;> (repeat' split) <;> (try simp) <;> omega))

set_option maxHeartbeats 800000 in
theorem rmeet_any (al ah bl bh : Int) (w : World) :
    Calls Tryd.prog 38 #[.agg #[.int .i64 al, .int .i64 ah], .agg #[.int .i64 bl, .int .i64 bh]] w fun e w' => e = .returned (rS (meetF al ah bl bh)) ∧ Bl w w' := by
  by_cases hva : vS al ah = true
  · by_cases hvb : vS bl bh = true
    · obtain ⟨a1, a2, a3⟩ := vS_iff.1 hva
      obtain ⟨b1, b2, b3⟩ := vS_iff.1 hvb
      have Ha := Lib.hid hva
      clear hva
      have Hb := Lib.hid hvb
      clear hvb
      go_enter Tryd.func38, Tryd.ntmps38
      go_wp2_with fail
      refine (rvalidSpan_any _ _ _).mono ?_
      rintro e w1 ⟨rfl, hb⟩
      obtain ⟨u0, u1, uf, ug, ul⟩ := kept2 (b := w.heap.size) (x := .int .i64 al) (y := .int .i64 ah) hb ⟨by go_cell, by go_cell, (by (try simp only [frozen?_alloc_cells, World.frozen?_setCell, fz_drew, fz_drewN]); first | assumption | exact frozen_beyond (by (try simp only [World.size_alloc, World.size_setCell, World.size_drew, sz_drewN]); omega)), (by (try simp only [frozen?_alloc_cells, World.frozen?_setCell, fz_drew, fz_drewN]); first | assumption | exact frozen_beyond (by (try simp only [World.size_alloc, World.size_setCell, World.size_drew, sz_drewN]); omega)), (by (try simp only [World.size_alloc, World.size_setCell, World.size_drew, sz_drewN]); omega)⟩
      obtain ⟨v0, v1, vf, vg, vl⟩ := kept2 (b := w.heap.size + 1) (x := .int .i64 bl) (y := .int .i64 bh) hb ⟨by go_cell, by go_cell, (by (try simp only [frozen?_alloc_cells, World.frozen?_setCell, fz_drew, fz_drewN]); first | assumption | exact frozen_beyond (by (try simp only [World.size_alloc, World.size_setCell, World.size_drew, sz_drewN]); omega)), (by (try simp only [frozen?_alloc_cells, World.frozen?_setCell, fz_drew, fz_drewN]); first | assumption | exact frozen_beyond (by (try simp only [World.size_alloc, World.size_setCell, World.size_drew, sz_drewN]); omega)), (by (try simp only [World.size_alloc, World.size_setCell, World.size_drew, sz_drewN]); omega)⟩
      obtain ⟨r0, r1, rf, rg, rl⟩ := kept2 (b := w.heap.size + 1 + 1) (x := .int .i64 0) (y := .int .i64 0) hb ⟨by go_cell, by go_cell, (by (try simp only [frozen?_alloc_cells, World.frozen?_setCell, fz_drew, fz_drewN]); first | assumption | exact frozen_beyond (by (try simp only [World.size_alloc, World.size_setCell, World.size_drew, sz_drewN]); omega)), (by (try simp only [frozen?_alloc_cells, World.frozen?_setCell, fz_drew, fz_drewN]); first | assumption | exact frozen_beyond (by (try simp only [World.size_alloc, World.size_setCell, World.size_drew, sz_drewN]); omega)), (by (try simp only [World.size_alloc, World.size_setCell, World.size_drew, sz_drewN]); omega)⟩
      have B1 : Bl w w1 := Bl.tr (by go_grown) hb
      clear hb
      rw [Ha.out]
      go_wp2_with fail
      refine (rvalidSpan_any _ _ _).mono ?_
      rintro e w2 ⟨rfl, hb⟩
      obtain ⟨u0, u1, uf, ug, ul⟩ := kept2 (b := w.heap.size) (x := .int .i64 al) (y := .int .i64 ah) hb ⟨by go_cell, by go_cell, (by (try simp only [frozen?_alloc_cells, World.frozen?_setCell, fz_drew, fz_drewN]); first | assumption | exact frozen_beyond (by (try simp only [World.size_alloc, World.size_setCell, World.size_drew, sz_drewN]); omega)), (by (try simp only [frozen?_alloc_cells, World.frozen?_setCell, fz_drew, fz_drewN]); first | assumption | exact frozen_beyond (by (try simp only [World.size_alloc, World.size_setCell, World.size_drew, sz_drewN]); omega)), (by (try simp only [World.size_alloc, World.size_setCell, World.size_drew, sz_drewN]); omega)⟩
      obtain ⟨v0, v1, vf, vg, vl⟩ := kept2 (b := w.heap.size + 1) (x := .int .i64 bl) (y := .int .i64 bh) hb ⟨by go_cell, by go_cell, (by (try simp only [frozen?_alloc_cells, World.frozen?_setCell, fz_drew, fz_drewN]); first | assumption | exact frozen_beyond (by (try simp only [World.size_alloc, World.size_setCell, World.size_drew, sz_drewN]); omega)), (by (try simp only [frozen?_alloc_cells, World.frozen?_setCell, fz_drew, fz_drewN]); first | assumption | exact frozen_beyond (by (try simp only [World.size_alloc, World.size_setCell, World.size_drew, sz_drewN]); omega)), (by (try simp only [World.size_alloc, World.size_setCell, World.size_drew, sz_drewN]); omega)⟩
      obtain ⟨r0, r1, rf, rg, rl⟩ := kept2 (b := w.heap.size + 1 + 1) (x := .int .i64 0) (y := .int .i64 0) hb ⟨by go_cell, by go_cell, (by (try simp only [frozen?_alloc_cells, World.frozen?_setCell, fz_drew, fz_drewN]); first | assumption | exact frozen_beyond (by (try simp only [World.size_alloc, World.size_setCell, World.size_drew, sz_drewN]); omega)), (by (try simp only [frozen?_alloc_cells, World.frozen?_setCell, fz_drew, fz_drewN]); first | assumption | exact frozen_beyond (by (try simp only [World.size_alloc, World.size_setCell, World.size_drew, sz_drewN]); omega)), (by (try simp only [World.size_alloc, World.size_setCell, World.size_drew, sz_drewN]); omega)⟩
      have B2 : Bl w w2 := Below.trans (by go_grown) (hb.mono (by (try simp only [World.size_alloc, World.size_setCell, World.size_drew, sz_drewN]); omega))
      clear hb
      rw [Hb.out]
      go_wp2
      all_goals (refine bodyPost_ret (by simp [results, Tryd.results38, go_sem, r0, r1, rl]; try rfl) rfl ⟨?_, by go_grown⟩)
      all_goals (refine rS_eq (r := meetF al ah bl bh) ?_ ?_ ?_ <;> (rw [meetF, if_pos (by rw [Ha.out, Hb.out]; rfl)] <;> (repeat' split) <;> (try simp) <;> omega))
    · have hvb : vS bl bh = false := by simpa using hvb
      have Ha := Lib.hid hva
      clear hva
      have Hb := Lib.hid hvb
      clear hvb
      go_enter Tryd.func38, Tryd.ntmps38
      go_wp2_with fail
      refine (rvalidSpan_any _ _ _).mono ?_
      rintro e w1 ⟨rfl, hb⟩
      obtain ⟨u0, u1, uf, ug, ul⟩ := kept2 (b := w.heap.size) (x := .int .i64 al) (y := .int .i64 ah) hb ⟨by go_cell, by go_cell, (by (try simp only [frozen?_alloc_cells, World.frozen?_setCell, fz_drew, fz_drewN]); first | assumption | exact frozen_beyond (by (try simp only [World.size_alloc, World.size_setCell, World.size_drew, sz_drewN]); omega)), (by (try simp only [frozen?_alloc_cells, World.frozen?_setCell, fz_drew, fz_drewN]); first | assumption | exact frozen_beyond (by (try simp only [World.size_alloc, World.size_setCell, World.size_drew, sz_drewN]); omega)), (by (try simp only [World.size_alloc, World.size_setCell, World.size_drew, sz_drewN]); omega)⟩
      obtain ⟨v0, v1, vf, vg, vl⟩ := kept2 (b := w.heap.size + 1) (x := .int .i64 bl) (y := .int .i64 bh) hb ⟨by go_cell, by go_cell, (by (try simp only [frozen?_alloc_cells, World.frozen?_setCell, fz_drew, fz_drewN]); first | assumption | exact frozen_beyond (by (try simp only [World.size_alloc, World.size_setCell, World.size_drew, sz_drewN]); omega)), (by (try simp only [frozen?_alloc_cells, World.frozen?_setCell, fz_drew, fz_drewN]); first | assumption | exact frozen_beyond (by (try simp only [World.size_alloc, World.size_setCell, World.size_drew, sz_drewN]); omega)), (by (try simp only [World.size_alloc, World.size_setCell, World.size_drew, sz_drewN]); omega)⟩
      obtain ⟨r0, r1, rf, rg, rl⟩ := kept2 (b := w.heap.size + 1 + 1) (x := .int .i64 0) (y := .int .i64 0) hb ⟨by go_cell, by go_cell, (by (try simp only [frozen?_alloc_cells, World.frozen?_setCell, fz_drew, fz_drewN]); first | assumption | exact frozen_beyond (by (try simp only [World.size_alloc, World.size_setCell, World.size_drew, sz_drewN]); omega)), (by (try simp only [frozen?_alloc_cells, World.frozen?_setCell, fz_drew, fz_drewN]); first | assumption | exact frozen_beyond (by (try simp only [World.size_alloc, World.size_setCell, World.size_drew, sz_drewN]); omega)), (by (try simp only [World.size_alloc, World.size_setCell, World.size_drew, sz_drewN]); omega)⟩
      have B1 : Bl w w1 := Bl.tr (by go_grown) hb
      clear hb
      rw [Ha.out]
      go_wp2_with fail
      refine (rvalidSpan_any _ _ _).mono ?_
      rintro e w2 ⟨rfl, hb⟩
      obtain ⟨u0, u1, uf, ug, ul⟩ := kept2 (b := w.heap.size) (x := .int .i64 al) (y := .int .i64 ah) hb ⟨by go_cell, by go_cell, (by (try simp only [frozen?_alloc_cells, World.frozen?_setCell, fz_drew, fz_drewN]); first | assumption | exact frozen_beyond (by (try simp only [World.size_alloc, World.size_setCell, World.size_drew, sz_drewN]); omega)), (by (try simp only [frozen?_alloc_cells, World.frozen?_setCell, fz_drew, fz_drewN]); first | assumption | exact frozen_beyond (by (try simp only [World.size_alloc, World.size_setCell, World.size_drew, sz_drewN]); omega)), (by (try simp only [World.size_alloc, World.size_setCell, World.size_drew, sz_drewN]); omega)⟩
      obtain ⟨v0, v1, vf, vg, vl⟩ := kept2 (b := w.heap.size + 1) (x := .int .i64 bl) (y := .int .i64 bh) hb ⟨by go_cell, by go_cell, (by (try simp only [frozen?_alloc_cells, World.frozen?_setCell, fz_drew, fz_drewN]); first | assumption | exact frozen_beyond (by (try simp only [World.size_alloc, World.size_setCell, World.size_drew, sz_drewN]); omega)), (by (try simp only [frozen?_alloc_cells, World.frozen?_setCell, fz_drew, fz_drewN]); first | assumption | exact frozen_beyond (by (try simp only [World.size_alloc, World.size_setCell, World.size_drew, sz_drewN]); omega)), (by (try simp only [World.size_alloc, World.size_setCell, World.size_drew, sz_drewN]); omega)⟩
      obtain ⟨r0, r1, rf, rg, rl⟩ := kept2 (b := w.heap.size + 1 + 1) (x := .int .i64 0) (y := .int .i64 0) hb ⟨by go_cell, by go_cell, (by (try simp only [frozen?_alloc_cells, World.frozen?_setCell, fz_drew, fz_drewN]); first | assumption | exact frozen_beyond (by (try simp only [World.size_alloc, World.size_setCell, World.size_drew, sz_drewN]); omega)), (by (try simp only [frozen?_alloc_cells, World.frozen?_setCell, fz_drew, fz_drewN]); first | assumption | exact frozen_beyond (by (try simp only [World.size_alloc, World.size_setCell, World.size_drew, sz_drewN]); omega)), (by (try simp only [World.size_alloc, World.size_setCell, World.size_drew, sz_drewN]); omega)⟩
      have B2 : Bl w w2 := Below.trans (by go_grown) (hb.mono (by (try simp only [World.size_alloc, World.size_setCell, World.size_drew, sz_drewN]); omega))
      clear hb
      rw [Hb.out]
      go_wp2
      all_goals (refine bodyPost_ret (by simp [results, Tryd.results38, go_sem, r0, r1]; try rfl) rfl ⟨?_, by go_grown⟩)
      all_goals (refine rS_eq (r := meetF al ah bl bh) ?_ ?_ ?_ <;> (rw [meetF, if_neg (by rw [Ha.out, Hb.out]; simp)] <;> (repeat' split) <;> (try simp) <;> omega))
  · have hva : vS al ah = false := by simpa using hva
    have Ha := Lib.hid hva
    clear hva
    go_enter Tryd.func38, Tryd.ntmps38
    go_wp2_with fail
    refine (rvalidSpan_any _ _ _).mono ?_
    rintro e w1 ⟨rfl, hb⟩
    obtain ⟨u0, u1, uf, ug, ul⟩ := kept2 (b := w.heap.size) (x := .int .i64 al) (y := .int .i64 ah) hb ⟨by go_cell, by go_cell, (by (try simp only [frozen?_alloc_cells, World.frozen?_setCell, fz_drew, fz_drewN]); first | assumption | exact frozen_beyond (by (try simp only [World.size_alloc, World.size_setCell, World.size_drew, sz_drewN]); omega)), (by (try simp only [frozen?_alloc_cells, World.frozen?_setCell, fz_drew, fz_drewN]); first | assumption | exact frozen_beyond (by (try simp only [World.size_alloc, World.size_setCell, World.size_drew, sz_drewN]); omega)), (by (try simp only [World.size_alloc, World.size_setCell, World.size_drew, sz_drewN]); omega)⟩
    obtain ⟨v0, v1, vf, vg, vl⟩ := kept2 (b := w.heap.size + 1) (x := .int .i64 bl) (y := .int .i64 bh) hb ⟨by go_cell, by go_cell, (by (try simp only [frozen?_alloc_cells, World.frozen?_setCell, fz_drew, fz_drewN]); first | assumption | exact frozen_beyond (by (try simp only [World.size_alloc, World.size_setCell, World.size_drew, sz_drewN]); omega)), (by (try simp only [frozen?_alloc_cells, World.frozen?_setCell, fz_drew, fz_drewN]); first | assumption | exact frozen_beyond (by (try simp only [World.size_alloc, World.size_setCell, World.size_drew, sz_drewN]); omega)), (by (try simp only [World.size_alloc, World.size_setCell, World.size_drew, sz_drewN]); omega)⟩
    obtain ⟨r0, r1, rf, rg, rl⟩ := kept2 (b := w.heap.size + 1 + 1) (x := .int .i64 0) (y := .int .i64 0) hb ⟨by go_cell, by go_cell, (by (try simp only [frozen?_alloc_cells, World.frozen?_setCell, fz_drew, fz_drewN]); first | assumption | exact frozen_beyond (by (try simp only [World.size_alloc, World.size_setCell, World.size_drew, sz_drewN]); omega)), (by (try simp only [frozen?_alloc_cells, World.frozen?_setCell, fz_drew, fz_drewN]); first | assumption | exact frozen_beyond (by (try simp only [World.size_alloc, World.size_setCell, World.size_drew, sz_drewN]); omega)), (by (try simp only [World.size_alloc, World.size_setCell, World.size_drew, sz_drewN]); omega)⟩
    have B1 : Bl w w1 := Bl.tr (by go_grown) hb
    clear hb
    rw [Ha.out]
    go_wp2
    all_goals (refine bodyPost_ret (by simp [results, Tryd.results38, go_sem, r0, r1]; try rfl) rfl ⟨?_, by go_grown⟩)
    all_goals (refine rS_eq (r := meetF al ah bl bh) ?_ ?_ ?_ <;> (rw [meetF, if_neg (by rw [Ha.out]; simp)] <;> (repeat' split) <;> (try simp) <;> omega))
end Go.Proofs.YtiljfhkkinddeaaDoor
