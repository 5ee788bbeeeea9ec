/-
  Contracts of package ball and of its reference: what is valid.
-/
import Derived.Test.YtajlfflbphbjnaaDoorA
import Derived.Test.YtajlfflbphbjnaaDoorBW
namespace Go.Proofs.YtajlfflbphbjnaaDoor
open Go.RowKit
set_option linter.unusedSimpArgs false
set_option linter.unusedVariables false

abbrev encM (M : Mst) : Value := .agg #[.int .i64 M.no, .int .i64 M.hf, .int .i64 M.fu, .int .i64 M.la, .int .i64 M.ag, .int .i64 M.wi]
abbrev encB (s : Bal) : Value := .agg #[.int .i64 s.pl, .int .i64 s.wi, .bool s.fl, .int .i64 s.t]
abbrev encE (e : Evt) : Value := .agg #[.int .i64 e.t, .int .i64 e.ki, .int .i64 e.n]

set_option maxHeartbeats 400000 in
theorem isTime_any (t : Int) (w : World) : Calls Tryd.prog 28 #[.int .i64 t] w fun e w' => e = .returned (.bool (decide (isT t))) ∧ w = w' := by
  go_enter Tryd.func28, Tryd.ntmps28
  go_wp2
  all_goals (go_ret; exact ⟨ret_bool (by rw [Bool.eq_iff_iff, decide_eq_true_eq (p := isT t)]; simp [isT]; try omega), rfl⟩)
set_option maxHeartbeats 400000 in
theorem isWind_any (t : Int) (w : World) : Calls Tryd.prog 29 #[.int .i64 t] w fun e w' => e = .returned (.bool (decide (isW t))) ∧ w = w' := by
  go_enter Tryd.func29, Tryd.ntmps29
  go_wp2
  all_goals (go_ret; exact ⟨ret_bool (by rw [Bool.eq_iff_iff, decide_eq_true_eq (p := isW t)]; simp [isW]; try omega), rfl⟩)
set_option maxHeartbeats 400000 in
theorem within4_any (n lo hi : Int) (w : World) : Calls Tryd.prog 16 #[.int .i64 n, .int .i64 lo, .int .i64 hi] w fun e w' => e = .returned (.bool (decide (lo ≤ n ∧ n ≤ hi))) ∧ w = w' := by
  go_enter Tryd.func16, Tryd.ntmps16
  go_wp2
  all_goals (go_ret; exact ⟨ret_bool (by rw [Bool.eq_iff_iff]; simp; try omega), rfl⟩)

set_option maxHeartbeats 1600000 in
theorem validMast_any (M : Mst) (w : World) : Calls Tryd.prog 17 #[encM M] w fun e w' => e = .returned (.bool (decide (VM M))) ∧ Bl w w' := by
  go_enter Tryd.func17, Tryd.ntmps17
  go_wp2_with (first | (go_at_call 28; refine (isTime_any _ _).mono ?_; rintro e w' ⟨rfl, rfl⟩) | (go_at_call 29; refine (isWind_any _ _).mono ?_; rintro e w' ⟨rfl, rfl⟩))
  all_goals (go_ret; exact ⟨ret_bool (by rw [Bool.eq_iff_iff, decide_eq_true_eq (p := VM M)]; first | (simp [vm_iff, isT, isW] at *; done) | (simp [vm_iff, isT, isW] at *; omega) | (simp [vm_iff, isT, isW, wrap64] at *; omega)), by go_grown⟩)