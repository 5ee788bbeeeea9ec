/-
  Contracts of package ball and of its reference: states and events.
-/
import Derived.Test.YtajlfflbphbjnaaDoorBB
namespace Go.Proofs.YtajlfflbphbjnaaDoor
open Go.RowKit
set_option linter.unusedSimpArgs false
set_option linter.unusedVariables false

set_option maxHeartbeats 800000 in
theorem isEvent_any (x : Evt) (w : World) : Calls Tryd.prog 46 #[encE x] w fun e w' => e = .returned (.bool (decide (VE x))) ∧ Bl w w' := by
  go_enter Tryd.func46, Tryd.ntmps46
  go_wp2_with (first | (go_at_call 28; refine (isTime_any _ _).mono ?_; rintro e w' ⟨rfl, rfl⟩) | (go_at_call 29; refine (isWind_any _ _).mono ?_; rintro e w' ⟨rfl, rfl⟩))
  all_goals (go_ret; exact ⟨ret_bool (by rw [Bool.eq_iff_iff, decide_eq_true_eq (p := VE x)]; (try simp only [Bool.or_eq_true, Bool.and_eq_true, decide_eq_true_eq]); first | (simp [ve_iff, isT, isW] at *; done) | (simp [ve_iff, isT, isW] at *; omega)), by go_grown⟩)
def sndE (x : Evt) : Int := if VE x then 0 else 7
set_option maxHeartbeats 400000 in
theorem isBefore_any (M : Mst) (d t : Int) (w : World) (hd0 : 0 ≤ d) (hd1 : d < 200000000) (hh : 0 ≤ M.hf ∧ M.hf ≤ 3600000) (hf : 0 ≤ M.fu ∧ M.fu ≤ 3600000) : Calls Tryd.prog 38 #[encM M, .int .i64 d, .int .i64 t] w fun e w' => e = .returned (.bool (decide (bef M d t))) ∧ Bl w w' := by
  go_enter Tryd.func38, Tryd.ntmps38
  go_wp2
  all_goals (go_ret; exact ⟨ret_bool (by rw [Bool.eq_iff_iff, decide_eq_true_eq (p := bef M d t)]; (try simp only [Bool.or_eq_true, Bool.and_eq_true, decide_eq_true_eq]); first | (simp [bef] at *; done) | (simp [bef] at *; omega)), by go_grown⟩)
set_option maxHeartbeats 400000 in
theorem again_any (M : Mst) (w : World) (hn : 0 ≤ M.no ∧ M.no < 86400000) (ha : 0 ≤ M.ag ∧ M.ag ≤ 7200000) : Calls Tryd.prog 25 #[encM M] w fun e w' => e = .returned (.int .i64 (M.no + M.ag)) ∧ Bl w w' := by
  go_enter Tryd.func25, Tryd.ntmps25
  go_wp2
  go_ret
  exact ⟨rfl, by go_grown⟩
end Go.Proofs.YtajlfflbphbjnaaDoor
