/-
  Contracts of the calendar: valid dates, weekdays, the year of a day, the reference's day of a date.
-/
import Derived.Test.YtdelgijalnmehaaDoorM
import Derived.Test.YtdelgijalnmehaaDoorE
namespace Go.Proofs.YtdelgijalnmehaaDoor
open Go.RowKit Cal
set_option linter.unusedSimpArgs false
set_option linter.unusedVariables false

def vD (y m d : Int) : Bool := decide (1700 ≤ y ∧ y ≤ 2200 ∧ 1 ≤ m ∧ m ≤ 12 ∧ 1 ≤ d ∧ d ≤ mon y m)
theorem vD_iff {y m d : Int} : vD y m d = true ↔ 1700 ≤ y ∧ y ≤ 2200 ∧ 1 ≤ m ∧ m ≤ 12 ∧ 1 ≤ d ∧ d ≤ mon y m := by simp [vD]
theorem within_tq (n a b : Int) (w : World) (h1 : a ≤ n) (h2 : n ≤ b) :
    Calls Tryd.prog 18 #[.int .i64 n, .int .i64 a, .int .i64 b] w fun e w' => e = .returned (.bool true) ∧ w' = w :=
  (within_t n a b w h1 h2).mono fun _ _ ⟨he, hw⟩ => ⟨he, hw.symm⟩
theorem within_fq (n a b : Int) (w : World) (h : n < a ∨ b < n) :
    Calls Tryd.prog 18 #[.int .i64 n, .int .i64 a, .int .i64 b] w fun e w' => e = .returned (.bool false) ∧ w' = w :=
  (within_f n a b w h).mono fun _ _ ⟨he, hw⟩ => ⟨he, hw.symm⟩
set_option maxHeartbeats 1600000 in
theorem validDate_any (y m d : Int) (w : World) (hM : Mo w) :
    Calls Tryd.prog 34 #[.agg #[.int .i64 y, .int .i64 m, .int .i64 d]] w fun e w' => e = .returned (.bool (vD y m d)) ∧ Bl w w' := by
  by_cases h : 1700 ≤ y ∧ y ≤ 2200 ∧ 1 ≤ m ∧ m ≤ 12
  · obtain ⟨h1, h2, h3, h4⟩ := h
    have b := mon_bd y m
    obtain ⟨b1, b2⟩ := b
    have HM := Lib.hid (hM.below (w' := w.alloc (.cells #[.int .i64 y, .int .i64 m, .int .i64 d] 44)) (by go_grown))
    clear hM
    by_cases hd : 1 ≤ d
    · have V : Hid (vD y m d = decide (d ≤ mon y m)) := by show vD y m d = _; rw [Bool.eq_iff_iff]; simp [vD]; omega
      go_enter Tryd.func34, Tryd.ntmps34
      go_wp2_with fail
      go_quiet ((go_at_call 45; exact Calls.quiet_of_same (daysIn_any _ _ _ HM.out (by omega) (by omega))))
      go_wp2
      go_ret
      exact ⟨ret_bool V.out.symm, Bl.tr (by go_grown) (Bl.dn _ _)⟩
    · have V : Hid (vD y m d = false) := by show vD y m d = _; rw [Bool.eq_false_iff]; simp [vD]; omega
      have hd' : decide (1 ≤ d) = false := by simpa using hd
      go_enter Tryd.func34, Tryd.ntmps34
      go_wp2_with fail
      go_quiet (fail)
      go_wp2
      go_ret
      exact ⟨ret_bool V.out.symm, Bl.tr (by go_grown) (Bl.dn _ _)⟩
  · have V : Hid (vD y m d = false) := by show vD y m d = _; rw [Bool.eq_false_iff]; simp [vD]; omega
    clear hM
    go_enter Tryd.func34, Tryd.ntmps34
    go_wp2_with fail
    all_goals first
      | (exfalso; omega)
      | (go_ret; exact ⟨ret_bool V.out.symm, by go_grown⟩)

def wdF (t : Int) : Int × Int := if 0 ≤ t ∧ t ≤ 182985 then ((t + 4) % 7, 0) else (0, 7)