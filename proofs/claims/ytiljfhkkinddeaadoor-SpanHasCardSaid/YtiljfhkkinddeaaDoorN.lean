/-
  Contracts of the calendar: valid dates, weekdays, the year of a day, the reference's day of a date.
-/
import Derived.Test.YtiljfhkkinddeaaDoorM
import Derived.Test.YtiljfhkkinddeaaDoorE
namespace Go.Proofs.YtiljfhkkinddeaaDoor
open Go.RowKit Cal
set_option linter.unusedSimpArgs false
set_option linter.unusedVariables false

def vD (y m d : Int) : Bool := decide (1700 ≤ y ∧ y ≤ 2200 ∧ 1 ≤ m ∧ m ≤ 12 ∧ 1 ≤ d ∧ d ≤ mon y m)
theorem vD_iff {y m d : Int} : vD y m d = true ↔ 1700 ≤ y ∧ y ≤ 2200 ∧ 1 ≤ m ∧ m ≤ 12 ∧ 1 ≤ d ∧ d ≤ mon y m := by simp [vD]
theorem within_tq (n a b : Int) (w : World) (h1 : a ≤ n) (h2 : n ≤ b) :
    Calls Tryd.prog 61 #[.int .i64 n, .int .i64 a, .int .i64 b] w fun e w' => e = .returned (.bool true) ∧ w' = w :=
  (within_t n a b w h1 h2).mono fun _ _ ⟨he, hw⟩ => ⟨he, hw.symm⟩
theorem within_fq (n a b : Int) (w : World) (h : n < a ∨ b < n) :
    Calls Tryd.prog 61 #[.int .i64 n, .int .i64 a, .int .i64 b] w fun e w' => e = .returned (.bool false) ∧ w' = w :=
  (within_f n a b w h).mono fun _ _ ⟨he, hw⟩ => ⟨he, hw.symm⟩
theorem rmonth_q (y m : Int) (w : World) (h1 : 1 ≤ m) (h2 : m ≤ 12) :
    Calls Tryd.prog 76 #[.int .i64 y, .int .i64 m] w fun e w' => e = .returned (.int .i64 (mon y m)) ∧ w' = w :=
  (rmonth_any y m w h1 h2).mono fun _ _ ⟨he, hw⟩ => ⟨he, hw.symm⟩

set_option maxHeartbeats 1600000 in
theorem validDate_any (y m d : Int) (w : World) (hM : Mo w) :
    Calls Tryd.prog 72 #[.agg #[.int .i64 y, .int .i64 m, .int .i64 d]] w fun e w' => e = .returned (.bool (vD y m d)) ∧ Bl w w' := by
  by_cases h : 1700 ≤ y ∧ y ≤ 2200 ∧ 1 ≤ m ∧ m ≤ 12
  · obtain ⟨h1, h2, h3, h4⟩ := h
    have b := mon_bd y m
    obtain ⟨b1, b2⟩ := b
    have HM := Lib.hid (hM.below (w' := w.alloc (.cells #[.int .i64 y, .int .i64 m, .int .i64 d] 51)) (by go_grown))
    clear hM
    by_cases hd : 1 ≤ d
    · have V : Hid (vD y m d = decide (d ≤ mon y m)) := by show vD y m d = _; rw [Bool.eq_iff_iff]; simp [vD]; omega
      go_enter Tryd.func72, Tryd.ntmps72
      go_wp2_with fail
      go_quiet ((go_at_call 87; exact Calls.quiet_of_same (daysIn_any _ _ _ HM.out (by omega) (by omega))))
      go_wp2
      go_ret
      exact ⟨ret_bool V.out.symm, Bl.tr (by go_grown) (Bl.dn _ _)⟩
    · have V : Hid (vD y m d = false) := by show vD y m d = _; rw [Bool.eq_false_iff]; simp [vD]; omega
      have hd' : decide (1 ≤ d) = false := by simpa using hd
      go_enter Tryd.func72, Tryd.ntmps72
      go_wp2_with fail
      go_quiet (fail)
      go_wp2
      go_ret
      exact ⟨ret_bool V.out.symm, Bl.tr (by go_grown) (Bl.dn _ _)⟩
  · have V : Hid (vD y m d = false) := by show vD y m d = _; rw [Bool.eq_false_iff]; simp [vD]; omega
    clear hM
    go_enter Tryd.func72, Tryd.ntmps72
    go_wp2_with fail
    all_goals first
      | (exfalso; omega)
      | (go_ret; exact ⟨ret_bool V.out.symm, by go_grown⟩)

set_option maxHeartbeats 1600000 in
theorem rvalid_any (y m d : Int) (w : World) :
    Calls Tryd.prog 74 #[.agg #[.int .i64 y, .int .i64 m, .int .i64 d]] w fun e w' => e = .returned (.bool (vD y m d)) ∧ Bl w w' := by
  by_cases h : 1700 ≤ y ∧ y ≤ 2200
  · obtain ⟨h1, h2⟩ := h
    by_cases h : 1 ≤ m ∧ m ≤ 12
    · obtain ⟨h3, h4⟩ := h
      by_cases hd : 1 ≤ d ∧ d ≤ mon y m
      · obtain ⟨h5, h6⟩ := hd
        have V : Hid (vD y m d = true) := by show vD y m d = _; simp [vD]; omega
        go_enter Tryd.func74, Tryd.ntmps74
        go_wp2_with fail
        go_quiet ((first | (go_at_call 76; exact Calls.quiet_of_same (rmonth_q _ _ _ (by omega) (by omega))) | (go_at_call 61; exact Calls.quiet_of_same (within_tq _ _ _ _ (by omega) (by omega)))))
        go_wp2
        go_ret
        exact ⟨ret_bool V.out.symm, Bl.tr (by go_grown) (Bl.dn _ _)⟩
      · have V : Hid (vD y m d = false) := by show vD y m d = _; rw [Bool.eq_false_iff]; simp [vD]; omega
        have hd' : d < 1 ∨ mon y m < d := by omega
        clear hd
        go_enter Tryd.func74, Tryd.ntmps74
        go_wp2_with fail
        go_quiet ((first | (go_at_call 76; exact Calls.quiet_of_same (rmonth_q _ _ _ (by omega) (by omega))) | (go_at_call 61; first | exact Calls.quiet_of_same (within_tq _ _ _ _ (by omega) (by omega)) | exact Calls.quiet_of_same (within_fq _ _ _ _ hd'))))
        go_wp2
        go_ret
        exact ⟨ret_bool V.out.symm, Bl.tr (by go_grown) (Bl.dn _ _)⟩
    · have V : Hid (vD y m d = false) := by show vD y m d = _; rw [Bool.eq_false_iff]; simp [vD]; omega
      have hm : m < 1 ∨ 12 < m := by omega
      clear h
      go_enter Tryd.func74, Tryd.ntmps74
      go_wp2_with fail
      go_quiet ((go_at_call 61; first | exact Calls.quiet_of_same (within_tq _ _ _ _ (by omega) (by omega)) | exact Calls.quiet_of_same (within_fq _ _ _ _ hm)))
      go_wp2
      go_ret
      exact ⟨ret_bool V.out.symm, Bl.tr (by go_grown) (Bl.dn _ _)⟩
  · have V : Hid (vD y m d = false) := by show vD y m d = _; rw [Bool.eq_false_iff]; simp [vD]; omega
    have hy : y < 1700 ∨ 2200 < y := by omega
    clear h
    go_enter Tryd.func74, Tryd.ntmps74
    go_wp2_with fail
    go_quiet ((go_at_call 61; exact Calls.quiet_of_same (within_fq _ _ _ _ hy)))
    go_wp2
    go_ret
    exact ⟨ret_bool V.out.symm, Bl.tr (by go_grown) (Bl.dn _ _)⟩

def wdF (t : Int) : Int × Int := if 0 ≤ t ∧ t ≤ 182985 then ((t + 4) % 7, 0) else (0, 7)
theorem inCal_any (t : Int) (w : World) :
    Calls Tryd.prog 77 #[.int .i64 t] w fun e w' => e = .returned (.bool (decide (0 ≤ t ∧ t ≤ 182985))) ∧ w = w' := by
  go_enter Tryd.func77, Tryd.ntmps77
  go_wp2
  all_goals (go_ret; exact ⟨ret_bool (by simp; try omega), rfl⟩)
theorem inCal_t (t : Int) (w : World) (h : 0 ≤ t) (h' : t ≤ 182985) : Calls Tryd.prog 77 #[.int .i64 t] w fun e w' => e = .returned (.bool true) ∧ w = w' :=
  (inCal_any t w).mono fun _ _ ⟨he, hw⟩ => ⟨he.trans (ret_bool (by simp [h, h'])), hw⟩
theorem inCal_f (t : Int) (w : World) (h : ¬ (0 ≤ t ∧ t ≤ 182985)) : Calls Tryd.prog 77 #[.int .i64 t] w fun e w' => e = .returned (.bool false) ∧ w = w' :=
  (inCal_any t w).mono fun _ _ ⟨he, hw⟩ => ⟨he.trans (ret_bool (by simp; omega)), hw⟩

set_option maxHeartbeats 800000 in
theorem weekday_any (t : Int) (w : World) :
    Calls Tryd.prog 48 #[.int .i64 t] w fun e w' => e = .returned (.tuple #[.int .i64 (wdF t).1, .int .i64 (wdF t).2]) ∧ w = w' := by
  by_cases h : 0 ≤ t ∧ t ≤ 182985
  · have e : wdF t = ((t + 4) % 7, 0) := by rw [wdF, if_pos h]
    rw [e]
    clear e
    obtain ⟨h1, h2⟩ := h
    go_enter Tryd.func48, Tryd.ntmps48
    go_wp2_with (go_at_call 77; refine (inCal_t _ _ h1 h2).mono ?_; rintro e w' ⟨rfl, rfl⟩)
    go_ret2
    exact ⟨rfl, rfl⟩
  · have e : wdF t = (0, 7) := by rw [wdF, if_neg h]
    rw [e]
    clear e
    go_enter Tryd.func48, Tryd.ntmps48
    go_wp2_with (go_at_call 77; refine (inCal_f _ _ h).mono ?_; rintro e w' ⟨rfl, rfl⟩)
    go_ret2
    exact ⟨rfl, rfl⟩

set_option maxHeartbeats 800000 in
theorem rweekday_any (t : Int) (w : World) :
    Calls Tryd.prog 49 #[.int .i64 t] w fun e w' => e = .returned (.tuple #[.int .i64 (wdF t).1, .int .i64 (wdF t).2]) ∧ w = w' := by
  by_cases h : 0 ≤ t ∧ t ≤ 182985
  · have e : wdF t = ((t + 4) % 7, 0) := by rw [wdF, if_pos h]
    rw [e]
    clear e
    obtain ⟨h1, h2⟩ := h
    go_enter Tryd.func49, Tryd.ntmps49
    go_wp2_with (go_at_call 61; refine (within_t _ _ _ _ h1 h2).mono ?_; rintro e w' ⟨rfl, rfl⟩)
    go_ret2
    exact ⟨rfl, rfl⟩
  · have e : wdF t = (0, 7) := by rw [wdF, if_neg h]
    rw [e]
    clear e
    have h' : t < 0 ∨ 182985 < t := by omega
    clear h
    go_enter Tryd.func49, Tryd.ntmps49
    go_wp2_with (go_at_call 61; refine (within_f _ _ _ _ h').mono ?_; rintro e w' ⟨rfl, rfl⟩)
    go_ret2
    exact ⟨rfl, rfl⟩

set_option maxHeartbeats 800000 in
theorem yearOf_any (t : Int) (w : World) (h1 : 0 ≤ t) (h2 : t ≤ 182985) :
    Calls Tryd.prog 78 #[.int .i64 t] w fun e w' => ∃ y : Int, e = .returned (.int .i64 y) ∧ (1700 ≤ y ∧ y ≤ 2200 ∧ ny y ≤ t ∧ t < ny (y + 1)) ∧ w = w' := by
  have hl := ny_last
  go_enter Tryd.func78, Tryd.ntmps78
  go_wp2
  go_loop [3] (fun v => ∃ y : Int, v = .int .i64 y ∧ 1700 ≤ y ∧ y ≤ 2200 ∧ ny y ≤ t) (fun v => (2201 - intOf v).toNat)
  case atStart => exact ⟨_, rfl, by omega, by omega, by unfold ny; omega⟩
  case round =>
    obtain ⟨y, rfl, y1, y2, y3⟩ := hrel
    by_cases hc : ny (y + 1) ≤ t
    · have y4 : y + 1 ≤ 2200 := by
        by_cases e : y = 2200
        · subst e; have : ny (2200 + 1) = 182986 := ny_last; omega
        · omega
      go_wp2_with (go_at_call 89; refine (newYear_any _ _ (by omega) (by omega)).mono ?_; rintro e w' ⟨rfl, rfl⟩)
      go_round
      case rel => exact ⟨y + 1, rfl, by omega, by omega, hc⟩
      case measure => simp [intOf]; omega
    · go_wp2_with (go_at_call 89; refine (newYear_any _ _ (by omega) (by omega)).mono ?_; rintro e w' ⟨rfl, rfl⟩)
      go_ret
      exact ⟨y, rfl, ⟨y1, y2, y3, by omega⟩, rfl⟩
end Go.Proofs.YtiljfhkkinddeaaDoor
