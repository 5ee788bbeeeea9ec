/-
  Contracts of the calendar: leap years, months, years, validity, the first day of a year.
-/
import Derived.Test.YtdelgijalnmehaaDoorI
import Derived.Test.YtdelgijalnmehaaDoorL
namespace Go.Proofs.YtdelgijalnmehaaDoor
open Go.RowKit Cal
set_option linter.unusedSimpArgs false
set_option linter.unusedVariables false

set_option maxHeartbeats 800000 in
theorem leap_any (y : Int) (w : World) :
    Calls Tryd.prog 50 #[.int .i64 y] w fun e w' => e = .returned (.bool (lpB y)) ∧ w = w' := by
  by_cases h : 1700 ≤ y ∧ y ≤ 2200
  · obtain ⟨h1, h2⟩ := h
    go_enter Tryd.func50, Tryd.ntmps50
    go_wp2
    all_goals (go_ret; refine ⟨ret_bool ?_, rfl⟩)
    all_goals (rw [Bool.eq_iff_iff]; simp [lpB]; omega)
  · go_enter Tryd.func50, Tryd.ntmps50
    go_wp2
    all_goals first
      | (exfalso; omega)
      | (go_ret; refine ⟨ret_bool ?_, rfl⟩; rw [Bool.eq_iff_iff]; simp [lpB]; omega)

theorem leap_t (y : Int) (w : World) (h : lpB y = true) : Calls Tryd.prog 50 #[.int .i64 y] w fun e w' => e = .returned (.bool true) ∧ w = w' := by rw [← h]; exact leap_any y w
theorem leap_f (y : Int) (w : World) (h : lpB y = false) : Calls Tryd.prog 50 #[.int .i64 y] w fun e w' => e = .returned (.bool false) ∧ w = w' := by rw [← h]; exact leap_any y w
def moT : List Int := [31, 28, 31, 30, 31, 30, 31, 31, 30, 31, 30, 31]
/-- The table of the months, as the program lays it. -/
def Mo (w : World) : Prop := (∀ i, i < 12 → w.cell? ⟨2, i, none⟩ = some (.int .i64 (moT.getD i 0))) ∧ 2 < w.heap.size
theorem Mo.below {w w' : World} (h : Mo w) (hb : Bl w w') : Mo w' := ⟨fun i hi => (hb.cell (p := ⟨_, i, none⟩) h.2).trans (h.1 i hi), Nat.lt_of_lt_of_le h.2 hb.size⟩

set_option maxHeartbeats 1600000 in
theorem daysIn_any (y m : Int) (w : World) (hM : Mo w) (h1 : 1 ≤ m) (h2 : m ≤ 12) :
    Calls Tryd.prog 45 #[.int .i64 y, .int .i64 m] w fun e w' => e = .returned (.int .i64 (mon y m)) ∧ w' = w := by
  have c0 := hM.1 0 (by omega)
  have c1 := hM.1 1 (by omega)
  have c2 := hM.1 2 (by omega)
  have c3 := hM.1 3 (by omega)
  have c4 := hM.1 4 (by omega)
  have c5 := hM.1 5 (by omega)
  have c6 := hM.1 6 (by omega)
  have c7 := hM.1 7 (by omega)
  have c8 := hM.1 8 (by omega)
  have c9 := hM.1 9 (by omega)
  have c10 := hM.1 10 (by omega)
  have c11 := hM.1 11 (by omega)
  simp only [moT, List.getD_cons_zero, List.getD_cons_succ] at c0 c1 c2 c3 c4 c5 c6 c7 c8 c9 c10 c11
  clear hM
  rcases twelve h1 h2 with rfl | rfl | rfl | rfl | rfl | rfl | rfl | rfl | rfl | rfl | rfl | rfl
  case inr.inl =>
    by_cases h : lpB y = true
    · have e : mon y 2 = 29 := by simp [mon, lp, h]
      rw [e]
      clear e
      have H := Lib.hid h
      clear h
      go_enter Tryd.func45, Tryd.ntmps45
      go_wp2_with (go_at_call 50; refine (leap_t _ _ H.out).mono ?_; rintro e w' ⟨rfl, rfl⟩)
      go_ret
      exact ⟨rfl, rfl⟩
    · have h : lpB y = false := by simpa using h
      have e : mon y 2 = 28 := by simp [mon, lp, h]
      rw [e]
      clear e
      have H := Lib.hid h
      clear h
      go_enter Tryd.func45, Tryd.ntmps45
      go_wp2_with (go_at_call 50; refine (leap_f _ _ H.out).mono ?_; rintro e w' ⟨rfl, rfl⟩)
      go_ret
      exact ⟨rfl, rfl⟩
  all_goals
    go_enter Tryd.func45, Tryd.ntmps45
    go_wp2
    go_ret
    exact ⟨ret_int (by simp [mon]), rfl⟩

set_option maxHeartbeats 800000 in
theorem newYear_any (y : Int) (w : World) (h1 : 1700 ≤ y) (h2 : y ≤ 2201) :
    Calls Tryd.prog 47 #[.int .i64 y] w fun e w' => e = .returned (.int .i64 (ny y)) ∧ w' = w := by
  go_enter Tryd.func47, Tryd.ntmps47
  go_wp2
  go_ret
  exact ⟨ret_int (by unfold ny; rfl), rfl⟩
end Go.Proofs.YtdelgijalnmehaaDoor
