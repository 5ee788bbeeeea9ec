/-
  Contracts of package transit and of its reference: stars.
-/
import Derived.Test.YtlpbmcnojkhdcaaDoorTB
namespace Go.Proofs.YtlpbmcnojkhdcaaDoor
open Go.RowKit
set_option linter.unusedSimpArgs false
set_option linter.unusedVariables false

def stB (s : ByteArray) (a h l : Int) : Bool := nmB s && inB a 0 86399999 && inB h (-10000) 10000 && inB l 1000 10000
theorem stB_yes {s : ByteArray} {a h l : Int} (hn : nmB s = true) : stB s a h l = true ↔ (0 ≤ a ∧ a ≤ 86399999) ∧ (-10000 ≤ h ∧ h ≤ 10000) ∧ (1000 ≤ l ∧ l ≤ 10000) := by
  simp only [stB, hn, Bool.and_eq_true, inB_iff, true_and]; constructor <;> (intro ⟨a, b⟩; simp_all)
theorem stB_no {s : ByteArray} {a h l : Int} (hn : nmB s = true) : stB s a h l = false ↔ ¬ ((0 ≤ a ∧ a ≤ 86399999) ∧ (-10000 ≤ h ∧ h ≤ 10000) ∧ (1000 ≤ l ∧ l ≤ 10000)) := by
  rw [← stB_yes hn]; simp

set_option maxHeartbeats 1000000 in
theorem validStar_any (s : ByteArray) (a h l : Int) (w : World) (hs : s.size ≤ maxLen) :
    Calls Tryd.prog 19 #[.agg #[.string s, .int .i64 a, .int .i64 h, .int .i64 l]] w fun e w' => e = .returned (.bool (stB s a h l)) ∧ Bl w w' := by
  by_cases hn : nmB s = true
  · have HN := Lib.hid hn
    have Y := Lib.hid (stB_yes (a := a) (h := h) (l := l) hn)
    have N := Lib.hid (stB_no (a := a) (h := h) (l := l) hn)
    clear hn
    by_cases hv : (0 ≤ a ∧ a ≤ 86399999) ∧ (-10000 ≤ h ∧ h ≤ 10000) ∧ (1000 ≤ l ∧ l ≤ 10000)
    · have HV := Lib.hid (Y.out.2 hv)
      obtain ⟨⟨h1, h2⟩, ⟨h3, h4⟩, h5, h6⟩ := hv
      go_enter Tryd.func19, Tryd.ntmps19
      go_wp2_with fail
      refine (isName_any _ _ hs).mono ?_
      rintro e w1 ⟨rfl, rfl⟩
      rw [HN.out]
      go_wp2_with fail
      go_ret
      exact ⟨ret_bool HV.out.symm, by go_grown⟩
    · have HV := Lib.hid (N.out.2 hv)
      have HM := Lib.hid hv
      clear hv
      go_enter Tryd.func19, Tryd.ntmps19
      go_wp2_with fail
      refine (isName_any _ _ hs).mono ?_
      rintro e w1 ⟨rfl, rfl⟩
      rw [HN.out]
      go_wp2_with fail
      all_goals
        go_ret
        exact ⟨ret_bool (by first | exact HV.out.symm | (rw [HV.out]; have := HM.out; simp; omega)), by go_grown⟩
  · have HV := Lib.hid (show stB s a h l = false by simp [stB, hn])
    have HN := Lib.hid (show nmB s = false by simpa using hn)
    clear hn
    go_enter Tryd.func19, Tryd.ntmps19
    go_wp2_with fail
    refine (isName_any _ _ hs).mono ?_
    rintro e w1 ⟨rfl, rfl⟩
    rw [HN.out]
    go_wp2_with fail
    go_ret
    exact ⟨ret_bool HV.out.symm, by go_grown⟩

set_option maxHeartbeats 1000000 in
theorem rvalidStar_any (s : ByteArray) (a h l : Int) (w : World) (hs : s.size ≤ maxLen) :
    Calls Tryd.prog 17 #[.agg #[.string s, .int .i64 a, .int .i64 h, .int .i64 l]] w fun e w' => e = .returned (.bool (stB s a h l)) ∧ Bl w w' := by
  by_cases hn : nmB s = true
  · have HN := Lib.hid hn
    clear hn
    by_cases hn : inB a 0 86399999 = true
    · have HA := Lib.hid hn
      clear hn
      by_cases hn : inB h (-10000) 10000 = true
      · have HH := Lib.hid hn
        clear hn
        go_enter Tryd.func17, Tryd.ntmps17
        go_wp2_with fail
        refine (name3_any _ _ hs).mono ?_
        rintro e w1 ⟨rfl, rfl⟩
        rw [HN.out]
        go_wp2_with fail
        refine (within3_any _ _ _ _).mono ?_
        rintro e w1 ⟨rfl, rfl⟩
        rw [HA.out]
        go_wp2_with fail
        refine (within3_any _ _ _ _).mono ?_
        rintro e w1 ⟨rfl, rfl⟩
        rw [HH.out]
        go_wp2_with fail
        refine (within3_any _ _ _ _).mono ?_
        rintro e w1 ⟨rfl, rfl⟩
        go_wp2_with fail
        go_ret
        exact ⟨ret_bool (by rw [stB, HN.out, HA.out, HH.out]; rfl), by go_grown⟩
      · have HH := Lib.hid (show inB h (-10000) 10000 = false by simpa using hn)
        clear hn
        go_enter Tryd.func17, Tryd.ntmps17
        go_wp2_with fail
        refine (name3_any _ _ hs).mono ?_
        rintro e w1 ⟨rfl, rfl⟩
        rw [HN.out]
        go_wp2_with fail
        refine (within3_any _ _ _ _).mono ?_
        rintro e w1 ⟨rfl, rfl⟩
        rw [HA.out]
        go_wp2_with fail
        refine (within3_any _ _ _ _).mono ?_
        rintro e w1 ⟨rfl, rfl⟩
        rw [HH.out]
        go_wp2_with fail
        go_ret
        exact ⟨ret_bool (by rw [stB, HN.out, HA.out, HH.out]; rfl), by go_grown⟩
    · have HA := Lib.hid (show inB a 0 86399999 = false by simpa using hn)
      clear hn
      go_enter Tryd.func17, Tryd.ntmps17
      go_wp2_with fail
      refine (name3_any _ _ hs).mono ?_
      rintro e w1 ⟨rfl, rfl⟩
      rw [HN.out]
      go_wp2_with fail
      refine (within3_any _ _ _ _).mono ?_
      rintro e w1 ⟨rfl, rfl⟩
      rw [HA.out]
      go_wp2_with fail
      go_ret
      exact ⟨ret_bool (by rw [stB, HN.out, HA.out]; rfl), by go_grown⟩
  · have HN := Lib.hid (show nmB s = false by simpa using hn)
    clear hn
    go_enter Tryd.func17, Tryd.ntmps17
    go_wp2_with fail
    refine (name3_any _ _ hs).mono ?_
    rintro e w1 ⟨rfl, rfl⟩
    rw [HN.out]
    go_wp2_with fail
    go_ret
    exact ⟨ret_bool (by rw [stB, HN.out]; rfl), by go_grown⟩
end Go.Proofs.YtlpbmcnojkhdcaaDoor
