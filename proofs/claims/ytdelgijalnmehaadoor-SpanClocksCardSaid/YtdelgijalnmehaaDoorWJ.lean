/-
  The walk of the law on the texts of times of the day.
-/
import Derived.Test.YtdelgijalnmehaaDoorAB
namespace Go.Proofs.YtdelgijalnmehaaDoor
open Go.RowKit Go.Sort
set_option linter.unusedSimpArgs false
set_option linter.unusedVariables false

theorem parse_both (s : ByteArray) (hl : s.size ≤ 9223372036854775807) : ∃ m e : Int,
    (∀ w, TP w → Calls Tryd.prog 14 #[.string s] w fun x w' => x = .returned (.tuple #[.int .i64 m, .int .i64 e]) ∧ Bl w w') ∧
    (∀ w, Calls Tryd.prog 15 #[.string s] w fun x w' => x = .returned (.tuple #[.int .i64 m, .int .i64 e]) ∧ Bl w w') := by
  by_cases h12 : s.size = 12
  · by_cases h : ∃ n, n < 86400000 ∧ (⟨(clk n).toArray⟩ : ByteArray) = s
    · obtain ⟨n, hn, rfl⟩ := h
      exact ⟨n, 0, fun w hT => parse_yes _ n w hT rfl (clk_msC n hn) (by omega) (by omega) (by rw [Int.toNat_natCast]), fun w => rparse_yes _ n w rfl (clk_msR n hn) (by omega) (by omega) (by rw [Int.toNat_natCast])⟩
    · have h' : ∀ n, n < 86400000 → (⟨(clk n).toArray⟩ : ByteArray) ≠ s := fun n hn e => h ⟨n, hn, e⟩
      exact ⟨0, 2, fun w hT => parse_no s w hT h12 h', fun w => rparse_no s w h12 h'⟩
  · exact ⟨0, 2, fun w _ => (parse_other s w h12 hl).mono fun _ _ ⟨he, hw⟩ => ⟨he, by rw [hw]; exact Bl.rf _⟩, fun w => (rparse_other s w h12 hl).mono fun _ _ ⟨he, hw⟩ => ⟨he, by rw [hw]; exact Bl.rf _⟩⟩

theorem clock_both (ms : Int) : ∃ c : ByteArray, (0 ≤ ms ∧ ms < 86400000 → Hid (c = ⟨(clk ms.toNat).toArray⟩)) ∧
    (∀ w, TP w → Calls Tryd.prog 16 #[.int .i64 ms] w fun x w' => x = .returned (.string c) ∧ Bl w w') ∧
    (∀ w, Calls Tryd.prog 17 #[.int .i64 ms] w fun x w' => x = .returned (.string c) ∧ Bl w w') := by
  by_cases h : 0 ≤ ms ∧ ms < 86400000
  · exact ⟨_, fun _ => rfl, fun w hT => clock_ok ms w h.1 h.2 hT, fun w => rclock_ok ms w h.1 h.2⟩
  · exact ⟨_, fun k => absurd k h, fun w _ => (clock_no ms w (by omega)).mono fun _ _ ⟨he, hw⟩ => ⟨he, by rw [hw]; exact Bl.rf _⟩, fun w => rclock_no ms w (by omega)⟩

set_option maxHeartbeats 1600000 in
theorem clocks_walk (ms : Int) (s : ByteArray) (w : World) (hM : Mo w) (hT : TP w) (hl : s.size ≤ 9223372036854775807) :
    Calls Tryd.prog 5 #[.int .i64 ms, .string s] w fun e w' => e = .returned (.bool true) ∧ Bl w w' := by
  have HM := Lib.hid hM
  have HT := Lib.hid hT
  clear hM hT
  by_cases hlong : 100 < s.size
  · go_enter Tryd.func5, Tryd.ntmps5
    go_wp2_with fail
    refine (awake_any _ HM.out).mono ?_
    rintro e w1 ⟨rfl, hb⟩
    go_wp2
    go_ret
    exact ⟨rfl, hb⟩
  · obtain ⟨m, x, P1, P2⟩ := parse_both s hl
    obtain ⟨c, hc, C1, C2⟩ := clock_both ms
    have HP1 := Lib.hid P1
    have HP2 := Lib.hid P2
    have HC1 := Lib.hid C1
    have HC2 := Lib.hid C2
    have HC := Lib.hid hc
    clear P1 P2 C1 C2 hc
    by_cases hr : 0 ≤ ms ∧ ms < 86400000
    · obtain ⟨r1, r2⟩ := hr
      have hcc := HC.out ⟨r1, r2⟩
      have HY : Hid (∀ w, TP w → Calls Tryd.prog 14 #[.string c] w fun x w' => x = .returned (.tuple #[.int .i64 ms, .int .i64 0]) ∧ Bl w w') := by
        rw [show c = ⟨(clk ms.toNat).toArray⟩ from hcc]
        exact fun w hT => parse_yes _ ms w hT rfl ((clk_msC _ (by omega)).trans (by omega)) r1 r2 rfl
      clear HC hcc
      go_enter Tryd.func5, Tryd.ntmps5
      go_wp2_with fail
      refine (HP1.out _ HT.out).mono ?_
      rintro e w1 ⟨rfl, hb1⟩
      go_wp2_with fail
      refine (HP2.out _).mono ?_
      rintro e w2 ⟨rfl, hb2⟩
      have B2 : Bl w w2 := hb1.tr hb2
      clear hb1 hb2
      go_wp2_with fail
      refine (HC1.out _ (HT.out.below B2)).mono ?_
      rintro e w3 ⟨rfl, hb3⟩
      go_wp2_with fail
      refine (HC2.out _).mono ?_
      rintro e w4 ⟨rfl, hb4⟩
      have B4 : Bl w w4 := (B2.tr hb3).tr hb4
      clear hb3 hb4 B2
      go_wp2_with fail
      refine (HC1.out _ (HT.out.below B4)).mono ?_
      rintro e w5 ⟨rfl, hb5⟩
      go_wp2_with fail
      refine (HY.out _ (HT.out.below (B4.tr hb5))).mono ?_
      rintro e w6 ⟨rfl, hb6⟩
      have B6 : Bl w w6 := (B4.tr hb5).tr hb6
      clear hb5 hb6 B4
      go_wp2_with fail
      refine (awake_any _ (HM.out.below B6)).mono ?_
      rintro e w7 ⟨rfl, hb7⟩
      go_wp2
      go_ret
      exact ⟨rfl, B6.tr hb7⟩
    · clear HC
      have hr' : ms < 0 ∨ 86400000 ≤ ms := by omega
      clear hr
      rcases hr' with hr | hr
      all_goals
        go_enter Tryd.func5, Tryd.ntmps5
        go_wp2_with fail
        refine (HP1.out _ HT.out).mono ?_
        rintro e w1 ⟨rfl, hb1⟩
        go_wp2_with fail
        refine (HP2.out _).mono ?_
        rintro e w2 ⟨rfl, hb2⟩
        have B2 : Bl w w2 := hb1.tr hb2
        clear hb1 hb2
        go_wp2_with fail
        refine (HC1.out _ (HT.out.below B2)).mono ?_
        rintro e w3 ⟨rfl, hb3⟩
        go_wp2_with fail
        refine (HC2.out _).mono ?_
        rintro e w4 ⟨rfl, hb4⟩
        have B4 : Bl w w4 := (B2.tr hb3).tr hb4
        clear hb3 hb4 B2
        go_wp2_with fail
        refine (awake_any _ (HM.out.below B4)).mono ?_
        rintro e w7 ⟨rfl, hb7⟩
        go_wp2
        go_ret
        exact ⟨rfl, B4.tr hb7⟩
end Go.Proofs.YtdelgijalnmehaaDoor
