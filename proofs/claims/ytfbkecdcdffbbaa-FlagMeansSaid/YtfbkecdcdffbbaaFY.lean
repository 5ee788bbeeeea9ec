/-
  The walk of FlagMeans.
-/
import Derived.Test.YtfbkecdcdffbbaaFX
namespace Go.Proofs.Ytfbkecdcdffbbaa
open Go.RowKit Go.Shelf
set_option linter.unusedSimpArgs false
set_option linter.unusedVariables false

theorem bl_rf (w : World) : Bl w w := Below.refl _ _
set_option maxRecDepth 100000 in
set_option maxHeartbeats 8000000 in
theorem means_walk (A : Option Addr) (n c : Nat) (D : Nat → Int) (B : Option Addr) (m d : Nat) (H : Nat → Int) (w : World) (hn : n ≤ c ∧ c ≤ maxLen) (hA : Sl w A n D) (hm : m ≤ d ∧ d ≤ maxLen) (hB : Sl w B m H) :
    Calls Try.prog 3 #[.slice A n c, .slice B m d] w fun e w' => e = .returned (.bool true) ∧ Bl w w' := by
  have HA := Lib.hid hA
  have HB := Lib.hid hB
  have HN := Lib.hid (Nat.le_trans hn.1 hn.2)
  have HM := Lib.hid (Nat.le_trans hm.1 hm.2)
  have HMM := Lib.hid hm
  have n1 : n ≤ 9223372036854775807 := by have := hn.2; unfold maxLen at this; omega
  have m1 : m ≤ 9223372036854775807 := by have := hm.2; unfold maxLen at this; omega
  clear hA hB hn hm
  by_cases h1 : 100 < n
  · go_enter Try.func3, Try.ntmps3
    go_wp2_with fail
    have HB0 := Lib.hid (bl_rf w)
    refine (awake7_any _).mono ?_
    rintro e9 w9 ⟨rfl, hb9⟩
    go_wp2_with fail
    go_ret
    exact ⟨rfl, Bl.tr HB0.out hb9⟩
  · have h1' : n ≤ 100 := by omega
    clear h1
    by_cases h2 : 100 < m
    · go_enter Try.func3, Try.ntmps3
      go_wp2_with fail
      have HB0 := Lib.hid (bl_rf w)
      refine (awake7_any _).mono ?_
      rintro e9 w9 ⟨rfl, hb9⟩
      go_wp2_with fail
      go_ret
      exact ⟨rfl, Bl.tr HB0.out hb9⟩
    · have h2' : m ≤ 100 := by omega
      clear h2
      cases hv : vhB m H with
      | false =>
        have HV := Lib.hid hv
        have HF := Lib.hid (show flR m H = .tuple #[.int .i64 0, .int .i64 1] by rw [flR, hv]; rfl)
        clear hv
        go_enter Try.func3, Try.ntmps3
        go_wp2_with fail
        refine (means7_no B m d H _ HM.out HB.out HV.out).mono ?_
        rintro e w1 ⟨rfl, rfl⟩
        go_wp2_with fail
        refine (rmeans7_no B m d H _ HMM.out HB.out HV.out).mono ?_
        rintro e w1 ⟨rfl, rfl⟩
        go_wp2_with fail
        refine (flags7_any B m d H _ HM.out HB.out).mono ?_
        rintro e w1 ⟨rfl, rfl⟩
        rw [HF.out]
        go_wp2_with fail
        refine (rflags7_any B m d H _ HMM.out HB.out).mono ?_
        rintro e w1 ⟨rfl, rfl⟩
        rw [HF.out]
        go_wp2_with fail
        refine (validDigits_any A n c D _ HN.out HA.out).mono ?_
        rintro e w1 ⟨rfl, rfl⟩
        go_wp2_with fail
        refine (rvalidDigits_any A n c D _ HN.out HA.out).mono ?_
        rintro e w1 ⟨rfl, rfl⟩
        obtain ⟨vd, hvd⟩ : ∃ vd, vd = vdB n D := ⟨_, rfl⟩
        have bb : (vd == vd) = true := by simp
        rw [← hvd]
        clear hvd
        go_wp2_with fail
        refine (validHoist_any B m d H _ HM.out HB.out).mono ?_
        rintro e w1 ⟨rfl, rfl⟩
        rw [HV.out]
        go_wp2_with fail
        refine (rvalidHoist_any B m d H _ HMM.out HB.out).mono ?_
        rintro e w1 ⟨rfl, rfl⟩
        rw [HV.out]
        go_wp2_with fail
        refine (sameInts7_any none 0 0 (fun _ => 0) none 0 0 (fun _ => 0) _ (by decide) (by decide) (fun h => absurd h (by omega)) (fun h => absurd h (by omega))).mono ?_
        rintro e w1 ⟨rfl, N, rfl⟩
        rw [sIB_same (fun j _ => rfl)]
        go_wp2_with fail
        have HB0 := Lib.hid (bl_dN w N)
        refine (awake7_any _).mono ?_
        rintro e9 w9 ⟨rfl, hb9⟩
        go_wp2_with fail
        go_ret
        exact ⟨rfl, Bl.tr HB0.out hb9⟩
      | true =>
        have HV := Lib.hid hv
        obtain ⟨k, hk⟩ : ∃ k, flR m H = .tuple #[.int .i64 k, .int .i64 0] := ⟨_, by rw [flR, hv]; rfl⟩
        have HF := Lib.hid hk
        clear hv hk
        go_enter Try.func3, Try.ntmps3
        go_wp2_with fail
        refine (means7_yes B m d H _ HM.out HB.out HV.out).mono ?_
        rintro e w1 ⟨v1, rfl, ho1, hb1⟩
        obtain ⟨-, A1, c1, rfl, -, hc1, hs1⟩ := own_sl7 ho1
        have B1 := Lib.hid hb1
        have S1 := Lib.hid hs1
        clear ho1 hb1 hs1
        go_wp2_with fail
        refine (rmeans7_yes B m d H _ HMM.out (HB.out.below B1.out) HV.out).mono ?_
        rintro e w2 ⟨v2, rfl, ho2, hb2⟩
        obtain ⟨-, A2, c2, rfl, -, hc2, hs2⟩ := own_sl7 ho2
        have B2 := Lib.hid (Bl.tr B1.out hb2)
        have S2 := Lib.hid hs2
        have S1' := Lib.hid (S1.out.below hb2)
        clear ho2 hb2 hs2
        go_wp2_with fail
        refine (flags7_any B m d H _ HM.out (HB.out.below B2.out)).mono ?_
        rintro e w1 ⟨rfl, rfl⟩
        rw [HF.out]
        go_wp2_with fail
        refine (rflags7_any B m d H _ HMM.out (HB.out.below B2.out)).mono ?_
        rintro e w1 ⟨rfl, rfl⟩
        rw [HF.out]
        go_wp2_with fail
        refine (validDigits_any A n c D _ HN.out (HA.out.below B2.out)).mono ?_
        rintro e w1 ⟨rfl, rfl⟩
        go_wp2_with fail
        refine (rvalidDigits_any A n c D _ HN.out (HA.out.below B2.out)).mono ?_
        rintro e w1 ⟨rfl, rfl⟩
        obtain ⟨vd, hvd⟩ : ∃ vd, vd = vdB n D := ⟨_, rfl⟩
        have bb : (vd == vd) = true := by simp
        rw [← hvd]
        clear hvd
        go_wp2_with fail
        refine (validHoist_any B m d H _ HM.out (HB.out.below B2.out)).mono ?_
        rintro e w1 ⟨rfl, rfl⟩
        rw [HV.out]
        go_wp2_with fail
        refine (rvalidHoist_any B m d H _ HMM.out (HB.out.below B2.out)).mono ?_
        rintro e w1 ⟨rfl, rfl⟩
        rw [HV.out]
        go_wp2_with fail
        refine (sameInts7_any A1 m c1 (gI (dgs H m)) A2 m c2 (gI (dgs H m)) _ HM.out HM.out S1'.out S2.out).mono ?_
        rintro e w1 ⟨rfl, N, rfl⟩
        rw [sIB_same (fun j _ => rfl)]
        go_wp2_with fail
        have HB0 := Lib.hid (Bl.tr B2.out (bl_dN _ N))
        refine (awake7_any _).mono ?_
        rintro e9 w9 ⟨rfl, hb9⟩
        go_wp2_with fail
        go_ret
        exact ⟨rfl, Bl.tr HB0.out hb9⟩

end Go.Proofs.Ytfbkecdcdffbbaa
