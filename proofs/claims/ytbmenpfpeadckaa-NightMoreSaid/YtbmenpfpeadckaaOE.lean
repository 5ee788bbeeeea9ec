/-
  The walk of NightMore.
-/
import Derived.Test.YtbmenpfpeadckaaOD
namespace Go.Proofs.Ytbmenpfpeadckaa
open Go.RowKit Go.Maps
set_option linter.unusedSimpArgs false
set_option linter.unusedVariables false

set_option maxRecDepth 100000 in
set_option maxHeartbeats 25600000 in
theorem more_w2 (A : Option Addr) (n c : Nat) (L : Nat → Ch) (C : Option Addr) (ms e0 : Nat) (S : Nat → Sp2) (per k i : Int) (w : World) (hn : n ≤ c ∧ c ≤ maxLen) (hS : ∀ j, j < n → (L j).nm.size ≤ maxLen) (hA : Chl w A n L) (hms : ms ≤ e0 ∧ e0 ≤ maxLen) (hC : Spl w C ms S) (hf : fitB L n ms = true) (hk : 0 ≤ k) (hi : 0 ≤ i) (h0 : 0 < n) (hkr : k ≤ 9223372036854775807) (hir : i ≤ 9223372036854775807) (hc : chkN L n S ms per = 0) :
    Calls Try.prog 5 #[.slice A n c, .slice C ms e0, .int .i64 per, .int .i64 k, .int .i64 i] w fun e' w' => e' = .returned (.bool true) ∧ Bl w w' := by
  have HA := Lib.hid hA
  have HCC := Lib.hid hC
  have HS := Lib.hid hS
  have HC := Lib.hid hn
  have HMS := Lib.hid (Nat.le_trans hms.1 hms.2)
  have HME := Lib.hid hms
  clear hA hC hS hn hms
  have g1 : ¬ k < 0 := by omega
  have g2 : ¬ i < 0 := by omega
  have g3 : ((n : Int) == 0) = false := by simp; omega
  have HF1 := Lib.hid hf
  have HKI := Lib.hid (show 0 ≤ k ∧ 0 ≤ i ∧ 0 < n ∧ k ≤ 9223372036854775807 ∧ i ≤ 9223372036854775807 from ⟨hk, hi, h0, hkr, hir⟩)
  clear hf hk hi h0 hkr hir
  have HQ := Lib.hid hc
  obtain ⟨v1, v2, v3⟩ := chk_ok hc
  have HV := Lib.hid v1
  have n20 := vd_len v1
  obtain ⟨v4, v5⟩ := v3
  obtain ⟨b1, hb1⟩ : ∃ b, b = bestL L n S ms per := ⟨_, rfl⟩
  obtain ⟨x1, hx1⟩ : ∃ b, b = wthF L b1 b1.length := ⟨_, rfl⟩
  have HB1 := Lib.hid hb1
  have HLN1 := Lib.hid (show b1.length ≤ 400 by rw [hb1]; exact Nat.le_trans (best_len L S ms per) (by omega))
  have HW1 := Lib.hid (show wrR L n b1 = (x1, 0) by rw [hx1, hb1]; exact (best_ok L n S ms per).1.wr v1)
  have kk1 := HKI.out
  -- fewer clouds
  obtain ⟨m2, hm2⟩ : ∃ m2 : Nat, m2 = min k.toNat ms := ⟨_, rfl⟩
  have em : min k (ms : Int) = (m2 : Int) := by omega
  have lm : m2 ≤ ms := by omega
  have lme := HME.out
  obtain ⟨b2, hb2⟩ : ∃ b, b = bestL L n S m2 per := ⟨_, rfl⟩
  obtain ⟨x2, hx2⟩ : ∃ b, b = wthF L b2 b2.length := ⟨_, rfl⟩
  have HB2 := Lib.hid hb2
  have HQ2 := Lib.hid (show chkN L n S m2 per = 0 from chk_of v1 (cld_fewer v2 lm) ⟨v4, v5⟩)
  have HLN2 := Lib.hid (show b2.length ≤ 400 by rw [hb2]; exact Nat.le_trans (best_len L S m2 per) (by omega))
  have HW2 := Lib.hid (show wrR L n b2 = (x2, 0) by rw [hx2, hb2]; exact (best_ok L n S m2 per).1.wr v1)
  have le2 : ¬ x2 < x1 := by have := more_fewer L n S per lm; rw [hx1, hx2, hb1, hb2]; omega
  -- a faster instrument
  obtain ⟨p2, hp2⟩ : ∃ p2, p2 = per / 2 := ⟨_, rfl⟩
  have hp3 : 0 ≤ p2 ∧ p2 ≤ per := by rw [hp2]; omega
  obtain ⟨b3, hb3⟩ : ∃ b, b = bestL L n S ms p2 := ⟨_, rfl⟩
  obtain ⟨x3, hx3⟩ : ∃ b, b = wthF L b3 b3.length := ⟨_, rfl⟩
  have HB3 := Lib.hid hb3
  have HQ3 := Lib.hid (show chkN L n S ms p2 = 0 from chk_of v1 v2 ⟨hp3.1, by omega⟩)
  have HLN3 := Lib.hid (show b3.length ≤ 400 by rw [hb3]; exact Nat.le_trans (best_len L S ms p2) (by omega))
  have HW3 := Lib.hid (show wrR L n b3 = (x3, 0) by rw [hx3, hb3]; exact (best_ok L n S ms p2).1.wr v1)
  have le3 : ¬ x3 < x1 := by have := more_faster L n S ms hp3.2; rw [hx1, hx3, hb1, hb3]; omega
  -- one chance less
  obtain ⟨r, hr⟩ : ∃ r : Nat, r = (i % n).toNat := ⟨_, rfl⟩
  have er : i % (n : Int) = (r : Int) := by
    have := Int.emod_nonneg i (show (n : Int) ≠ 0 by omega)
    rw [hr]; omega
  have lr : r < n := by
    have := Int.emod_lt_of_pos i (show 0 < (n : Int) by omega)
    omega
  obtain ⟨N4, hN4⟩ : ∃ N, N = n - 1 := ⟨_, rfl⟩
  have HVR := Lib.hid (show vdB (remC r L) N4 = true by rw [hN4]; exact rem_valid v1 lr)
  obtain ⟨b4, hb4⟩ : ∃ b, b = bestL (remC r L) N4 S ms per := ⟨_, rfl⟩
  obtain ⟨x4, hx4⟩ : ∃ b, b = wthF (remC r L) b4 b4.length := ⟨_, rfl⟩
  have HB4 := Lib.hid hb4
  have HQ4 := Lib.hid (show chkN (remC r L) N4 S ms per = 0 from chk_of HVR.out v2 ⟨v4, v5⟩)
  have HLN4 := Lib.hid (show b4.length ≤ 400 by rw [hb4]; exact Nat.le_trans (best_len _ S ms per) (by omega))
  have HW4 := Lib.hid (show wrR (remC r L) N4 b4 = (x4, 0) by rw [hx4, hb4]; exact (best_ok (remC r L) N4 S ms per).1.wr HVR.out)
  have le4 : x4 ≤ x1 := by have := more_less L n r S ms per lr; rw [← hN4] at this; rw [hx1, hx4, hb1, hb4]; omega
  have HS4 := Lib.hid (show ∀ j, j < N4 → (remC r L j).nm.size ≤ maxLen from fun j hj => by
    unfold remC; split
    · exact HS.out j (by omega)
    · exact HS.out (j + 1) (by omega))
  have HEP := Lib.hid hp2
  have hn0 : ¬ (n : Int) = 0 := by omega
  have HER := Lib.hid (show i.tmod (n : Int) = (r : Int) ∧ wrap64 ((r : Int) + 1) = (r : Int) + 1 ∧ IntKind.i64.wrap ((r : Int) + 1) = (r : Int) + 1 ∧ r + 1 ≤ n ∧ r ≤ c ∧ ¬ n = 0 ∧ (r : Int) + 1 ≤ n ∧ 0 ≤ (r : Int) + 1 ∧ r ≤ n ∧ 0 + r ≤ 3000 ∧ r + (n - (r + 1)) ≤ 3000 ∧ r + (n - (r + 1)) = N4 from
    ⟨by rw [Int.tmod_eq_emod_of_nonneg (by omega)]; exact er, IntWalk.wrap64_in _ (by omega), IntWalk.i64_in _ (by omega), by omega, by have := HC.out.1; omega, by omega, by omega, by omega, by omega, by omega, by omega, by omega⟩)
  clear hN4 hx1 hx2 hx3 hx4 hb1 hb2 hb3 hb4 hm2 v1 v2 hc hr hp2
  go_enter Try.func5, Try.ntmps5
  go_wp2_with fail
  refine (fitN_any A n c L C ms e0 _ HA.out HS.out (Nat.le_trans HC.out.1 HC.out.2) HMS.out).mono ?_
  rintro q1 w1 ⟨rfl, hb⟩
  have B1 := Lib.hid hb
  clear hb
  rw [HF1.out]
  go_wp2_with fail
  refine (best_any A n c L C ms e0 S per _ (HA.out.below B1.out) HS.out HC.out.1 HC.out.2 (HCC.out.below B1.out) HMS.out).mono ?_
  rintro q2 w2 ⟨hb, ⟨hne, _⟩ | ⟨_, v, rfl, hv⟩⟩
  · exact absurd HQ.out hne
  rw [← HB1.out] at hv
  have B2 := Lib.hid (B1.out.tr hb)
  obtain ⟨A2, c2, rfl, y1, y2, y3, y4⟩ := hv
  have HL2 := Lib.hid (show IsL w2 0 (.slice A2 b1.length c2) b1 from ⟨A2, c2, rfl, y1, y2, y3, fun a _ => Nat.zero_le _⟩)
  clear hb y1 y2 y3 y4
  go_wp2_with fail
  refine (worthT_any A n c L A2 b1.length c2 b1 _ (HA.out.below B2.out) HS.out HC.out.1 HC.out.2 HL2.out rfl HLN1.out).mono ?_
  rintro q3 w3 ⟨rfl, hb⟩
  rw [HW1.out]
  have B3 := Lib.hid (B2.out.tr hb)
  clear hb
  go_wp2_with fail
  refine (best_any A n c L C m2 e0 S per _ (HA.out.below B3.out) HS.out HC.out.1 HC.out.2 ((spl_take HCC.out lm).below B3.out) (Nat.le_trans lm HMS.out)).mono ?_
  rintro q4 w4 ⟨hb, ⟨hne, _⟩ | ⟨_, v, rfl, hv⟩⟩
  · exact absurd HQ2.out hne
  rw [← HB2.out] at hv
  have B4 := Lib.hid (B3.out.tr hb)
  obtain ⟨A4, c4, rfl, y1, y2, y3, y4⟩ := hv
  have HL4 := Lib.hid (show IsL w4 0 (.slice A4 b2.length c4) b2 from ⟨A4, c4, rfl, y1, y2, y3, fun a _ => Nat.zero_le _⟩)
  clear hb y1 y2 y3 y4
  go_wp2_with fail
  refine (worthT_any A n c L A4 b2.length c4 b2 _ (HA.out.below B4.out) HS.out HC.out.1 HC.out.2 HL4.out rfl HLN2.out).mono ?_
  rintro q5 w5 ⟨rfl, hb⟩
  rw [HW2.out]
  have B5 := Lib.hid (B4.out.tr hb)
  clear hb
  go_wp2_with fail
  refine (best_any A n c L C ms e0 S (per / 2) _ (HA.out.below B5.out) HS.out HC.out.1 HC.out.2 (HCC.out.below B5.out) HMS.out).mono ?_
  rw [← HEP.out]
  rintro q6 w6 ⟨hb, ⟨hne, _⟩ | ⟨_, v, rfl, hv⟩⟩
  · exact absurd HQ3.out hne
  rw [← HB3.out] at hv
  have B6 := Lib.hid (B5.out.tr hb)
  obtain ⟨A6, c6, rfl, y1, y2, y3, y4⟩ := hv
  have HL6 := Lib.hid (show IsL w6 0 (.slice A6 b3.length c6) b3 from ⟨A6, c6, rfl, y1, y2, y3, fun a _ => Nat.zero_le _⟩)
  clear hb y1 y2 y3 y4
  go_wp2_with fail
  refine (worthT_any A n c L A6 b3.length c6 b3 _ (HA.out.below B6.out) HS.out HC.out.1 HC.out.2 HL6.out rfl HLN3.out).mono ?_
  rintro q7 w7 ⟨rfl, hb⟩
  rw [HW3.out]
  have B7 := Lib.hid (B6.out.tr hb)
  clear hb
  go_wp2_with fail
  have er2 := HER.out.1
  have HA7 := Lib.hid (HA.out.below B7.out)
  obtain ⟨bA, oA, rfl, hbA, -⟩ := id HA7.out kk1.2.2.1
  by_cases hcap : c = r + 1
  · as_aux_lemma =>
    have hnr : n = r + 1 := by have := HER.out.2.2.2.1; have := HC.out.1; omega
    subst hcap
    subst hnr
    refine less_end (r := r) (N4 := N4) HA7 (by simpa using er) (by simpa using er2) (by omega) (by omega) (by omega) HER.out.2.1 HER.out.2.2.1 trivial (by omega) (by omega) (by omega) (by omega) (by have := HER.out.2.2.2.2.2.2.2.2.2.2.2; omega) ?_
    intro u21 w8 u116 u117 u118 u119 u120 u121 u122 u123 u124 u125 u126 u127 u128 u129 u130 u131 hv hb
    obtain ⟨A8, c8, rfl, y1, y2, y3, -⟩ := hv
    have HC8 := Lib.hid (And.intro y1 y2)
    have HA8 := Lib.hid y3
    have B8 := Lib.hid (B7.out.tr hb)
    clear hb y1 y2 y3
    go_wp2_with fail
    refine (best_any A8 N4 c8 (remC r L) C ms e0 S per _ HA8.out HS4.out HC8.out.1 HC8.out.2 (HCC.out.below B8.out) HMS.out).mono ?_
    rintro q9 w9 ⟨hb, ⟨hne, _⟩ | ⟨_, v, rfl, hv⟩⟩
    · exact absurd HQ4.out hne
    rw [← HB4.out] at hv
    have B9 := Lib.hid (B8.out.tr hb)
    obtain ⟨A9, c9, rfl, y1, y2, y3, y4⟩ := hv
    have HL9 := Lib.hid (show IsL w9 0 (.slice A9 b4.length c9) b4 from ⟨A9, c9, rfl, y1, y2, y3, fun a _ => Nat.zero_le _⟩)
    have HA8 := Lib.hid (HA8.out.below hb)
    clear hb y1 y2 y3 y4
    go_wp2_with fail
    refine (worthT_any A8 N4 c8 (remC r L) A9 b4.length c9 b4 _ (HA8.out) HS4.out HC8.out.1 HC8.out.2 HL9.out rfl HLN4.out).mono ?_
    rintro q10 w10 ⟨rfl, hb⟩
    rw [HW4.out]
    have B10 := Lib.hid (B9.out.tr hb)
    clear hb
    go_wp2_with fail
    refine (awakeN_any _).mono ?_
    rintro q11 w11 ⟨rfl, hb⟩
    go_wp2_with fail
    go_ret
    exact ⟨rfl, Bl.tr B10.out hb⟩
  · as_aux_lemma =>
    refine less_in (r := r) (N4 := N4) HA7 er er2 HER.out.2.2.2.2.2.1 (by omega) HER.out.2.2.2.1 HER.out.2.2.2.2.1 HC.out.1 hcap HER.out.2.2.2.2.2.2.1 HER.out.2.1 HER.out.2.2.1 trivial HER.out.2.2.2.2.2.2.2.1 HER.out.2.2.2.2.2.2.2.2.1 HER.out.2.2.2.2.2.2.2.2.2.1 HER.out.2.2.2.2.2.2.2.2.2.2.1 HER.out.2.2.2.2.2.2.2.2.2.2.2 ?_
    intro u21 w8 u116 u117 u118 u119 u120 u121 u122 u123 u124 u125 u126 u127 u128 u129 u130 u131 hv hb
    obtain ⟨A8, c8, rfl, y1, y2, y3, -⟩ := hv
    have HC8 := Lib.hid (And.intro y1 y2)
    have HA8 := Lib.hid y3
    have B8 := Lib.hid (B7.out.tr hb)
    clear hb y1 y2 y3
    go_wp2_with fail
    refine (best_any A8 N4 c8 (remC r L) C ms e0 S per _ HA8.out HS4.out HC8.out.1 HC8.out.2 (HCC.out.below B8.out) HMS.out).mono ?_
    rintro q9 w9 ⟨hb, ⟨hne, _⟩ | ⟨_, v, rfl, hv⟩⟩
    · exact absurd HQ4.out hne
    rw [← HB4.out] at hv
    have B9 := Lib.hid (B8.out.tr hb)
    obtain ⟨A9, c9, rfl, y1, y2, y3, y4⟩ := hv
    have HL9 := Lib.hid (show IsL w9 0 (.slice A9 b4.length c9) b4 from ⟨A9, c9, rfl, y1, y2, y3, fun a _ => Nat.zero_le _⟩)
    have HA8 := Lib.hid (HA8.out.below hb)
    clear hb y1 y2 y3 y4
    go_wp2_with fail
    refine (worthT_any A8 N4 c8 (remC r L) A9 b4.length c9 b4 _ (HA8.out) HS4.out HC8.out.1 HC8.out.2 HL9.out rfl HLN4.out).mono ?_
    rintro q10 w10 ⟨rfl, hb⟩
    rw [HW4.out]
    have B10 := Lib.hid (B9.out.tr hb)
    clear hb
    go_wp2_with fail
    refine (awakeN_any _).mono ?_
    rintro q11 w11 ⟨rfl, hb⟩
    go_wp2_with fail
    go_ret
    exact ⟨rfl, Bl.tr B10.out hb⟩
theorem more_walk (A : Option Addr) (n c : Nat) (L : Nat → Ch) (C : Option Addr) (ms e0 : Nat) (S : Nat → Sp2) (per k i : Int) (w : World) (hn : n ≤ c ∧ c ≤ maxLen) (hS : ∀ j, j < n → (L j).nm.size ≤ maxLen) (hA : Chl w A n L) (hms : ms ≤ e0 ∧ e0 ≤ maxLen) (hC : Spl w C ms S) (hkr : k ≤ 9223372036854775807) (hir : i ≤ 9223372036854775807) :
    Calls Try.prog 5 #[.slice A n c, .slice C ms e0, .int .i64 per, .int .i64 k, .int .i64 i] w fun e' w' => e' = .returned (.bool true) ∧ Bl w w' := by
  by_cases h : fitB L n ms = false ∨ k < 0 ∨ i < 0 ∨ n = 0
  · exact more_w0 A n c L C ms e0 S per k i w hn hS hA hms hC h
  · simp only [not_or] at h
    obtain ⟨h1, h2, h3, h4⟩ := h
    have h1 : fitB L n ms = true := by
      cases q : fitB L n ms with
      | true => rfl
      | false => exact absurd q h1
    by_cases hc : chkN L n S ms per = 0
    · exact more_w2 A n c L C ms e0 S per k i w hn hS hA hms hC h1 (by omega) (by omega) (by omega) hkr hir hc
    · exact more_w1 A n c L C ms e0 S per k i w hn hS hA hms hC h1 (by omega) (by omega) (by omega) hkr hir hc
end Go.Proofs.Ytbmenpfpeadckaa
