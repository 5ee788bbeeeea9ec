/-
  The walk of LedgerLast.
-/
import Derived.Test.YtiaamhlcdnlahaaLX
import Derived.Test.YtiaamhlcdnlahaaLK
namespace Go.Proofs.Ytiaamhlcdnlahaa
open Go.RowKit Go.Maps
set_option linter.unusedSimpArgs false
set_option linter.unusedVariables false

theorem LastPost.bad {L : Nat → En} {n : Nat} {w : World} {e : Ending} {w' : World} (h : LastPost L n w e w') (hv : vlB L n = false) : Bl w w' ∧ e = .returned (.tuple #[.slice none 0 0, .int .i64 1]) := by
  obtain ⟨hb, ⟨_, h1⟩ | ⟨h0, _⟩⟩ := h
  · exact ⟨hb, h1⟩
  · rw [hv] at h0; cases h0
theorem LastPost.good {L : Nat → En} {n : Nat} {w : World} {e : Ending} {w' : World} (h : LastPost L n w e w') (hv : vlB L n = true) : Bl w w' ∧ ∃ A c, e = .returned (.tuple #[.slice A (lastE L n).length c, .int .i64 0]) ∧ IsEn w' 0 (.slice A (lastE L n).length c) (lastE L n).length (lE (lastE L n)) ∧ El w' A (lastE L n).length (lE (lastE L n)) := by
  obtain ⟨hb, ⟨h0, _⟩ | ⟨_, v, h1, hown⟩⟩ := h
  · rw [hv] at h0; cases h0
  · obtain ⟨A, c, rfl, p1, p2, p3, p4⟩ := isEn_of_own hown
    exact ⟨hb, A, c, h1, ⟨A, c, rfl, p1, p2, p3, fun _ _ => Nat.zero_le _⟩, p3⟩
theorem CorPost.none {L : Nat → En} {n : Nat} {w : World} {e : Ending} {w' : World} (h : CorPost L n w e w') (hv : vlB L n = true) (hc : corF L n = []) : Bl w w' ∧ ∃ A c, e = .returned (.tuple #[.slice A 0 c, .int .i64 0]) := by
  obtain ⟨hb, ⟨h0, _⟩ | ⟨_, v, h1, A, c, rfl, _⟩⟩ := h
  · rw [hv] at h0; cases h0
  · rw [hc] at h1; exact ⟨hb, A, c, h1⟩
set_option maxRecDepth 100000 in
set_option maxHeartbeats 6400000 in
theorem last_walk (A : Option Addr) (n c : Nat) (L : Nat → En) (d : Int) (w : World) (hA : El w A n L) (hn : n ≤ maxLen) (hd : rng d) :
    Calls Try.prog 10 #[.slice A n c, .int .i64 d] w fun e w' => e = .returned (.bool true) ∧ Bl w w' := by
  have H1 := Lib.hid (fun (X : World) (hX : Bl w X) => lastP_any A n c L X (hA.below hX) hn)
  have H2 := Lib.hid (fun (X : World) (hX : Bl w X) => rlast_any A n c L X (hA.below hX) hn)
  have HS := Lib.hid (fun (X : World) (hb : Bl w X) => said_any A n c L d X (hA.below hb) hn hd)
  have HF := Lib.hid (fun (X : World) (hb : Bl w X) => found_any A n c L d X (hA.below hb) hn hd)
  have HN := Lib.hid hn
  have HD := Lib.hid hd
  clear hA hn hd
  cases hsm : decide ((n : Int) ≤ 30) with
  | false =>
    have HSM := Lib.hid hsm
    clear hsm
    go_enter Try.func10, Try.ntmps10
    go_wp2_with fail
    refine (small_any A n c _ HN.out).mono ?_
    rintro e0 w0 ⟨rfl, rfl⟩
    rw [HSM.out]
    go_wp2_with fail
    refine (awakeL_any _).mono ?_
    rintro ea wa ⟨rfl, ha⟩
    go_wp2_with fail
    go_ret
    exact ⟨rfl, ha⟩
  | true =>
    have HSM := Lib.hid hsm
    have h30 : n ≤ 30 := by have := of_decide_eq_true hsm; omega
    clear hsm
    cases hv : vlB L n with
    | false =>
      have HV := Lib.hid hv
      clear hv
      go_enter Try.func10, Try.ntmps10
      go_wp2_with fail
      refine (small_any A n c _ HN.out).mono ?_
      rintro e0 w0 ⟨rfl, rfl⟩
      rw [HSM.out]
      go_wp2_with fail
      refine (H1.out _ (Bl.rf _)).mono ?_
      intro e1 w1 hp
      obtain ⟨hb, rfl⟩ := hp.bad HV.out
      have B1 := Lib.hid hb
      clear hb hp
      go_wp2_with fail
      refine (H2.out _ B1.out).mono ?_
      intro e2 w2 hp
      obtain ⟨hb, rfl⟩ := hp.bad HV.out
      have B2 := Lib.hid (B1.out.tr hb)
      clear hb hp
      go_wp2_with fail
      refine (sameEn_any _ _ 0 0 0 L _ (isEn_nil _ _ _) (isEn_nil _ _ _)).mono ?_
      rintro e3 w3 ⟨rfl, hb⟩
      have B3 := Lib.hid (B2.out.tr hb)
      clear hb
      go_wp2_with fail
      refine (awakeL_any _).mono ?_
      rintro ea wa ⟨rfl, ha⟩
      go_wp2_with fail
      go_ret
      exact ⟨rfl, (B3.out).tr ha⟩
    | true =>
      have HV := Lib.hid hv
      have HLV := Lib.hid (last_valid hv (by omega))
      have HLC := Lib.hid (last_cor L n)
      have HLS := Lib.hid (fun f => last_said hv (by omega) f d)
      have hll := last_len L n
      clear hv
      obtain ⟨E, hE⟩ : ∃ E, E = lastE L n := ⟨_, rfl⟩
      have HE := Lib.hid hE
      rw [← hE] at HLV HLC HLS hll
      clear hE
      obtain ⟨m, hm⟩ : ∃ m, m = E.length := ⟨_, rfl⟩
      have HM := Lib.hid hm
      rw [← hm] at HLV HLC HLS hll
      clear hm
      obtain ⟨s, hs⟩ : ∃ s, s = saidP L n false d := ⟨_, rfl⟩
      obtain ⟨f, hf⟩ : ∃ s, s = saidP L n true d := ⟨_, rfl⟩
      have HLS0 := Lib.hid (HLS.out false)
      have HLS1 := Lib.hid (HLS.out true)
      rw [← hs] at HS HLS0
      rw [← hf] at HF HLS1
      clear hs hf HLS
      obtain ⟨s1, s2⟩ := s
      obtain ⟨f1, f2⟩ := f
      go_enter Try.func10, Try.ntmps10
      go_wp2_with fail
      refine (small_any A n c _ HN.out).mono ?_
      rintro e0 w0 ⟨rfl, rfl⟩
      rw [HSM.out]
      go_wp2_with fail
      refine (H1.out _ (Bl.rf _)).mono ?_
      intro e1 w1 hp
      obtain ⟨hb, A1, c1, rfl, p1, p2⟩ := hp.good HV.out
      rw [← HE.out, ← HM.out] at p1 p2
      rw [← HE.out, ← HM.out]
      have B1 := Lib.hid hb
      have HI1 := Lib.hid p1
      have HE1 := Lib.hid p2
      clear hb hp p1 p2
      go_wp2_with fail
      refine (H2.out _ B1.out).mono ?_
      intro e2 w2 hp
      obtain ⟨hb, A2, c2, rfl, p1, p2⟩ := hp.good HV.out
      rw [← HE.out, ← HM.out] at p1 p2
      rw [← HE.out, ← HM.out]
      have B2 := Lib.hid (B1.out.tr hb)
      have HI2 := Lib.hid p1
      have HI1 := Lib.hid (HI1.out.below hb)
      have HE1 := Lib.hid (HE1.out.below hb)
      clear hb hp p1 p2
      go_wp2_with fail
      refine (sameEn_any _ _ m 0 0 (lE E) _ HI1.out HI2.out).mono ?_
      rintro e3 w3 ⟨rfl, hb⟩
      have B3 := Lib.hid (B2.out.tr hb)
      have HE1 := Lib.hid (HE1.out.below hb)
      clear hb
      go_wp2_with fail
      refine (corrections_any A1 m c1 (lE E) _ HE1.out (by unfold maxLen; omega)).mono ?_
      intro e4 w4 hp
      obtain ⟨hb, A4, c4, rfl⟩ := hp.none HLV.out HLC.out
      have B4 := Lib.hid (B3.out.tr hb)
      have HE1 := Lib.hid (HE1.out.below hb)
      clear hb hp
      go_wp2_with fail
      refine (HS.out _ B4.out).mono ?_
      rintro e5 w5 ⟨rfl, hb⟩
      have B5 := Lib.hid (B4.out.tr hb)
      have HE1 := Lib.hid (HE1.out.below hb)
      clear hb
      go_wp2_with fail
      refine (said_any A1 m c1 (lE E) d _ HE1.out (by unfold maxLen; omega) HD.out).mono ?_
      rintro e6 w6 ⟨rfl, hb⟩
      rw [HLS0.out]
      have B6 := Lib.hid (B5.out.tr hb)
      have HE1 := Lib.hid (HE1.out.below hb)
      clear hb
      go_wp2_with fail
      refine (HF.out _ B6.out).mono ?_
      rintro e7 w7 ⟨rfl, hb⟩
      have B7 := Lib.hid (B6.out.tr hb)
      have HE1 := Lib.hid (HE1.out.below hb)
      clear hb
      go_wp2_with fail
      refine (found_any A1 m c1 (lE E) d _ HE1.out (by unfold maxLen; omega) HD.out).mono ?_
      rintro e8 w8 ⟨rfl, hb⟩
      rw [HLS1.out]
      have B8 := Lib.hid (B7.out.tr hb)
      clear hb
      go_wp2_with fail
      refine (awakeL_any _).mono ?_
      rintro ea wa ⟨rfl, ha⟩
      go_wp2_with fail
      go_ret
      exact ⟨rfl, (B8.out).tr ha⟩
end Go.Proofs.Ytiaamhlcdnlahaa
