/-
  Package ledger: Fine of both.
-/
import Derived.Test.YtiaamhlcdnlahaaMK
namespace Go.Proofs.Ytiaamhlcdnlahaa
open Go.RowKit Go.Maps Go.Shelf
set_option linter.unusedSimpArgs false
set_option linter.unusedVariables false

/-- What the letters cost, and the error. -/
def finE (L : Nat → En) (n : Nat) (q pn : Int) : Int × Int := if lC L n q = 0 then (if 0 ≤ pn ∧ pn ≤ 1000000 then (((pickF L n (mletterP q)).length : Int) * pn, 0) else (0, 7)) else (0, lC L n q)
set_option maxRecDepth 100000 in
set_option maxHeartbeats 3200000 in
theorem fine_any (A : Option Addr) (n c : Nat) (L : Nat → En) (q pn : Int) (w : World) (hA : El w A n L) (hn : n ≤ maxLen) :
    Calls Try.prog 40 #[.slice A n c, .int .i64 q, .int .i64 pn] w fun e w' => e = .returned (encP (finE L n q pn)) ∧ Bl w w' := by
  have HL := Lib.hid (fun (X : World) (hX : Bl w X) => (letters_any A n c L q X (hA.below hX) hn).mono fun e w' h => IntPost.any h)
  clear hA hn
  by_cases hc : lC L n q = 0
  · have hnl : (numL (lC L n q) (pickF L n (mletterP q))) = pickF L n (mletterP q) := by rw [numL, if_pos hc]
    have hlen : vlB L n = true → (pickF L n (mletterP q)).length ≤ 1000 := fun hv => Nat.le_trans (pick_len L n _) (vl_iff.1 hv).1
    have hvl : vlB L n = true := by
      cases hv : vlB L n with
      | true => rfl
      | false => rw [lC_1 hv] at hc; cases hc
    have hlen := hlen hvl
    rw [hnl, hc] at HL
    have HF := Lib.hid (show finE L n q pn = (if 0 ≤ pn ∧ pn ≤ 1000000 then (((pickF L n (mletterP q)).length : Int) * pn, 0) else (0, 7)) by rw [finE, if_pos hc])
    obtain ⟨m, hm⟩ : ∃ m, m = (pickF L n (mletterP q)).length := ⟨_, rfl⟩
    rw [← hm] at HL HF hlen
    clear hnl hvl hc hm
    by_cases hp : 0 ≤ pn ∧ pn ≤ 1000000
    · rw [if_pos hp] at HF
      obtain ⟨hp1, hp2⟩ := hp
      have hz1 : 0 ≤ (m : Int) * pn := Int.mul_nonneg (by omega) hp1
      have hz2 : (m : Int) * pn ≤ 1000 * 1000000 := Int.mul_le_mul (by omega) hp2 hp1 (by omega)
      have e1 : wrap64 ((m : Int) * pn) = (m : Int) * pn := by rw [show (m : Int) * pn = (m : Int) * pn from rfl]; exact IntWalk.wrap64_in _ (by omega)
      have e2 : IntKind.i64.wrap ((m : Int) * pn) = (m : Int) * pn := by rw [show (m : Int) * pn = (m : Int) * pn from rfl]; exact IntWalk.i64_in _ (by omega)
      have n1 : ¬ (pn < 0) := by omega
      have n2 : ¬ (1000000 < pn) := by omega
      clear hz1 hz2 hp1 hp2
      go_enter Try.func40, Try.ntmps40
      go_wp2_with fail
      refine (HL.out _ (by go_grown)).mono ?_
      rintro e1 w1 ⟨hb, A1, c1, rfl, -, -⟩
      go_wp2_with fail
      go_ret2
      exact ⟨by rw [HF.out]; rfl, hb⟩
    · rw [if_neg hp] at HF
      by_cases n1 : pn < 0
      · go_enter Try.func40, Try.ntmps40
        go_wp2_with fail
        refine (HL.out _ (by go_grown)).mono ?_
        rintro e1 w1 ⟨hb, A1, c1, rfl, -, -⟩
        go_wp2_with fail
        go_ret2
        exact ⟨by rw [HF.out]; rfl, hb⟩
      · have n2 : 1000000 < pn := by omega
        go_enter Try.func40, Try.ntmps40
        go_wp2_with fail
        refine (HL.out _ (by go_grown)).mono ?_
        rintro e1 w1 ⟨hb, A1, c1, rfl, -, -⟩
        go_wp2_with fail
        go_ret2
        exact ⟨by rw [HF.out]; rfl, hb⟩
  · have HC := Lib.hid (show finE L n q pn = (0, lC L n q) by rw [finE, if_neg hc])
    have HC1n := Lib.hid (show (lC L n q != 0) = true by simpa using hc)
    clear hc
    obtain ⟨C, hCC⟩ : ∃ C, C = lC L n q := ⟨_, rfl⟩
    rw [← hCC] at HC HC1n HL
    clear hCC
    have hC1n := HC1n.out
    go_enter Try.func40, Try.ntmps40
    go_wp2_with fail
    refine (HL.out _ (by go_grown)).mono ?_
    rintro e1 w1 ⟨hb, A1, c1, rfl, -, -⟩
    go_wp2_with fail
    go_ret2
    exact ⟨by rw [HC.out]; rfl, hb⟩
set_option maxRecDepth 100000 in
set_option maxHeartbeats 3200000 in
theorem rfine_any (A : Option Addr) (n c : Nat) (L : Nat → En) (q pn : Int) (w : World) (hA : El w A n L) (hn : n ≤ maxLen) :
    Calls Try.prog 41 #[.slice A n c, .int .i64 q, .int .i64 pn] w fun e w' => e = .returned (encP (finE L n q pn)) ∧ Bl w w' := by
  have HL := Lib.hid (fun (X : World) (hX : Bl w X) => (rletters_any A n c L q X (hA.below hX) hn).mono fun e w' h => IntPost.any h)
  clear hA hn
  by_cases hc : lC L n q = 0
  · have hnl : (numL (lC L n q) (pickF L n (mletterP q))) = pickF L n (mletterP q) := by rw [numL, if_pos hc]
    have hlen : vlB L n = true → (pickF L n (mletterP q)).length ≤ 1000 := fun hv => Nat.le_trans (pick_len L n _) (vl_iff.1 hv).1
    have hvl : vlB L n = true := by
      cases hv : vlB L n with
      | true => rfl
      | false => rw [lC_1 hv] at hc; cases hc
    have hlen := hlen hvl
    rw [hnl, hc] at HL
    have HF := Lib.hid (show finE L n q pn = (if 0 ≤ pn ∧ pn ≤ 1000000 then (((pickF L n (mletterP q)).length : Int) * pn, 0) else (0, 7)) by rw [finE, if_pos hc])
    obtain ⟨m, hm⟩ : ∃ m, m = (pickF L n (mletterP q)).length := ⟨_, rfl⟩
    rw [← hm] at HL HF hlen
    clear hnl hvl hc hm
    by_cases hp : 0 ≤ pn ∧ pn ≤ 1000000
    · rw [if_pos hp] at HF
      obtain ⟨hp1, hp2⟩ := hp
      have hz1 : 0 ≤ (m : Int) * pn := Int.mul_nonneg (by omega) hp1
      have hz2 : (m : Int) * pn ≤ 1000 * 1000000 := Int.mul_le_mul (by omega) hp2 hp1 (by omega)
      have e1 : wrap64 (pn * (m : Int)) = (m : Int) * pn := by rw [show pn * (m : Int) = (m : Int) * pn from Int.mul_comm _ _]; exact IntWalk.wrap64_in _ (by omega)
      have e2 : IntKind.i64.wrap (pn * (m : Int)) = (m : Int) * pn := by rw [show pn * (m : Int) = (m : Int) * pn from Int.mul_comm _ _]; exact IntWalk.i64_in _ (by omega)
      have n1 : ¬ (pn < 0) := by omega
      have n2 : ¬ (1000000 < pn) := by omega
      clear hz1 hz2 hp1 hp2
      go_enter Try.func41, Try.ntmps41
      go_wp2_with fail
      refine (HL.out _ (by go_grown)).mono ?_
      rintro e1 w1 ⟨hb, A1, c1, rfl, -, -⟩
      go_wp2_with fail
      go_ret2
      exact ⟨by rw [HF.out]; rfl, hb⟩
    · rw [if_neg hp] at HF
      by_cases n1 : pn < 0
      · go_enter Try.func41, Try.ntmps41
        go_wp2_with fail
        refine (HL.out _ (by go_grown)).mono ?_
        rintro e1 w1 ⟨hb, A1, c1, rfl, -, -⟩
        go_wp2_with fail
        go_ret2
        exact ⟨by rw [HF.out]; rfl, hb⟩
      · have n2 : 1000000 < pn := by omega
        go_enter Try.func41, Try.ntmps41
        go_wp2_with fail
        refine (HL.out _ (by go_grown)).mono ?_
        rintro e1 w1 ⟨hb, A1, c1, rfl, -, -⟩
        go_wp2_with fail
        go_ret2
        exact ⟨by rw [HF.out]; rfl, hb⟩
  · have HC := Lib.hid (show finE L n q pn = (0, lC L n q) by rw [finE, if_neg hc])
    have HC1n := Lib.hid (show (lC L n q != 0) = true by simpa using hc)
    clear hc
    obtain ⟨C, hCC⟩ : ∃ C, C = lC L n q := ⟨_, rfl⟩
    rw [← hCC] at HC HC1n HL
    clear hCC
    have hC1n := HC1n.out
    go_enter Try.func41, Try.ntmps41
    go_wp2_with fail
    refine (HL.out _ (by go_grown)).mono ?_
    rintro e1 w1 ⟨hb, A1, c1, rfl, -, -⟩
    go_wp2_with fail
    go_ret2
    exact ⟨by rw [HC.out]; rfl, hb⟩
end Go.Proofs.Ytiaamhlcdnlahaa
