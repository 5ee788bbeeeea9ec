/-
  The walk of LedgerWorst.
-/
import Derived.Test.YtiaamhlcdnlahaaML1
import Derived.Test.YtiaamhlcdnlahaaMM0
import Derived.Test.YtiaamhlcdnlahaaMM1
import Derived.Test.YtiaamhlcdnlahaaMN
import Derived.Test.YtiaamhlcdnlahaaLI
namespace Go.Proofs.Ytiaamhlcdnlahaa
open Go.RowKit Go.Maps Go.Shelf
set_option linter.unusedSimpArgs false
set_option linter.unusedVariables false

set_option maxRecDepth 100000 in
set_option maxHeartbeats 6400000 in
theorem worstL_walk (A : Option Addr) (n c : Nat) (L : Nat → En) (q pn : Int) (w : World) (hA : El w A n L) (hn : n ≤ maxLen) :
    Calls Try.prog 6 #[.slice A n c, .int .i64 q, .int .i64 pn] w fun e w' => e = .returned (.bool true) ∧ Bl w w' := by
  have H1 := Lib.hid (fun (X : World) (hX : Bl w X) => worst_any A n c L X (hA.below hX) hn)
  have H2 := Lib.hid (fun (X : World) (hX : Bl w X) => rworst_any A n c L X (hA.below hX) hn)
  have H3 := Lib.hid (fun (X : World) (hX : Bl w X) => streak_any A n c L q X (hA.below hX) hn)
  have H4 := Lib.hid (fun (X : World) (hX : Bl w X) => rstreak_any A n c L q X (hA.below hX) hn)
  have H5 := Lib.hid (fun (X : World) (hX : Bl w X) => (letters_any A n c L q X (hA.below hX) hn).mono fun e w' h => IntPost.any h)
  have H6 := Lib.hid (fun (X : World) (hX : Bl w X) => (rletters_any A n c L q X (hA.below hX) hn).mono fun e w' h => IntPost.any h)
  have H7 := Lib.hid (fun (X : World) (hX : Bl w X) => fine_any A n c L q pn X (hA.below hX) hn)
  have H8 := Lib.hid (fun (X : World) (hX : Bl w X) => rfine_any A n c L q pn X (hA.below hX) hn)
  have HN := Lib.hid hn
  clear hA hn
  obtain ⟨C, hC⟩ : ∃ C, C = lC L n q := ⟨_, rfl⟩
  rw [← hC] at H5 H6
  clear hC
  obtain ⟨F, hF⟩ : ∃ F, F = numL C (pickF L n (mletterP q)) := ⟨_, rfl⟩
  rw [← hF] at H5 H6
  clear hF
  obtain ⟨a1, ha1⟩ : ∃ x, x = worE L n := ⟨_, rfl⟩
  rw [← ha1] at H1 H2
  obtain ⟨a2, ha2⟩ : ∃ x, x = strE L n q := ⟨_, rfl⟩
  rw [← ha2] at H3 H4
  obtain ⟨a3, ha3⟩ : ∃ x, x = finE L n q pn := ⟨_, rfl⟩
  rw [← ha3] at H7 H8
  clear ha1 ha2 ha3
  obtain ⟨p1, p2⟩ := a1
  obtain ⟨r1, r2, r3⟩ := a2
  obtain ⟨t1, t2⟩ := a3
  unfold encP at H1 H2 H7 H8
  unfold encT at H3 H4
  cases hs : decide ((n : Int) ≤ 30) with
  | false =>
    have HS := Lib.hid hs
    clear hs
    go_enter Try.func6, Try.ntmps6
    go_wp2_with fail
    refine (small_any A n c _ HN.out).mono ?_
    rintro e0 w0 ⟨rfl, rfl⟩
    rw [HS.out]
    go_wp2_with fail
    refine (awakeL_any _).mono ?_
    rintro ea wa ⟨rfl, ha⟩
    go_wp2_with fail
    go_ret
    exact ⟨rfl, ha⟩
  | true =>
    have HS := Lib.hid hs
    clear hs
    go_enter Try.func6, Try.ntmps6
    go_wp2_with fail
    refine (small_any A n c _ HN.out).mono ?_
    rintro e0 w0 ⟨rfl, rfl⟩
    rw [HS.out]
    go_wp2_with fail
    refine (H1.out _ (Bl.rf _)).mono ?_
    rintro e1 w1 ⟨rfl, hb⟩
    have B1 := Lib.hid (hb)
    clear hb
    go_wp2_with fail
    refine (H2.out _ B1.out).mono ?_
    rintro e2 w2 ⟨rfl, hb⟩
    have B2 := Lib.hid (B1.out.tr hb)
    clear hb
    go_wp2_with fail
    refine (H3.out _ B2.out).mono ?_
    rintro e3 w3 ⟨rfl, hb⟩
    have B3 := Lib.hid (B2.out.tr hb)
    clear hb
    go_wp2_with fail
    refine (H4.out _ B3.out).mono ?_
    rintro e4 w4 ⟨rfl, hb⟩
    have B4 := Lib.hid (B3.out.tr hb)
    clear hb
    go_wp2_with fail
    refine (H5.out _ B4.out).mono ?_
    rintro e5 w5 ⟨hb, A5, c5, rfl, hl5, hs5⟩
    have B5 := Lib.hid (B4.out.tr hb)
    have S5 := Lib.hid hs5
    have HL5 := Lib.hid hl5
    clear hb hl5 hs5
    go_wp2_with fail
    refine (H6.out _ B5.out).mono ?_
    rintro e6 w6 ⟨hb, A6, c6, rfl, hl6, hs6⟩
    have B6 := Lib.hid (B5.out.tr hb)
    have S5 := Lib.hid (S5.out.below hb)
    have S6 := Lib.hid hs6
    have HL6 := Lib.hid hl6
    clear hb hl6 hs6
    go_wp2_with fail
    refine (H7.out _ B6.out).mono ?_
    rintro e7 w7 ⟨rfl, hb⟩
    have B7 := Lib.hid (B6.out.tr hb)
    have S5 := Lib.hid (S5.out.below hb)
    have S6 := Lib.hid (S6.out.below hb)
    clear hb
    go_wp2_with fail
    refine (H8.out _ B7.out).mono ?_
    rintro e8 w8 ⟨rfl, hb⟩
    have B8 := Lib.hid (B7.out.tr hb)
    have S5 := Lib.hid (S5.out.below hb)
    have S6 := Lib.hid (S6.out.below hb)
    clear hb
    go_wp2_with fail
    refine (sameIntsN_any _ _ _ _ _ _ _ _ _ HL5.out HL6.out S5.out S6.out).mono ?_
    rintro e9 w9 ⟨rfl, N9, hw9⟩
    have B9 := Lib.hid (show Bl _ w9 from B8.out.tr (by rw [hw9]; exact bl_dn _ _))
    clear hw9
    rw [sIB_sameN]
    go_wp2_with fail
    refine (awakeL_any _).mono ?_
    rintro ea wa ⟨rfl, ha⟩
    go_wp2_with fail
    go_ret
    exact ⟨rfl, B9.out.tr ha⟩
end Go.Proofs.Ytiaamhlcdnlahaa
