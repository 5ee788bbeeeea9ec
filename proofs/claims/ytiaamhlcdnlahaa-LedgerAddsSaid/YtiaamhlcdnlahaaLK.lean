/-
  The walks of LedgerSays and LedgerRated.
-/
import Derived.Test.YtiaamhlcdnlahaaLI
import Derived.Test.YtiaamhlcdnlahaaLJ
namespace Go.Proofs.Ytiaamhlcdnlahaa
open Go.RowKit Go.Maps
set_option linter.unusedSimpArgs false
set_option linter.unusedVariables false

theorem said_bd (L : Nat → En) (n : Nat) (f : Bool) (d : Int) : -86400000 ≤ (saidP L n f d).1 ∧ (saidP L n f d).1 ≤ 86400000 := by
  unfold saidP errL
  cases hv : vlB L n with
  | false => simp
  | true =>
    cases hd : dayB d with
    | false => simp
    | true =>
      cases hl : lst L d f n with
      | none => simp
      | some x => simpa using lst_bd (vl_iff.1 hv).2 hl
theorem off_said {L : Nat → En} {n : Nat} {d : Int} (h : (offP L n d).2 = 0) : (offP L n d).1 = (saidP L n true d).1 - (saidP L n false d).1 := by
  unfold offP errL at h ⊢
  unfold saidP errL
  cases hv : vlB L n with
  | false => simp [hv] at h
  | true =>
    cases hd : dayB d with
    | false => simp [hv, hd] at h
    | true =>
      cases h0 : lst L d false n with
      | none => simp [hv, hd, off_none1 h0] at h
      | some a =>
        cases h1 : lst L d true n with
        | none => simp [hv, hd, off_none2 h1] at h
        | some b => simp [off_some h0 h1]
set_option maxRecDepth 100000 in
set_option maxHeartbeats 6400000 in
theorem says_walk (A : Option Addr) (n c : Nat) (L : Nat → En) (d : Int) (w : World) (hA : El w A n L) (hn : n ≤ maxLen) (hd : rng d) :
    Calls Try.prog 3 #[.slice A n c, .int .i64 d] w fun e w' => e = .returned (.bool true) ∧ Bl w w' := by
  have HS := Lib.hid (fun (X : World) (hb : Bl w X) => said_any A n c L d X (hA.below hb) hn hd)
  have HRS := Lib.hid (fun (X : World) (hb : Bl w X) => rsaid_any A n c L d X (hA.below hb) hn)
  have HF := Lib.hid (fun (X : World) (hb : Bl w X) => found_any A n c L d X (hA.below hb) hn hd)
  have HRF := Lib.hid (fun (X : World) (hb : Bl w X) => rfound_any A n c L d X (hA.below hb) hn)
  have HO := Lib.hid (fun (X : World) (hb : Bl w X) => offOf_any A n c L d X (hA.below hb) hn hd)
  have HRO := Lib.hid (fun (X : World) (hb : Bl w X) => roffOf_any A n c L d X (hA.below hb) hn)
  have HV := Lib.hid (fun (X : World) (hb : Bl w X) => validE_any A n c L X (hA.below hb) hn)
  have HRV := Lib.hid (fun (X : World) (hb : Bl w X) => rvalidE_any A n c L X (hA.below hb) hn)
  have HN := Lib.hid hn
  clear hA hn hd
  have bs := said_bd L n false d
  have bf := said_bd L n true d
  have HOS := Lib.hid (fun (h : (offP L n d).2 = 0) => off_said h)
  obtain ⟨s, hs⟩ : ∃ s, s = saidP L n false d := ⟨_, rfl⟩
  obtain ⟨f, hf⟩ : ∃ s, s = saidP L n true d := ⟨_, rfl⟩
  obtain ⟨z, hz⟩ : ∃ s, s = offP L n d := ⟨_, rfl⟩
  rw [← hs] at bs HOS HS HRS
  rw [← hf] at bf HOS HF HRF
  rw [← hz] at HOS HO HRO
  clear hs hf hz
  obtain ⟨s1, s2⟩ := s
  obtain ⟨f1, f2⟩ := f
  obtain ⟨z1, z2⟩ := z
  dsimp only at bs bf HOS
  go_enter Try.func3, Try.ntmps3
  go_wp2_with fail
  refine (fit_any A n c _ HN.out).mono ?_
  rintro e0 w0 ⟨⟨x, rfl⟩, rfl⟩
  cases x with
  | false =>
    go_wp2_with fail
    refine (awakeL_any _).mono ?_
    rintro ea wa ⟨rfl, ha⟩
    go_wp2_with fail
    go_ret
    exact ⟨rfl, ha⟩
  | true =>
    go_wp2_with fail
    refine (HS.out _ (Bl.rf _)).mono ?_
    rintro e1 w1 ⟨rfl, hb⟩
    have B1 := Lib.hid (Bl.tr (Bl.rf _) hb)
    clear hb
    go_wp2_with fail
    refine (HRS.out _ (B1.out)).mono ?_
    rintro e2 w2 ⟨rfl, hb⟩
    have B2 := Lib.hid (Bl.tr (B1.out) hb)
    clear hb
    go_wp2_with fail
    refine (HF.out _ (B2.out)).mono ?_
    rintro e3 w3 ⟨rfl, hb⟩
    have B3 := Lib.hid (Bl.tr (B2.out) hb)
    clear hb
    go_wp2_with fail
    refine (HRF.out _ (B3.out)).mono ?_
    rintro e4 w4 ⟨rfl, hb⟩
    have B4 := Lib.hid (Bl.tr (B3.out) hb)
    clear hb
    go_wp2_with fail
    refine (HO.out _ (B4.out)).mono ?_
    rintro e5 w5 ⟨rfl, hb⟩
    have B5 := Lib.hid (Bl.tr (B4.out) hb)
    clear hb
    go_wp2_with fail
    refine (HRO.out _ (B5.out)).mono ?_
    rintro e6 w6 ⟨rfl, hb⟩
    have B6 := Lib.hid (Bl.tr (B5.out) hb)
    clear hb
    go_wp2_with fail
    refine (HV.out _ (B6.out)).mono ?_
    rintro e7 w7 ⟨rfl, hb⟩
    have B7 := Lib.hid (B6.out.tr hb)
    clear hb
    go_wp2_with fail
    refine (HRV.out _ (B7.out)).mono ?_
    rintro e8 w8 ⟨rfl, hb⟩
    have B8 := Lib.hid (B7.out.tr hb)
    clear hb
    by_cases hz : z2 = 0
    · subst hz
      have hq := HOS.out rfl
      have k1 : IntKind.i64.wrap (f1 - s1) = z1 := by rw [IntWalk.i64_in _ (by omega)]; exact hq.symm
      have k2 : wrap64 (f1 - s1) = z1 := by rw [IntWalk.wrap64_in _ (by omega)]; exact hq.symm
      clear hq bs bf HOS
      go_wp2_with fail
      refine (awakeL_any _).mono ?_
      rintro ea wa ⟨rfl, ha⟩
      go_wp2_with fail
      go_ret
      exact ⟨rfl, (B8.out).tr ha⟩
    · have hz1 : (z2 != 0) = true := by simpa using hz
      have hz2 : (z2 == 0) = false := by simpa using hz
      clear HOS bs bf
      go_wp2_with fail
      refine (awakeL_any _).mono ?_
      rintro ea wa ⟨rfl, ha⟩
      go_wp2_with fail
      go_ret
      exact ⟨rfl, (B8.out).tr ha⟩
theorem rat_two {L : Nat → En} {n : Nat} {a b c x y : Int} (h1 : ratP L n a b = (x, 0)) (h2 : ratP L n b c = (y, 0)) : ratP L n a c = (x + y, 0) ∧ -1000000000 ≤ x ∧ x ≤ 1000000000 ∧ -1000000000 ≤ y ∧ y ≤ 1000000000 := by
  have key : ∀ {a b x : Int}, ratP L n a b = (x, 0) → vlB L n = true ∧ (dayB a = true ∧ dayB b = true ∧ a < b) ∧ ∃ u v, offO L n a = some u ∧ offO L n b = some v ∧ x = v - u := by
    intro a b x h
    unfold ratP at h
    split at h
    · rename_i hv
      split at h
      · rename_i hr
        cases oa : offO L n a with
        | none => rw [oa] at h; simp at h
        | some u =>
          cases ob : offO L n b with
          | none => rw [oa, ob] at h; simp at h
          | some v =>
            rw [oa, ob] at h
            simp only [Prod.mk.injEq, and_true] at h
            exact ⟨hv, hr, u, v, rfl, rfl, h.symm⟩
      · simp at h
    · simp at h
  obtain ⟨hv, hr, u, v, e1, e2, rfl⟩ := key h1
  obtain ⟨_, hr', v', t, e3, e4, rfl⟩ := key h2
  obtain rfl : v = v' := by rw [e2] at e3; exact Option.some.inj e3
  have hE := (vl_iff.1 hv).2
  have b1 := off_bd hE e1
  have b2 := off_bd hE e2
  have b3 := off_bd hE e4
  refine ⟨?_, by omega, by omega, by omega, by omega⟩
  rw [rat_ok hv ⟨hr.1, hr'.2.1, Int.lt_trans hr.2.2 hr'.2.2⟩ e1 e4]
  congr 1
  omega
set_option maxRecDepth 100000 in
set_option maxHeartbeats 6400000 in
theorem rated_walk (A : Option Addr) (n k : Nat) (L : Nat → En) (a b c : Int) (w : World) (hA : El w A n L) (hn : n ≤ maxLen) (ha : rng a) (hb : rng b) (hc : rng c) :
    Calls Try.prog 8 #[.slice A n k, .int .i64 a, .int .i64 b, .int .i64 c] w fun e w' => e = .returned (.bool true) ∧ Bl w w' := by
  have H1 := Lib.hid (fun (X : World) (hX : Bl w X) => rated_any A n k L a b X (hA.below hX) hn ha hb)
  have H2 := Lib.hid (fun (X : World) (hX : Bl w X) => rrated_any A n k L a b X (hA.below hX) hn ha hb)
  have H3 := Lib.hid (fun (X : World) (hX : Bl w X) => rated_any A n k L b c X (hA.below hX) hn hb hc)
  have H4 := Lib.hid (fun (X : World) (hX : Bl w X) => rated_any A n k L a c X (hA.below hX) hn ha hc)
  have HN := Lib.hid hn
  have HR := Lib.hid (fun x y (h1 : ratP L n a b = (x, 0)) (h2 : ratP L n b c = (y, 0)) => rat_two h1 h2)
  clear hA hn ha hb hc
  obtain ⟨s, hs⟩ : ∃ s, s = ratP L n a b := ⟨_, rfl⟩
  obtain ⟨f, hf⟩ : ∃ s, s = ratP L n b c := ⟨_, rfl⟩
  obtain ⟨z, hz⟩ : ∃ s, s = ratP L n a c := ⟨_, rfl⟩
  rw [← hs] at H1 H2 HR
  rw [← hf] at H3 HR
  rw [← hz] at H4 HR
  clear hs hf hz
  obtain ⟨s1, s2⟩ := s
  obtain ⟨f1, f2⟩ := f
  obtain ⟨z1, z2⟩ := z
  cases hsm : decide ((n : Int) ≤ 30) with
  | false =>
    have HS := Lib.hid hsm
    clear hsm
    go_enter Try.func8, Try.ntmps8
    go_wp2_with fail
    refine (small_any A n k _ HN.out).mono ?_
    rintro e0 w0 ⟨rfl, rfl⟩
    rw [HS.out]
    go_wp2_with fail
    refine (awakeL_any _).mono ?_
    rintro ea wa ⟨rfl, ha⟩
    go_wp2_with fail
    go_ret
    exact ⟨rfl, ha⟩
  | true =>
    have HS := Lib.hid hsm
    clear hsm
    go_enter Try.func8, Try.ntmps8
    go_wp2_with fail
    refine (small_any A n k _ HN.out).mono ?_
    rintro e0 w0 ⟨rfl, rfl⟩
    rw [HS.out]
    go_wp2_with fail
    refine (H1.out _ (Bl.rf _)).mono ?_
    rintro e1 w1 ⟨rfl, B1⟩
    go_wp2_with fail
    refine (H2.out _ B1).mono ?_
    rintro e2 w2 ⟨rfl, hb⟩
    have B2 := B1.tr hb
    clear hb
    go_wp2_with fail
    refine (H3.out _ B2).mono ?_
    rintro e3 w3 ⟨rfl, hb⟩
    have B3 := Lib.hid (B2.tr hb)
    clear hb B1 B2
    by_cases hs : s2 = 0
    · by_cases hf : f2 = 0
      · subst hs hf
        obtain ⟨q1, q2, q3, q4, q5⟩ := HR.out _ _ rfl rfl
        obtain ⟨rfl, rfl⟩ : z1 = s1 + f1 ∧ z2 = 0 := by simpa using q1
        have k1 : IntKind.i64.wrap (s1 + f1) = s1 + f1 := IntWalk.i64_in _ (by omega)
        have k2 : wrap64 (s1 + f1) = s1 + f1 := IntWalk.wrap64_in _ (by omega)
        clear q1 q2 q3 q4 q5 HR
        go_wp2_with fail
        refine (H4.out _ B3.out).mono ?_
        rintro e4 w4 ⟨rfl, hb⟩
        have B4 := Lib.hid (B3.out.tr hb)
        clear hb
        go_wp2_with fail
        refine (awakeL_any _).mono ?_
        rintro ea wa ⟨rfl, ha⟩
        go_wp2_with fail
        go_ret
        exact ⟨rfl, (B4.out).tr ha⟩
      · subst hs
        have hz1 : (f2 != 0) = true := by simpa using hf
        clear HR hf
        go_wp2_with fail
        refine (awakeL_any _).mono ?_
        rintro ea wa ⟨rfl, ha⟩
        go_wp2_with fail
        go_ret
        exact ⟨rfl, (B3.out).tr ha⟩
    · have hz1 : (s2 != 0) = true := by simpa using hs
      clear HR hs
      go_wp2_with fail
      refine (awakeL_any _).mono ?_
      rintro ea wa ⟨rfl, ha⟩
      go_wp2_with fail
      go_ret
      exact ⟨rfl, (B3.out).tr ha⟩
end Go.Proofs.Ytiaamhlcdnlahaa
