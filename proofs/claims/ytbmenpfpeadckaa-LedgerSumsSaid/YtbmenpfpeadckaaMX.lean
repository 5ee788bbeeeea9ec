/-
  The walk of LedgerSums.
-/
import Derived.Test.YtbmenpfpeadckaaMW
import Derived.Test.YtbmenpfpeadckaaMS
import Derived.Test.YtbmenpfpeadckaaLI
namespace Go.Proofs.Ytbmenpfpeadckaa
open Go.RowKit Go.Maps Go.Shelf
set_option linter.unusedSimpArgs false
set_option linter.unusedVariables false

theorem sumL_from (l : List Int) : ∀ a, l.foldl (· + ·) a = a + sumL l := by
  induction l with
  | nil => intro a; simp [sumL]
  | cons x l ih => intro a; unfold sumL; rw [List.foldl_cons, List.foldl_cons, ih (a + x), ih (0 + x)]; omega
theorem sumL_cons (x : Int) (l : List Int) : sumL (x :: l) = x + sumL l := by
  have := sumL_from l x
  unfold sumL at this ⊢
  rw [List.foldl_cons, Int.zero_add]; exact this
/-- Sums over two stretches that follow each other add up. -/
theorem st_split (V : Int → Bool → Option Int) {fa fb fe : Int} (h1 : fa ≤ fb) (h2 : fb < fe) (l : List Int) : sumL (stL V fa fb l) + sumL (stL V (fb + 1) fe l) = sumL (stL V fa fe l) := by
  induction l with
  | nil => rfl
  | cons d l ih =>
    unfold stL at ih ⊢
    rw [List.filter_cons, List.filter_cons, List.filter_cons]
    by_cases q1 : fa ≤ d
    · by_cases q2 : d ≤ fb
      · have a1 : btw fa fb d = true := by unfold btw; rw [decide_eq_true q1, decide_eq_true q2]; rfl
        have a2 : btw (fb + 1) fe d = false := by unfold btw; rw [decide_eq_false (by omega)]; rfl
        have a3 : btw fa fe d = true := by unfold btw; rw [decide_eq_true q1, decide_eq_true (by omega)]; rfl
        rw [a1, a2, a3, if_pos rfl, if_neg (by decide), if_pos rfl, List.map_cons, List.map_cons, sumL_cons, sumL_cons]; omega
      · by_cases q3 : d ≤ fe
        · have a1 : btw fa fb d = false := by unfold btw; rw [decide_eq_false q2, Bool.and_false]
          have a2 : btw (fb + 1) fe d = true := by unfold btw; rw [decide_eq_true (by omega), decide_eq_true q3]; rfl
          have a3 : btw fa fe d = true := by unfold btw; rw [decide_eq_true q1, decide_eq_true q3]; rfl
          rw [a1, a2, a3, if_neg (by decide), if_pos rfl, if_pos rfl, List.map_cons, List.map_cons, sumL_cons, sumL_cons]; omega
        · have a1 : btw fa fb d = false := by unfold btw; rw [decide_eq_false q2, Bool.and_false]
          have a2 : btw (fb + 1) fe d = false := by unfold btw; rw [decide_eq_false q3, Bool.and_false]
          have a3 : btw fa fe d = false := by unfold btw; rw [decide_eq_false q3, Bool.and_false]
          rw [a1, a2, a3, if_neg (by decide), if_neg (by decide), if_neg (by decide)]; exact ih
    · have a1 : btw fa fb d = false := by unfold btw; rw [decide_eq_false q1]; rfl
      have a2 : btw (fb + 1) fe d = false := by unfold btw; rw [decide_eq_false (by omega)]; rfl
      have a3 : btw fa fe d = false := by unfold btw; rw [decide_eq_false q1]; rfl
      rw [a1, a2, a3, if_neg (by decide), if_neg (by decide), if_neg (by decide)]; exact ih
set_option maxRecDepth 100000 in
set_option maxHeartbeats 12800000 in
theorem sumsLg_bad (A : Option Addr) (n c : Nat) (L : Nat → En) (fa fb fe : Int) (w : World) (hA : El w A n L) (hn : n ≤ maxLen) (hs : decide ((n : Int) ≤ 30) = false ∨ stC L n fa fb ≠ 0) :
    Calls Try.prog 6 #[.slice A n c, .int .i64 fa, .int .i64 fb, .int .i64 fe] w fun e w' => e = .returned (.bool true) ∧ Bl w w' := by
  have H1 := Lib.hid (fun (X : World) (hX : Bl w X) => sumS_any A n c L fa fb X (hA.below hX) hn)
  have H2 := Lib.hid (fun (X : World) (hX : Bl w X) => rsumS_any A n c L fa fb X (hA.below hX) hn)
  have H3 := Lib.hid (fun (X : World) (hX : Bl w X) => meanL_any A n c L fa fb X (hA.below hX) hn)
  have H4 := Lib.hid (fun (X : World) (hX : Bl w X) => rmeanL_any A n c L fa fb X (hA.below hX) hn)
  have HN := Lib.hid hn
  clear hA hn
  obtain ⟨M, hM⟩ : ∃ M, M = mnE L n fa fb := ⟨_, rfl⟩
  rw [← hM] at H3 H4
  clear hM
  obtain ⟨mN, mD, mE⟩ := M
  unfold rR at H3 H4
  unfold encP at H1 H2
  obtain ⟨S, hS⟩ : ∃ S, S = sumL (numL (stC L n fa fb) (offF L n fa fb)) := ⟨_, rfl⟩
  rw [← hS] at H1 H2
  clear hS
  cases hs0 : decide ((n : Int) ≤ 30) with
  | false =>
    have HS := Lib.hid hs0
    clear hs0 hs
    go_enter Try.func6, Try.ntmps6
    go_wp2_with fail
    refine (small_any A n c _ HN.out).mono ?_
    rintro e0 w0 ⟨rfl, rfl⟩
    rw [HS.out]
    go_wp2_with fail
    refine (awakeL_any _).mono ?_
    rintro ea wa ⟨rfl, ha⟩
    go_wp2_with fail
    go_ret
    exact ⟨rfl, ha⟩
  | true =>
    have hC : stC L n fa fb ≠ 0 := by
      rcases hs with h | h
      · rw [hs0] at h; cases h
      · exact h
    have HS := Lib.hid hs0
    have hC1n : (stC L n fa fb != 0) = true := by simpa using hC
    clear hs0 hs hC
    obtain ⟨C, hCC⟩ : ∃ C, C = stC L n fa fb := ⟨_, rfl⟩
    rw [← hCC] at hC1n H1 H2
    clear hCC
    go_enter Try.func6, Try.ntmps6
    go_wp2_with fail
    refine (small_any A n c _ HN.out).mono ?_
    rintro e0 w0 ⟨rfl, rfl⟩
    rw [HS.out]
    go_wp2_with fail
    refine (H1.out _ (Bl.rf _)).mono ?_
    rintro e1 w1 ⟨rfl, hb⟩
    have B1 := Lib.hid hb
    clear hb
    go_wp2_with fail
    refine (H2.out _ B1.out).mono ?_
    rintro e2 w2 ⟨rfl, hb⟩
    have B2 := Lib.hid (B1.out.tr hb)
    clear hb
    go_wp2_with fail
    refine (H3.out _ B2.out).mono ?_
    rintro e3 w3 ⟨rfl, hb⟩
    have B3 := Lib.hid (B2.out.tr hb)
    clear hb
    go_wp2_with fail
    refine (H4.out _ (B3.out.tr (by go_grown))).mono ?_
    rintro e4 w4 ⟨rfl, hb⟩
    have x0 := kcb hb (b := w3.heap.size) (o := 0) (v := .int .i64 mN) (by go_cell)
    have x1 := kcb hb (b := w3.heap.size) (o := 1) (v := .int .i64 mD) (by go_cell)
    have lx := ltb x0
    have B4 := Lib.hid (show Bl _ w4 from (B3.out.tr (by go_grown)).tr hb)
    clear hb
    go_wp2_with fail
    refine (awakeL_any _).mono ?_
    rintro ea wa ⟨rfl, ha⟩
    go_wp2_with fail
    go_ret
    exact ⟨rfl, (B4.out.tr (by go_grown)).tr ha⟩
set_option maxRecDepth 100000 in
set_option maxHeartbeats 12800000 in
theorem sumsLg_ok (A : Option Addr) (n c : Nat) (L : Nat → En) (fa fb fe : Int) (w : World) (hA : El w A n L) (hn : n ≤ maxLen) (hs : decide ((n : Int) ≤ 30) = true) (hC : stC L n fa fb = 0) (hfe : rng fe) :
    Calls Try.prog 6 #[.slice A n c, .int .i64 fa, .int .i64 fb, .int .i64 fe] w fun e w' => e = .returned (.bool true) ∧ Bl w w' := by
  have hvl : vlB L n = true := by
    cases hv : vlB L n with
    | true => rfl
    | false => rw [stC_1 hv] at hC; cases hC
  have hr : dayB fa = true ∧ dayB fb = true ∧ ¬ fb < fa := by
    by_cases q : dayB fa = true ∧ dayB fb = true ∧ ¬ fb < fa
    · exact q
    · rw [stC_7 hvl q] at hC; cases hC
  have H1 := Lib.hid (fun (X : World) (hX : Bl w X) => sumS_any A n c L fa fb X (hA.below hX) hn)
  have H2 := Lib.hid (fun (X : World) (hX : Bl w X) => rsumS_any A n c L fa fb X (hA.below hX) hn)
  have H3 := Lib.hid (fun (X : World) (hX : Bl w X) => meanL_any A n c L fa fb X (hA.below hX) hn)
  have H4 := Lib.hid (fun (X : World) (hX : Bl w X) => rmeanL_any A n c L fa fb X (hA.below hX) hn)
  have H5 := Lib.hid (fun (X : World) (hX : Bl w X) => days9_any A n c L X (hA.below hX) hn)
  have H6 := Lib.hid (fun (d : Int) (X : World) (hX : Bl w X) (hd : rng d) => offOf_any A n c L d X (hA.below hX) hn hd)
  have H7 := Lib.hid (fun (X : World) (hX : Bl w X) => sumS_any A n c L (fb + 1) fe X (hA.below hX) hn)
  have H8 := Lib.hid (fun (X : World) (hX : Bl w X) => sumS_any A n c L fa fe X (hA.below hX) hn)
  have HS := Lib.hid hs
  have HN := Lib.hid hn
  have HV0 := Lib.hid (show vC L n = 0 by unfold vC; rw [if_pos hvl])
  have HML := Lib.hid (Nat.le_trans (pick_len L n mallP) (vl_iff.1 hvl).1)
  have HRNG := Lib.hid (fun d (hd : d ∈ pickF L n mallP) => pick_mem hvl hd)
  have HOY := Lib.hid (fun d x (hd : 0 ≤ d ∧ d ≤ 182985) (h : offO L n d = some x) => off_yes hvl hd h)
  have HBD := Lib.hid (fun l (hl : ∀ d, d ∈ l → d ∈ pickF L n mallP) => stL_bd (fa := fa) (fb := fb) hvl hl)
  have HVL := Lib.hid hvl
  clear hA hn hs
  obtain ⟨M, hM⟩ : ∃ M, M = mnE L n fa fb := ⟨_, rfl⟩
  rw [← hM] at H3 H4
  clear hM
  obtain ⟨mN, mD, mE⟩ := M
  unfold rR at H3 H4
  unfold encP at H1 H2
  obtain ⟨S, hS⟩ : ∃ S, S = sumL (numL (stC L n fa fb) (offF L n fa fb)) := ⟨_, rfl⟩
  rw [← hS] at H1 H2
  have hS2 : S = sumL (stL (vL L n) fa fb (pickF L n mallP)) := by rw [hS, hC]; unfold numL; rw [if_pos rfl, offF_st hvl]
  rw [hC] at H1 H2
  rw [HV0.out] at H5
  unfold encP at H6 H7 H8
  have dA : 0 ≤ fa ∧ fa ≤ 182985 := by have := hr.1; unfold dayB at this; simp at this; omega
  have dB : 0 ≤ fb ∧ fb ≤ 182985 := by have := hr.2.1; unfold dayB at this; simp at this; omega
  have dAB := hr.2.2
  -- the two further sums
  have hH78 : fb < fe → fe ≤ 182985 → ∃ s2 s3, S + s2 = s3 ∧ -172800000000 ≤ S ∧ S ≤ 172800000000 ∧ -172800000000 ≤ s2 ∧ s2 ≤ 172800000000 ∧ sumL (numL (stC L n (fb + 1) fe) (offF L n (fb + 1) fe)) = s2 ∧ stC L n (fb + 1) fe = 0 ∧ sumL (numL (stC L n fa fe) (offF L n fa fe)) = s3 ∧ stC L n fa fe = 0 := by
    intro g1 g2
    have e1 : stC L n (fb + 1) fe = 0 := stC_0 hvl ⟨by unfold dayB; simp; omega, by unfold dayB; simp; omega, by omega⟩
    have e2 : stC L n fa fe = 0 := stC_0 hvl ⟨hr.1, by unfold dayB; simp; omega, by omega⟩
    have b1 := num_bd (L := L) (n := n) (fa := fa) (fb := fb)
    have b2 := num_bd (L := L) (n := n) (fa := fb + 1) (fb := fe)
    have c1 := sum_small b1.1 b1.2
    have c2 := sum_small b2.1 b2.2
    rw [← hS] at c1
    refine ⟨_, _, ?_, c1.1, c1.2, c2.1, c2.2, rfl, e1, rfl, e2⟩
    rw [hS2, e1, e2]
    unfold numL
    rw [if_pos rfl, if_pos rfl, offF_st hvl, offF_st hvl]
    exact st_split (vL L n) (by omega) g1 _
  have H78 := Lib.hid hH78
  have HS2 := Lib.hid hS2
  have hbS : -172800000000 ≤ S ∧ S ≤ 172800000000 := by
    have b1 := num_bd (L := L) (n := n) (fa := fa) (fb := fb)
    rw [hS]; exact sum_small b1.1 b1.2
  clear hS hS2 hvl hr hC HV0 hH78
  obtain ⟨l, hl⟩ : ∃ l, l = pickF L n mallP := ⟨_, rfl⟩
  rw [← hl] at H5 HRNG HML HS2 HBD
  clear hl
  obtain ⟨m, hm⟩ : ∃ k, k = l.length := ⟨_, rfl⟩
  rw [← hm] at HML
  have HM := Lib.hid hm
  have hml := HML.out
  clear hm
  go_enter Try.func6, Try.ntmps6
  go_wp2_with fail
  refine (small_any A n c _ HN.out).mono ?_
  rintro e0 w0 ⟨rfl, rfl⟩
  rw [HS.out]
  go_wp2_with fail
  refine (H1.out _ (Bl.rf _)).mono ?_
  rintro e1 w1 ⟨rfl, hb⟩
  have B1 := Lib.hid hb
  clear hb
  go_wp2_with fail
  refine (H2.out _ B1.out).mono ?_
  rintro e2 w2 ⟨rfl, hb⟩
  have B2 := Lib.hid (B1.out.tr hb)
  clear hb
  go_wp2_with fail
  refine (H3.out _ B2.out).mono ?_
  rintro e3 w3 ⟨rfl, hb⟩
  have B3 := Lib.hid (B2.out.tr hb)
  clear hb
  go_wp2_with fail
  refine (H4.out _ (B3.out.tr (by go_grown))).mono ?_
  rintro e4 w4 ⟨rfl, hb⟩
  have x0 := kcb hb (b := w3.heap.size) (o := 0) (v := .int .i64 mN) (by go_cell)
  have x1 := kcb hb (b := w3.heap.size) (o := 1) (v := .int .i64 mD) (by go_cell)
  have lx := ltb x0
  have B4 := Lib.hid (show Bl _ w4 from (B3.out.tr (by go_grown)).tr hb)
  clear hb
  go_wp2_with fail
  refine (H5.out _ (B4.out.tr (by go_grown))).mono ?_
  rintro e5 w5 ⟨hb, ⟨h0, _⟩ | ⟨-, v, rfl, hown⟩⟩
  · exact absurd rfl h0
  obtain ⟨A3, c3, rfl, -, -, hs3, -⟩ := isL_of_own rfl hown
  have S3 := Lib.hid hs3
  have B5 := Lib.hid ((B4.out.tr (by go_grown)).tr hb)
  rw [← HM.out]
  clear hb hown hs3 x0 x1 lx
  go_wp2_with fail
  go_loopw [19, 90] (fun a i wr => ∃ (k : Nat) (s : Int), k ≤ m ∧ i = .int .i64 k ∧ a = .int .i64 s ∧ Hid (s = sumL (stL (vL L n) fa fb (l.take k))) ∧ Hid (Bl w5 wr)) (fun _ i _ => m - (RowKit.intOf i).toNat)
  case atStart => exact ⟨0, 0, Nat.zero_le _, rfl, rfl, rfl, Bl.rf _⟩
  case round =>
    obtain ⟨k, s, hk, rfl, rfl, HSS, HZ⟩ := hrel
    by_cases hlt : k < m
    · have hll : k < l.length := by rw [← HM.out]; exact hlt
      obtain ⟨b3, o3, rfl, hbb, c0⟩ := asg_at (k := k) (S3.out.below HZ.out) hll
      have hT := take_succ_getD l (k := k) hll
      have hdm : l.getD k 0 ∈ l := by simp [List.getD, hll]
      obtain ⟨hdr, x, hx, hxb⟩ := HRNG.out _ hdm
      obtain ⟨d, hd⟩ : ∃ d, d = l.getD k 0 := ⟨_, rfl⟩
      rw [← hd] at c0 hT hdr hx
      have hsb := sumL_bd (M := 172800000) (l := stL (vL L n) fa fb (l.take k)) (by decide) (HBD.out _ (fun d h => List.mem_of_mem_take h)) _ (Nat.le_refl _)
      have hsl : (stL (vL L n) fa fb (l.take k)).length ≤ 1000 := Nat.le_trans (stL_len _ _ _ _) (by rw [List.length_take]; omega)
      rw [List.take_length, ← HSS.out] at hsb
      have HG := Lib.hid (show offG (vL L n) d = x by unfold offG; rw [show offV (vL L n) d = some x from hx]; rfl)
      have HX := Lib.hid (HOY.out d x hdr hx)
      have HR6 := Lib.hid (show rng d by unfold rng; omega)
      have e1 : wrap64 (s + x) = s + x := IntWalk.wrap64_in _ (by omega)
      have e2 : IntKind.i64.wrap (s + x) = s + x := IntWalk.i64_in _ (by omega)
      clear hd hdm hsb hxb hx hsl
      go_wp2_with fail
      refine (H6.out d _ (B5.out.tr HZ.out) HR6.out).mono ?_
      rintro e6 w6 ⟨rfl, hb⟩
      rw [HX.out]
      have HZ2 := Lib.hid (HZ.out.tr hb)
      clear hb
      by_cases q1 : fa ≤ d
      · by_cases q2 : d ≤ fb
        · have HF := Lib.hid (show stL (vL L n) fa fb (l.take (k + 1)) = stL (vL L n) fa fb (l.take k) ++ [x] by
            rw [hT]; unfold stL
            rw [List.filter_append, List.map_append]
            have : btw fa fb d = true := by unfold btw; rw [decide_eq_true q1, decide_eq_true q2]; rfl
            simp [this, HG.out])
          clear hT
          go_wp2_with fail
          go_roundw
          case rel => exact ⟨k + 1, s + x, by omega, by go_num, rfl, (by rw [HF.out, sumL_snoc, ← HSS.out]; exact rfl), HZ2.out⟩
          case measure => simp [RowKit.intOf]; omega
        · have HF := Lib.hid (show stL (vL L n) fa fb (l.take (k + 1)) = stL (vL L n) fa fb (l.take k) by
            rw [hT]; unfold stL
            rw [List.filter_append]
            have : btw fa fb d = false := by unfold btw; rw [decide_eq_false q2, Bool.and_false]
            simp [this])
          clear hT
          go_wp2_with fail
          go_roundw
          case rel => exact ⟨k + 1, s, by omega, by go_num, rfl, (by rw [HF.out]; exact HSS.out), HZ2.out⟩
          case measure => simp [RowKit.intOf]; omega
      · have HF := Lib.hid (show stL (vL L n) fa fb (l.take (k + 1)) = stL (vL L n) fa fb (l.take k) by
          rw [hT]; unfold stL
          rw [List.filter_append]
          have : btw fa fb d = false := by unfold btw; rw [decide_eq_false q1]; rfl
          simp [this])
        clear hT
        go_wp2_with fail
        go_roundw
        case rel => exact ⟨k + 1, s, by omega, by go_num, rfl, (by rw [HF.out]; exact HSS.out), HZ2.out⟩
        case measure => simp [RowKit.intOf]; omega
    · obtain rfl : k = m := by omega
      have e1 : s = S := by rw [HSS.out, HS2.out, HM.out, List.take_length]
      subst e1
      have B6 := Lib.hid (B5.out.tr HZ.out)
      by_cases g1 : fe ≤ fb
      · go_wp2_with fail
        refine (awakeL_any _).mono ?_
        rintro ea wa ⟨rfl, ha⟩
        go_wp2_with fail
        go_ret
        exact ⟨rfl, B6.out.tr ha⟩
      · by_cases g2 : 182985 < fe
        · go_wp2_with fail
          refine (awakeL_any _).mono ?_
          rintro ea wa ⟨rfl, ha⟩
          go_wp2_with fail
          go_ret
          exact ⟨rfl, B6.out.tr ha⟩
        · obtain ⟨s2, s3, z1, z2, z3, z4, z5, z6, z7, z8, z9⟩ := H78.out (by omega) (by omega)
          have K7 := Lib.hid (fun (X : World) (hX : Bl w0 X) => H7.out X hX)
          have K8 := Lib.hid (fun (X : World) (hX : Bl w0 X) => H8.out X hX)
          rw [z6, z7] at K7
          rw [z8, z9] at K8
          have w1' : wrap64 (fb + 1) = fb + 1 := IntWalk.wrap64_in _ (by omega)
          have w2' : IntKind.i64.wrap (fb + 1) = fb + 1 := IntWalk.i64_in _ (by omega)
          have w3' : wrap64 (s + s2) = s3 := by rw [IntWalk.wrap64_in _ (by omega)]; exact z1
          have w4' : IntKind.i64.wrap (s + s2) = s3 := by rw [IntWalk.i64_in _ (by omega)]; exact z1
          have z1' := Lib.hid z1
          have HQ := Lib.hid (show (s + s2 == s3) = true by simpa using z1)
          clear z1 z2 z3 z4 z5 z6 z7 z8 z9
          go_wp2_with fail
          refine (K7.out _ B6.out).mono ?_
          rintro e7 w7 ⟨rfl, hb⟩
          have B7 := Lib.hid (B6.out.tr hb)
          clear hb
          go_wp2_with fail
          refine (K8.out _ B7.out).mono ?_
          rintro e8 w8 ⟨rfl, hb⟩
          have B8 := Lib.hid (B7.out.tr hb)
          have hq := HQ.out
          clear hb
          go_wp2_with fail
          refine (awakeL_any _).mono ?_
          rintro ea wa ⟨rfl, ha⟩
          go_wp2_with fail
          go_ret
          exact ⟨rfl, B8.out.tr ha⟩
theorem sumsLg_walk (A : Option Addr) (n c : Nat) (L : Nat → En) (fa fb fe : Int) (w : World) (hA : El w A n L) (hn : n ≤ maxLen) (hfe : rng fe) :
    Calls Try.prog 6 #[.slice A n c, .int .i64 fa, .int .i64 fb, .int .i64 fe] w fun e w' => e = .returned (.bool true) ∧ Bl w w' := by
  by_cases hs : decide ((n : Int) ≤ 30) = true
  · by_cases hC : stC L n fa fb = 0
    · exact sumsLg_ok A n c L fa fb fe w hA hn hs hC hfe
    · exact sumsLg_bad A n c L fa fb fe w hA hn (.inr hC)
  · exact sumsLg_bad A n c L fa fb fe w hA hn (.inl (by simpa using hs))
end Go.Proofs.Ytbmenpfpeadckaa
