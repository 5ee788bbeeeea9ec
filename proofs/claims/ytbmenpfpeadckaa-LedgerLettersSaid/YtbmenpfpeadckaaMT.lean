/-
  The walk of LedgerLetters.
-/
import Derived.Test.YtbmenpfpeadckaaMS
import Derived.Test.YtbmenpfpeadckaaMM0
import Derived.Test.YtbmenpfpeadckaaMM1
import Derived.Test.YtbmenpfpeadckaaLI
import Derived.BigQuiet
namespace Go.Proofs.Ytbmenpfpeadckaa
open Go.RowKit Go.Maps Go.Shelf
set_option linter.unusedSimpArgs false
set_option linter.unusedVariables false

set_option maxRecDepth 100000 in
set_option maxHeartbeats 6400000 in
theorem lettersL_bad (A : Option Addr) (n c : Nat) (L : Nat → En) (q : Int) (w : World) (hA : El w A n L) (hn : n ≤ maxLen) (hs : decide ((n : Int) ≤ 30) = false ∨ lC L n q ≠ 0) :
    Calls Try.prog 7 #[.slice A n c, .int .i64 q] w fun e w' => e = .returned (.bool true) ∧ Bl w w' := by
  have H1 := Lib.hid (fun (X : World) (hX : Bl w X) => letters_any A n c L q X (hA.below hX) hn)
  have HN := Lib.hid hn
  clear hA hn
  cases hs0 : decide ((n : Int) ≤ 30) with
  | false =>
    have HS := Lib.hid hs0
    clear hs0 hs
    go_enter Try.func7, Try.ntmps7
    go_wp2_with fail
    refine (small_any A n c _ HN.out).mono ?_
    rintro e0 w0 ⟨rfl, rfl⟩
    rw [HS.out]
    go_wp2_with fail
    refine (awakeL_any _).mono ?_
    rintro ea wa ⟨rfl, ha⟩
    go_wp2_with fail
    go_ret
    exact ⟨rfl, ha⟩
  | true =>
    have hC : lC L n q ≠ 0 := by
      rcases hs with h | h
      · rw [hs0] at h; cases h
      · exact h
    have HS := Lib.hid hs0
    clear hs0 hs
    have HC := Lib.hid hC
    have hC1n : (lC L n q != 0) = true := by simpa using hC
    clear hC
    obtain ⟨C, hCC⟩ : ∃ C, C = lC L n q := ⟨_, rfl⟩
    rw [← hCC] at HC hC1n H1
    clear hCC
    go_enter Try.func7, Try.ntmps7
    go_wp2_with fail
    refine (small_any A n c _ HN.out).mono ?_
    rintro e0 w0 ⟨rfl, rfl⟩
    rw [HS.out]
    go_wp2_with fail
    refine (H1.out _ (Bl.rf _)).mono ?_
    rintro e1 w1 ⟨hb, ⟨-, rfl⟩ | ⟨h0, _⟩⟩
    · have B1 := Lib.hid hb
      clear hb
      go_wp2_with fail
      refine (awakeL_any _).mono ?_
      rintro ea wa ⟨rfl, ha⟩
      go_wp2_with fail
      go_ret
      exact ⟨rfl, B1.out.tr ha⟩
    · exact absurd h0 HC.out
set_option maxRecDepth 100000 in
set_option maxHeartbeats 25600000 in
theorem lettersL_ok (A : Option Addr) (n c : Nat) (L : Nat → En) (q : Int) (w : World) (hA : El w A n L) (hn : n ≤ maxLen) (hs : decide ((n : Int) ≤ 30) = true) (hC : lC L n q = 0) :
    Calls Try.prog 7 #[.slice A n c, .int .i64 q] w fun e w' => e = .returned (.bool true) ∧ Bl w w' := by
  have hvl : vlB L n = true := by
    cases hv : vlB L n with
    | true => rfl
    | false => rw [lC_1 hv] at hC; cases hC
  obtain ⟨fr, len, G, wd, H, bG, bH, hf⟩ := ltFacts L n q hC
  have H1 := Lib.hid (fun (X : World) (hX : Bl w X) => letters_any A n c L q X (hA.below hX) hn)
  have H2 := Lib.hid (fun (X : World) (hX : Bl w X) => days9_any A n c L X (hA.below hX) hn)
  have H3 := Lib.hid (fun (X : World) (hX : Bl w X) => streak_any A n c L q X (hA.below hX) hn)
  have H4 := Lib.hid (fun (X : World) (hX : Bl w X) => worst_any A n c L X (hA.below hX) hn)
  have H5 := Lib.hid (fun (d : Int) (X : World) (hX : Bl w X) (hd : rng d) => offOf_any A n c L d X (hA.below hX) hn hd)
  have HS := Lib.hid hs
  have HN := Lib.hid hn
  have HML := Lib.hid (Nat.le_trans (pick_len L n mallP) (vl_iff.1 hvl).1)
  have HMF := Lib.hid (Nat.le_trans (pick_len L n (mletterP q)) (vl_iff.1 hvl).1)
  have HRNG := Lib.hid (fun d (hd : d ∈ pickF L n mallP) => pick_mem hvl hd)
  have HASC := Lib.hid (pick_asc L n mallP)
  have HFL := Lib.hid (pick_pick L n (mletterP q)).symm
  have HOY := Lib.hid (fun d x (hd : 0 ≤ d ∧ d ≤ 182985) (h : offO L n d = some x) => off_yes hvl hd h)
  have HV0 := Lib.hid (show vC L n = 0 by unfold vC; rw [if_pos hvl])
  clear hA hn hs hvl
  rw [hC] at H1
  rw [HV0.out] at H2
  rw [hf.str] at H3
  rw [hf.wor] at H4
  unfold encT at H3
  unfold encP at H4 H5
  obtain ⟨F, hF⟩ : ∃ F, F = pickF L n (mletterP q) := ⟨_, rfl⟩
  obtain ⟨l, hl⟩ : ∃ l, l = pickF L n mallP := ⟨_, rfl⟩
  rw [← hF] at H1 hf HFL HMF
  rw [← hl] at H2 hf HFL HML HRNG HASC
  clear hF hl hC HV0
  obtain ⟨nF, hnF⟩ : ∃ k, k = F.length := ⟨_, rfl⟩
  obtain ⟨m, hm⟩ : ∃ k, k = l.length := ⟨_, rfl⟩
  have f1 := hf.g
  have f2 := hf.lt
  have f3 := hf.h
  have f4 := hf.pos
  rw [← hnF] at f2 HMF
  rw [← hm] at f2 f4 HML
  have f5 : decide (nF < m) = bG := by rw [← f2]; simp
  have f6 : decide (0 < m) = bH := by rw [← f4]; simp
  have HF := Lib.hid hf
  have HNF := Lib.hid hnF
  have HM := Lib.hid hm
  have hfr := hf.rg
  have hml := HML.out
  have hnf := HMF.out
  have e12 : wrap64 (fr + len) = fr + len := IntWalk.wrap64_in _ (by omega)
  have e13 : IntKind.i64.wrap (fr + len) = fr + len := IntWalk.i64_in _ (by omega)
  have hwr := hf.wrg
  clear hf hnF hm
  go_enter Try.func7, Try.ntmps7
  go_wp2_with fail
  refine (small_any A n c _ HN.out).mono ?_
  rintro e0 w0 ⟨rfl, rfl⟩
  rw [HS.out]
  go_wp2_with fail
  refine (H1.out _ (Bl.rf _)).mono ?_
  rintro e1 w1 ⟨hb, ⟨h0, _⟩ | ⟨-, v, rfl, hown⟩⟩
  · exact absurd rfl h0
  obtain ⟨A2, c2, rfl, -, -, hs2, -⟩ := isL_of_own rfl hown
  have S1 := Lib.hid hs2
  have B1 := Lib.hid hb
  rw [← HNF.out]
  clear hb hown hs2
  go_wp2_with fail
  refine (H2.out _ B1.out).mono ?_
  rintro e2 w2 ⟨hb, ⟨h0, _⟩ | ⟨-, v, rfl, hown⟩⟩
  · exact absurd rfl h0
  obtain ⟨A3, c3, rfl, -, -, hs3, -⟩ := isL_of_own rfl hown
  have S3 := Lib.hid hs3
  have S1 := Lib.hid (S1.out.below hb)
  have B2 := Lib.hid (B1.out.tr hb)
  rw [← HM.out]
  clear hb hown hs3
  go_wp2_with fail
  refine (H3.out _ B2.out).mono ?_
  rintro e3 w3 ⟨rfl, hb⟩
  have S3 := Lib.hid (S3.out.below hb)
  have S1 := Lib.hid (S1.out.below hb)
  have B3 := Lib.hid (B2.out.tr hb)
  clear hb
  go_wp2_with fail
  refine (H4.out _ B3.out).mono ?_
  rintro e4 w4 ⟨rfl, hb⟩
  have S3 := Lib.hid (S3.out.below hb)
  have S1 := Lib.hid (S1.out.below hb)
  have B4 := Lib.hid (B3.out.tr hb)
  clear hb
  go_wp2_with fail
  go_loopw [14, 15, 80] (fun a b i wr => ∃ k kk ns : Nat, k ≤ m ∧ i = .int .i64 k ∧ a = .int .i64 kk ∧ b = .int .i64 ns ∧ kk ≤ k ∧ ns ≤ k ∧ Hid (kk = ((l.take k).filter (selB (vL L n) (mletterP q))).length) ∧ Hid (ns = ((l.take k).filter (insB fr len)).length) ∧ Hid (Bl w4 wr)) (fun _ _ i _ => m - (RowKit.intOf i).toNat)
  case atStart => exact ⟨0, 0, 0, Nat.zero_le _, rfl, rfl, rfl, Nat.le_refl _, Nat.le_refl _, rfl, rfl, Bl.rf _⟩
  case round =>
    obtain ⟨k, kk, ns, hk, rfl, rfl, rfl, hkk, hns, HKK, HNS, HZ⟩ := hrel
    by_cases hlt : k < m
    · have hll : k < l.length := by rw [← HM.out]; exact hlt
      obtain ⟨b3, o3, rfl, hbb, c0⟩ := asg_at (S3.out.below HZ.out) hll
      have HT := Lib.hid (take_succ_getD l hll)
      have HKY := Lib.hid (fun h => kth_yes (p := selB (vL L n) (mletterP q)) hll h)
      have HKN := Lib.hid (fun h => kth_no (p := selB (vL L n) (mletterP q)) HASC.out hll h)
      have hdm : l.getD k 0 ∈ l := by simp [List.getD, hll]
      obtain ⟨d, hd⟩ : ∃ d, d = l.getD k 0 := ⟨_, rfl⟩
      rw [← hd] at c0 HT HKY HKN hdm
      rw [← HKK.out, ← HFL.out, ← HNF.out] at HKY HKN
      have HDM := Lib.hid hdm
      obtain ⟨hdr, x, hx, hxb⟩ := HRNG.out d hdm
      have HX := Lib.hid (HOY.out d x hdr hx)
      have HPL := Lib.hid ((sel_at (P := mletterP q) hx).trans (show mletterP q d x = decide (q < absI x) from rfl))
      have hbH : bH = true := by rw [← HF.out.pos]; exact decide_eq_true (by omega)
      obtain ⟨y, hy, hyb1, hyb2, hyw⟩ := HF.out.wst hbH
      have HY := Lib.hid hy
      have hle0 := hyw d x hdm hx
      obtain ⟨ax, hax⟩ : ∃ a, a = absI x := ⟨_, rfl⟩
      obtain ⟨ay, hay⟩ : ∃ a, a = absI y := ⟨_, rfl⟩
      have HAX := Lib.hid (fun (X : World) => show Calls Try.prog 32 #[.int .i64 x] X fun e w' => e = .returned (.int .i64 ax) ∧ w' = X by rw [hax]; exact rabs_any x X hxb)
      have HAY := Lib.hid (fun (X : World) => show Calls Try.prog 32 #[.int .i64 y] X fun e w' => e = .returned (.int .i64 ay) ∧ w' = X by rw [hay]; exact rabs_any y X ⟨hyb1, hyb2⟩)
      rw [← hax, ← hay] at hle0
      rw [← hax] at HPL
      have hle1 : decide (ay < ax) = false := decide_eq_false (by omega)
      have HLE := Lib.hid hle1
      clear hle1 hle0 hax hay
      have HR5 := Lib.hid (show rng d by unfold rng; omega)
      have HR6 := Lib.hid (show rng wd by unfold rng; omega)
      have HGOOD := Lib.hid (HF.out.good d hdm)
      clear hdm hx hy hyw hd hll hbH
      go_wp2_with fail
      refine (H5.out d _ (B4.out.tr HZ.out) HR5.out).mono ?_
      rintro e5 w5 ⟨rfl, hb⟩
      rw [HX.out]
      have HZ5 := Lib.hid (HZ.out.tr hb)
      clear hb
      go_wp2_with fail
      refine (H5.out wd _ (B4.out.tr HZ5.out) HR6.out).mono ?_
      rintro e6 w6 ⟨rfl, hb⟩
      rw [HY.out]
      have HZ6 := Lib.hid (HZ5.out.tr hb)
      clear hb
      go_wp2_with fail
      refine (HAX.out _).mono ?_
      rintro e7 w7 ⟨rfl, rfl⟩
      go_wp2_with fail
      refine (HAY.out _).mono ?_
      rintro e8 w8 ⟨rfl, rfl⟩
      have hle1 := HLE.out
      cases hq : decide (q < ax) with
      | true =>
        have hp : selB (vL L n) (mletterP q) d = true := HPL.out.trans hq
        obtain ⟨h1, h2⟩ := HKY.out hp
        have hne : insB fr len d = false := by
          cases h : insB fr len d with
          | false => rfl
          | true => have := HGOOD.out h; rw [hp] at this; cases this
        obtain ⟨b1, o1, rfl, hb1, c1⟩ := asg_at (S1.out.below HZ6.out) (by rw [← HNF.out]; exact h1)
        rw [h2] at c1
        have HF1 := Lib.hid (show (l.take (k + 1)).filter (selB (vL L n) (mletterP q)) = (l.take k).filter (selB (vL L n) (mletterP q)) ++ [d] by rw [HT.out, List.filter_append]; simp [hp])
        have HF2 := Lib.hid (show (l.take (k + 1)).filter (insB fr len) = (l.take k).filter (insB fr len) by rw [HT.out, List.filter_append]; simp [hne])
        have HIN := Lib.hid hne
        have h1' : (kk : Int) < (nF : Int) := by omega
        clear h2 hp hne
        have HQ := Lib.hid hq
        clear hq
        go_wp2_with fail
        refine (HAX.out _).mono ?_
        rintro e9 w9 ⟨rfl, rfl⟩
        have hq := HQ.out
        cases bG with
        | false =>
          go_wp2_with fail
          go_roundw
          case rel => exact ⟨k + 1, kk + 1, ns + 0, by omega, by go_num, by go_num, by go_num, by omega, by omega, (by rw [HF1.out, List.length_append, List.length_singleton, ← HKK.out]; exact rfl), (by rw [HF2.out]; exact HNS.out), HZ6.out⟩
          case measure => simp [RowKit.intOf]; omega
        | true =>
          by_cases hd1 : fr ≤ d
          · have hd2 : ¬ d < fr + len := fun h => by
              have := HIN.out
              unfold insB at this
              rw [decide_eq_true hd1, decide_eq_true h] at this
              cases this
            go_wp2_with fail
            go_roundw
            case rel => exact ⟨k + 1, kk + 1, ns + 0, by omega, by go_num, by go_num, by go_num, by omega, by omega, (by rw [HF1.out, List.length_append, List.length_singleton, ← HKK.out]; exact rfl), (by rw [HF2.out]; exact HNS.out), HZ6.out⟩
            case measure => simp [RowKit.intOf]; omega
          · go_wp2_with fail
            go_roundw
            case rel => exact ⟨k + 1, kk + 1, ns + 0, by omega, by go_num, by go_num, by go_num, by omega, by omega, (by rw [HF1.out, List.length_append, List.length_singleton, ← HKK.out]; exact rfl), (by rw [HF2.out]; exact HNS.out), HZ6.out⟩
            case measure => simp [RowKit.intOf]; omega
      | false =>
        have hp : selB (vL L n) (mletterP q) d = false := HPL.out.trans hq
        have HF1 := Lib.hid (show (l.take (k + 1)).filter (selB (vL L n) (mletterP q)) = (l.take k).filter (selB (vL L n) (mletterP q)) by rw [HT.out, List.filter_append]; simp [hp])
        have HKN2 := Lib.hid (HKN.out hp)
        clear hp
        have HQ := Lib.hid hq
        clear hq
        by_cases hkF : (kk : Int) < (nF : Int)
        · obtain ⟨b1, o1, rfl, hb1, c1⟩ := asg_at (k := kk) (S1.out.below HZ6.out) (by rw [← HNF.out]; omega)
          have hne0 : (F.getD kk 0 == d) = false := by simpa using HKN2.out (by omega)
          obtain ⟨Fk, hFk⟩ : ∃ x, x = F.getD kk 0 := ⟨_, rfl⟩
          rw [← hFk] at c1 hne0
          clear hFk
          go_wp2_with fail
          refine (HAX.out _).mono ?_
          rintro e9 w9 ⟨rfl, rfl⟩
          have hq := HQ.out
          cases bG with
          | false =>
            have hlen0 := HF.out.nlen rfl
            have hne : insB fr len d = false := by
              unfold insB
              by_cases h : fr ≤ d
              · rw [decide_eq_true h, decide_eq_false (by omega)]; rfl
              · rw [decide_eq_false h]; rfl
            clear hlen0
            have HF2 := Lib.hid (show (l.take (k + 1)).filter (insB fr len) = (l.take k).filter (insB fr len) by rw [HT.out, List.filter_append]; simp [hne])
            clear hne
            go_wp2_with fail
            go_roundw
            case rel => exact ⟨k + 1, kk + 0, ns + 0, by omega, by go_num, by go_num, by go_num, by omega, by omega, (by rw [HF1.out]; exact HKK.out), (by rw [HF2.out]; exact HNS.out), HZ6.out⟩
            case measure => simp [RowKit.intOf]; omega
          | true =>
            by_cases hd1 : fr ≤ d
            · by_cases hd2 : d < fr + len
              · have hne : insB fr len d = true := by unfold insB; rw [decide_eq_true hd1, decide_eq_true hd2]; rfl
                have HF2 := Lib.hid (show (l.take (k + 1)).filter (insB fr len) = (l.take k).filter (insB fr len) ++ [d] by rw [HT.out, List.filter_append]; simp [hne])
                clear hne
                go_wp2_with fail
                go_roundw
                case rel => exact ⟨k + 1, kk + 0, ns + 1, by omega, by go_num, by go_num, by go_num, by omega, by omega, (by rw [HF1.out]; exact HKK.out), (by rw [HF2.out, List.length_append, List.length_singleton, ← HNS.out]; exact rfl), HZ6.out⟩
                case measure => simp [RowKit.intOf]; omega
              · have hne : insB fr len d = false := by unfold insB; rw [decide_eq_true hd1, decide_eq_false hd2]; rfl
                have HF2 := Lib.hid (show (l.take (k + 1)).filter (insB fr len) = (l.take k).filter (insB fr len) by rw [HT.out, List.filter_append]; simp [hne])
                clear hne
                go_wp2_with fail
                go_roundw
                case rel => exact ⟨k + 1, kk + 0, ns + 0, by omega, by go_num, by go_num, by go_num, by omega, by omega, (by rw [HF1.out]; exact HKK.out), (by rw [HF2.out]; exact HNS.out), HZ6.out⟩
                case measure => simp [RowKit.intOf]; omega
            · have hne : insB fr len d = false := by unfold insB; rw [decide_eq_false hd1]; rfl
              have HF2 := Lib.hid (show (l.take (k + 1)).filter (insB fr len) = (l.take k).filter (insB fr len) by rw [HT.out, List.filter_append]; simp [hne])
              clear hne
              go_wp2_with fail
              go_roundw
              case rel => exact ⟨k + 1, kk + 0, ns + 0, by omega, by go_num, by go_num, by go_num, by omega, by omega, (by rw [HF1.out]; exact HKK.out), (by rw [HF2.out]; exact HNS.out), HZ6.out⟩
              case measure => simp [RowKit.intOf]; omega
        · go_wp2_with fail
          refine (HAX.out _).mono ?_
          rintro e9 w9 ⟨rfl, rfl⟩
          have hq := HQ.out
          cases bG with
          | false =>
            have hlen0 := HF.out.nlen rfl
            have hne : insB fr len d = false := by
              unfold insB
              by_cases h : fr ≤ d
              · rw [decide_eq_true h, decide_eq_false (by omega)]; rfl
              · rw [decide_eq_false h]; rfl
            clear hlen0
            have HF2 := Lib.hid (show (l.take (k + 1)).filter (insB fr len) = (l.take k).filter (insB fr len) by rw [HT.out, List.filter_append]; simp [hne])
            clear hne
            go_wp2_with fail
            go_roundw
            case rel => exact ⟨k + 1, kk + 0, ns + 0, by omega, by go_num, by go_num, by go_num, by omega, by omega, (by rw [HF1.out]; exact HKK.out), (by rw [HF2.out]; exact HNS.out), HZ6.out⟩
            case measure => simp [RowKit.intOf]; omega
          | true =>
            by_cases hd1 : fr ≤ d
            · by_cases hd2 : d < fr + len
              · have hne : insB fr len d = true := by unfold insB; rw [decide_eq_true hd1, decide_eq_true hd2]; rfl
                have HF2 := Lib.hid (show (l.take (k + 1)).filter (insB fr len) = (l.take k).filter (insB fr len) ++ [d] by rw [HT.out, List.filter_append]; simp [hne])
                clear hne
                go_wp2_with fail
                go_roundw
                case rel => exact ⟨k + 1, kk + 0, ns + 1, by omega, by go_num, by go_num, by go_num, by omega, by omega, (by rw [HF1.out]; exact HKK.out), (by rw [HF2.out, List.length_append, List.length_singleton, ← HNS.out]; exact rfl), HZ6.out⟩
                case measure => simp [RowKit.intOf]; omega
              · have hne : insB fr len d = false := by unfold insB; rw [decide_eq_true hd1, decide_eq_false hd2]; rfl
                have HF2 := Lib.hid (show (l.take (k + 1)).filter (insB fr len) = (l.take k).filter (insB fr len) by rw [HT.out, List.filter_append]; simp [hne])
                clear hne
                go_wp2_with fail
                go_roundw
                case rel => exact ⟨k + 1, kk + 0, ns + 0, by omega, by go_num, by go_num, by go_num, by omega, by omega, (by rw [HF1.out]; exact HKK.out), (by rw [HF2.out]; exact HNS.out), HZ6.out⟩
                case measure => simp [RowKit.intOf]; omega
            · have hne : insB fr len d = false := by unfold insB; rw [decide_eq_false hd1]; rfl
              have HF2 := Lib.hid (show (l.take (k + 1)).filter (insB fr len) = (l.take k).filter (insB fr len) by rw [HT.out, List.filter_append]; simp [hne])
              clear hne
              go_wp2_with fail
              go_roundw
              case rel => exact ⟨k + 1, kk + 0, ns + 0, by omega, by go_num, by go_num, by go_num, by omega, by omega, (by rw [HF1.out]; exact HKK.out), (by rw [HF2.out]; exact HNS.out), HZ6.out⟩
              case measure => simp [RowKit.intOf]; omega
    · obtain rfl : k = m := by omega
      have e1 : kk = nF := by rw [HKK.out, HNF.out, HFL.out, HM.out, List.take_length]
      have e2 : (ns : Int) = len := by rw [HNS.out, HM.out, List.take_length]; exact HF.out.cnt
      subst e1
      have e3 : ((ns : Int) == len) = true := by simp [e2]
      clear e2
      go_wp2_with fail
      refine (awakeL_any _).mono ?_
      rintro ea wa ⟨rfl, ha⟩
      go_wp2_with fail
      go_ret
      exact ⟨rfl, (B4.out.tr HZ.out).tr ha⟩
theorem lettersL_walk (A : Option Addr) (n c : Nat) (L : Nat → En) (q : Int) (w : World) (hA : El w A n L) (hn : n ≤ maxLen) :
    Calls Try.prog 7 #[.slice A n c, .int .i64 q] w fun e w' => e = .returned (.bool true) ∧ Bl w w' := by
  by_cases hs : decide ((n : Int) ≤ 30) = true
  · by_cases hC : lC L n q = 0
    · exact lettersL_ok A n c L q w hA hn hs hC
    · exact lettersL_bad A n c L q w hA hn (.inr hC)
  · exact lettersL_bad A n c L q w hA hn (.inl (by simpa using hs))
end Go.Proofs.Ytbmenpfpeadckaa
