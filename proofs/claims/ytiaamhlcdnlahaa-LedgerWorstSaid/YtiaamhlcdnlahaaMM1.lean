/-
  Package ledger: Streak of the reference.
-/
import Derived.Test.YtiaamhlcdnlahaaMM0
namespace Go.Proofs.Ytiaamhlcdnlahaa
open Go.RowKit Go.Maps Go.Shelf
set_option linter.unusedSimpArgs false
set_option linter.unusedVariables false

set_option maxRecDepth 100000 in
set_option maxHeartbeats 6400000 in
theorem rstreak_any (A : Option Addr) (n c : Nat) (L : Nat → En) (q : Int) (w : World) (hA : El w A n L) (hn : n ≤ maxLen) :
    Calls Try.prog 37 #[.slice A n c, .int .i64 q] w fun e w' => e = .returned (encT (strE L n q)) ∧ Bl w w' := by
  have HR := Lib.hid (fun (X : World) (hb : Bl w X) => rbounded_any A n c L q X (hA.below hb) hn)
  have HA := Lib.hid hA
  by_cases hc : lC L n q = 0
  · have hvl : vlB L n = true := by
      cases hv : vlB L n with
      | true => rfl
      | false => rw [lC_1 hv] at hc; cases hc
    have HC := Lib.hid hc
    have HVL := Lib.hid hvl
    have HN := Lib.hid (vl_iff.1 hvl).1
    have HOF := Lib.hid (fun (d : Int) (X : World) (hX : Bl w X) => roff_any A n c L d X (hA.below hX) hn (fun f x h => lst_bd (vl_iff.1 hvl).2 h))
    have HE := Lib.hid (show strE L n q = (if (sF (pickF L n (mstreakP q))).2.2.2 = 0 then (0, 0, 8) else ((sF (pickF L n (mstreakP q))).2.2.1, (sF (pickF L n (mstreakP q))).2.2.2, 0)) by rw [strE, if_pos hc])
    clear hA hn hc hvl
    go_enter Try.func37, Try.ntmps37
    go_wp2_with fail
    refine (HR.out _ (by go_grown)).mono ?_
    rintro e1 w0 ⟨rfl, hb⟩
    rw [HC.out]
    have B0 := Lib.hid hb
    clear hb
    go_wp2_with fail
    refine (rdays_any A n c L _ (HA.out.below B0.out) HVL.out).mono ?_
    rintro e1 w1 ⟨⟨v, rfl, hown⟩, hb⟩
    have B1 := Lib.hid (B0.out.tr hb)
    have z1 := B1.out.size
    obtain ⟨l, hl⟩ : ∃ l, l = pickF L n mallP := ⟨_, rfl⟩
    have HRNG := Lib.hid (fun d (hd : d ∈ l) => pick_mem HVL.out (show d ∈ pickF L n mallP by rw [← hl]; exact hd))
    have hml : l.length ≤ 1000 := by rw [hl]; exact Nat.le_trans (pick_len L n mallP) HN.out
    have HLL := Lib.hid hl
    rw [← hl] at hown
    obtain ⟨A2, c2, rfl, -, -, -, -⟩ := isL_of_own rfl hown
    obtain ⟨m, hm⟩ : ∃ m, m = l.length := ⟨_, rfl⟩
    have HM := Lib.hid hm
    rw [← hm] at hown hml
    rw [← hm]
    have HOWN := Lib.hid hown
    clear hb hown hl hm
    go_wp2_with fail
    go_loopw [4, 5, 8, 9, 23] (fun fr ln bg en i wr => ∃ (k : Nat) (s : Int × Int × Int × Int), k ≤ m ∧ i = .int .i64 k ∧ fr = .int .i64 s.2.2.1 ∧ ln = .int .i64 s.2.2.2 ∧ bg = .int .i64 s.1 ∧ en = .int .i64 s.2.1 ∧ Hid (s = sF ((l.take k).filter (selB (vL L n) (mstreakP q)))) ∧ (0 ≤ s.1 ∧ s.1 ≤ 182985) ∧ Hid (Bl w1 wr)) (fun _ _ _ _ i _ => m - (RowKit.intOf i).toNat)
    case atStart => exact ⟨0, (0, -1, 0, 0), Nat.zero_le _, rfl, rfl, rfl, rfl, rfl, rfl, ⟨by decide, by decide⟩, Bl.rf _⟩
    case round =>
      obtain ⟨k, s, hk, rfl, rfl, rfl, rfl, rfl, HS, hsb, HZ⟩ := hrel
      have zr := HZ.out.size
      by_cases hlt : k < m
      · obtain ⟨A3, c3, e3, -, -, hs, -⟩ := isL_of_own (l := l) HM.out (own_bN HOWN.out HZ.out)
        obtain ⟨rfl, -, rfl⟩ : A2 = A3 ∧ m = l.length ∧ c2 = c3 := by simpa using e3
        obtain ⟨b', off, rfl, hbb, c0⟩ := asg_at (l := l) (k := k) hs (by rw [← HM.out]; exact hlt)
        have HT := Lib.hid (take_succ_getD l (k := k) (by rw [← HM.out]; exact hlt))
        have hdm : l.getD k 0 ∈ l := by
          have hk' : k < l.length := by rw [← HM.out]; exact hlt
          simp [List.getD, hk']
        have HDR := Lib.hid (HRNG.out _ hdm)
        obtain ⟨d, hd⟩ : ∃ d, d = l.getD k 0 := ⟨_, rfl⟩
        rw [← hd] at c0 HT HDR
        clear hd e3 hs hdm
        have hd1 := HDR.out.1.1
        have hd2 := HDR.out.1.2
        go_wp2_with fail
        refine (HOF.out d _ (B1.out.tr HZ.out)).mono ?_
        rintro e2 X0 ⟨⟨z, rfl, hz⟩, hb⟩
        obtain ⟨-, x, hx, hxb⟩ := HDR.out
        have HXV := Lib.hid hx
        obtain rfl := hz x hx
        rw [hx, Option.isSome_some]
        have HX0 := Lib.hid hb
        clear hb hz hx
        go_wp2_with fail
        refine (rabs_any z _ hxb).mono ?_
        rintro e3 X ⟨rfl, rfl⟩
        have HX := HX0
        have HP := Lib.hid ((sel_at (P := mstreakP q) HXV.out).trans (show mstreakP q d z = decide (absI z ≤ q) from rfl))
        obtain ⟨az, haz⟩ : ∃ a, a = absI z := ⟨_, rfl⟩
        rw [← haz] at HP
        rw [← haz]
        clear haz hxb
        have HZ2 := Lib.hid (HZ.out.tr HX.out)
        by_cases hqq0 : q < az
        · have hp : selB (vL L n) (mstreakP q) d = false := HP.out.trans (decide_eq_false (by omega))
          have HF := Lib.hid (show (l.take (k + 1)).filter (selB (vL L n) (mstreakP q)) = (l.take k).filter (selB (vL L n) (mstreakP q)) by rw [HT.out, List.filter_append]; simp [hp])
          clear hp
          go_wp2_with fail
          go_roundw
          case rel => exact ⟨k + 1, s, by omega, by go_num, rfl, rfl, rfl, rfl, by rw [HF.out]; exact HS.out, hsb, HZ2.out⟩
          case measure => simp [RowKit.intOf]; omega
        · have hp : selB (vL L n) (mstreakP q) d = true := HP.out.trans (decide_eq_true (by omega))
          have HW := Lib.hid (show sF ((l.take (k + 1)).filter (selB (vL L n) (mstreakP q))) = sStep s d by
            have hF : (l.take (k + 1)).filter (selB (vL L n) (mstreakP q)) = (l.take k).filter (selB (vL L n) (mstreakP q)) ++ [d] := by rw [HT.out, List.filter_append]; simp [hp]
            rw [hF, sF_snoc, ← HS.out])
          clear hp
          unfold sStep fst9 at HW
          obtain ⟨s1, s2, s3, s4⟩ := s
          have hs1 : 0 ≤ s1 := hsb.1
          have hs2 : s1 ≤ 182985 := hsb.2
          clear hsb
          simp only at HW
          have e1 : wrap64 (d + 1) = d + 1 := IntWalk.wrap64_in _ (by omega)
          have e2 : IntKind.i64.wrap (d + 1) = d + 1 := IntWalk.i64_in _ (by omega)
          have e3 : wrap64 (d + 1 - s1) = d + 1 - s1 := IntWalk.wrap64_in _ (by omega)
          have e4 : IntKind.i64.wrap (d + 1 - s1) = d + 1 - s1 := IntWalk.i64_in _ (by omega)
          have e5 : wrap64 (d + 1 - d) = d + 1 - d := IntWalk.wrap64_in _ (by omega)
          have e6 : IntKind.i64.wrap (d + 1 - d) = d + 1 - d := IntWalk.i64_in _ (by omega)
          by_cases hq : d = s2
          · subst hq
            have hqq : (d == d) = true := by simp
            rw [if_pos rfl] at HW
            by_cases hr : s4 < d + 1 - s1
            · rw [if_pos hr] at HW
              go_wp2_with fail
              go_roundw
              case rel => exact ⟨k + 1, (s1, d + 1, s1, d + 1 - s1), by omega, by go_num, rfl, rfl, rfl, rfl, (HW.out.symm : _), ⟨by first | exact hs1 | exact hd1, by first | exact hs2 | exact hd2⟩, HZ2.out⟩
              case measure => simp [RowKit.intOf]; omega
            · rw [if_neg hr] at HW
              go_wp2_with fail
              go_roundw
              case rel => exact ⟨k + 1, (s1, d + 1, s3, s4), by omega, by go_num, rfl, rfl, rfl, rfl, (HW.out.symm : _), ⟨by first | exact hs1 | exact hd1, by first | exact hs2 | exact hd2⟩, HZ2.out⟩
              case measure => simp [RowKit.intOf]; omega
          · have hqq : (d == s2) = false := by simpa using hq
            rw [if_neg hq] at HW
            by_cases hr : s4 < d + 1 - d
            · rw [if_pos hr] at HW
              go_wp2_with fail
              go_roundw
              case rel => exact ⟨k + 1, (d, d + 1, d, d + 1 - d), by omega, by go_num, rfl, rfl, rfl, rfl, (HW.out.symm : _), ⟨by first | exact hs1 | exact hd1, by first | exact hs2 | exact hd2⟩, HZ2.out⟩
              case measure => simp [RowKit.intOf]; omega
            · rw [if_neg hr] at HW
              go_wp2_with fail
              go_roundw
              case rel => exact ⟨k + 1, (d, d + 1, s3, s4), by omega, by go_num, rfl, rfl, rfl, rfl, (HW.out.symm : _), ⟨by first | exact hs1 | exact hd1, by first | exact hs2 | exact hd2⟩, HZ2.out⟩
              case measure => simp [RowKit.intOf]; omega
      · obtain rfl : k = m := by omega
        have HQ := Lib.hid (show sF (pickF L n (mstreakP q)) = s by
          rw [HS.out, HM.out, List.take_length, HLL.out, pick_pick])
        rw [HQ.out] at HE
        have HB9 := Lib.hid (B1.out.tr HZ.out)
        obtain ⟨s1, s2, s3, s4⟩ := s
        by_cases hq : s4 = 0
        · have HR9 := Lib.hid (show strE L n q = (0, 0, 8) by rw [HE.out]; exact if_pos hq)
          have hqq : (s4 == 0) = true := by simpa using hq
          go_wp2_with fail
          go_ret3
          exact ⟨by rw [HR9.out]; rfl, HB9.out⟩
        · have HR9 := Lib.hid (show strE L n q = (s3, s4, 0) by rw [HE.out]; exact if_neg hq)
          have hqq : (s4 == 0) = false := by simpa using hq
          go_wp2_with fail
          go_ret3
          exact ⟨by rw [HR9.out]; rfl, HB9.out⟩
  · have HC := Lib.hid (show strE L n q = (0, 0, lC L n q) by rw [strE, if_neg hc])
    have HC1n := Lib.hid (show (lC L n q != 0) = true by simpa using hc)
    clear hA hn hc
    obtain ⟨C, hCC⟩ : ∃ C, C = lC L n q := ⟨_, rfl⟩
    rw [← hCC] at HC HC1n HR
    clear hCC
    have hC1n := HC1n.out
    go_enter Try.func37, Try.ntmps37
    go_wp2_with fail
    refine (HR.out _ (by go_grown)).mono ?_
    rintro e1 w1 ⟨rfl, hb⟩
    go_wp2_with fail
    go_ret3
    exact ⟨by rw [HC.out]; rfl, hb⟩
end Go.Proofs.Ytiaamhlcdnlahaa
