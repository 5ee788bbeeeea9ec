/-
  Package ledger: Worst of the reference.
-/
import Derived.Test.YtiaamhlcdnlahaaML0
namespace Go.Proofs.Ytiaamhlcdnlahaa
open Go.RowKit Go.Maps Go.Shelf
set_option linter.unusedSimpArgs false
set_option linter.unusedVariables false

theorem dv_take {L : Nat → En} {n : Nat} {l : List Int} {k : Nat} {d x : Int} (ht : l.take (k + 1) = l.take k ++ [d]) (hx : offO L n d = some x) : (l.take (k + 1)).map (fun d => (d, (offO L n d).getD 0)) = (l.take k).map (fun d => (d, (offO L n d).getD 0)) ++ [(d, x)] := by
  rw [ht, List.map_append, List.map_singleton, hx]; rfl
set_option maxRecDepth 100000 in
set_option maxHeartbeats 6400000 in
theorem rworst_any (A : Option Addr) (n c : Nat) (L : Nat → En) (w : World) (hA : El w A n L) (hn : n ≤ maxLen) :
    Calls Try.prog 35 #[.slice A n c] w fun e w' => e = .returned (encP (worE L n)) ∧ Bl w w' := by
  have HR := Lib.hid (fun (X : World) (hb : Bl w X) => rvalidE_any A n c L X (hA.below hb) hn)
  have HA := Lib.hid hA
  cases hv : vlB L n with
  | false =>
    have HV := Lib.hid hv
    have HC := Lib.hid (show worE L n = (0, 1) by rw [worE, if_neg (by rw [hv]; decide)])
    clear hv hA hn
    go_enter Try.func35, Try.ntmps35
    go_wp2_with fail
    refine (HR.out _ (by go_grown)).mono ?_
    rintro e1 w1 ⟨rfl, hb⟩
    rw [HV.out]
    go_wp2_with fail
    go_ret2
    exact ⟨by rw [HC.out]; rfl, hb⟩
  | true =>
    have HV := Lib.hid hv
    have HVL := Lib.hid hv
    have HN := Lib.hid (vl_iff.1 hv).1
    have HOF := Lib.hid (fun (d : Int) (X : World) (hX : Bl w X) => roff_any A n c L d X (hA.below hX) hn (fun f x h => lst_bd (vl_iff.1 hv).2 h))
    have HE := Lib.hid (show worE L n = (if (wF (-1, -1) (dvL L n)).1 < 0 then (0, 8) else ((wF (-1, -1) (dvL L n)).1, 0)) by rw [worE, if_pos hv])
    clear hv hA hn
    go_enter Try.func35, Try.ntmps35
    go_wp2_with fail
    refine (HR.out _ (by go_grown)).mono ?_
    rintro e1 w0 ⟨rfl, hb⟩
    rw [HV.out]
    have B0 := Lib.hid hb
    clear hb
    go_wp2_with fail
    refine (rdays_any A n c L _ (HA.out.below B0.out) HVL.out).mono ?_
    rintro e1 w1 ⟨⟨v, rfl, hown⟩, hb⟩
    have B1 := Lib.hid (B0.out.tr hb)
    have z1 := B1.out.size
    obtain ⟨l, hl⟩ : ∃ l, l = pickF L n mallP := ⟨_, rfl⟩
    have HRNG := Lib.hid (fun d (hd : d ∈ l) => pick_mem HVL.out (show d ∈ pickF L n mallP by rw [← hl]; exact hd))
    have hml : l.length ≤ 1000 := by rw [hl]; exact Nat.le_trans (pick_len L n mallP) HN.out
    have HLL := Lib.hid hl
    rw [← hl] at hown
    obtain ⟨A2, c2, rfl, -, -, -, -⟩ := isL_of_own rfl hown
    obtain ⟨m, hm⟩ : ∃ m, m = l.length := ⟨_, rfl⟩
    have HM := Lib.hid hm
    rw [← hm] at hown hml
    rw [← hm]
    have HOWN := Lib.hid hown
    clear hb hown hl hm
    go_wp2_with fail
    go_loopw [4, 5, 16] (fun a g i wr => ∃ (k : Nat) (s : Int × Int), k ≤ m ∧ i = .int .i64 k ∧ a = .int .i64 s.1 ∧ g = .int .i64 s.2 ∧ Hid (s = wF (-1, -1) ((l.take k).map fun d => (d, (offO L n d).getD 0))) ∧ Hid (Bl w1 wr)) (fun _ _ i _ => m - (RowKit.intOf i).toNat)
    case atStart => exact ⟨0, (-1, -1), Nat.zero_le _, rfl, rfl, rfl, rfl, Bl.rf _⟩
    case round =>
      obtain ⟨k, s, hk, rfl, rfl, rfl, HS, HZ⟩ := hrel
      have zr := HZ.out.size
      by_cases hlt : k < m
      · obtain ⟨A3, c3, e3, -, -, hs, -⟩ := isL_of_own (l := l) HM.out (own_bN HOWN.out HZ.out)
        obtain ⟨rfl, -, rfl⟩ : A2 = A3 ∧ m = l.length ∧ c2 = c3 := by simpa using e3
        obtain ⟨b', off, rfl, hbb, c0⟩ := asg_at (l := l) (k := k) hs (by rw [← HM.out]; exact hlt)
        have HT := Lib.hid (take_succ_getD l (k := k) (by rw [← HM.out]; exact hlt))
        have hdm : l.getD k 0 ∈ l := by
          have hk' : k < l.length := by rw [← HM.out]; exact hlt
          simp [List.getD, hk']
        have HDR := Lib.hid (HRNG.out _ hdm)
        obtain ⟨d, hd⟩ : ∃ d, d = l.getD k 0 := ⟨_, rfl⟩
        rw [← hd] at c0 HT HDR
        clear hd e3 hs hdm
        go_wp2_with fail
        refine (HOF.out d _ (B1.out.tr HZ.out)).mono ?_
        rintro e2 X0 ⟨⟨z, rfl, hz⟩, hb⟩
        obtain ⟨-, x, hx, hxb⟩ := HDR.out
        have HXV := Lib.hid hx
        obtain rfl := hz x hx
        rw [hx, Option.isSome_some]
        have HX0 := Lib.hid hb
        clear hb hz hx
        go_wp2_with fail
        refine (rabs_any z _ hxb).mono ?_
        rintro e3 X ⟨rfl, rfl⟩
        have HX := HX0
        have HW := Lib.hid (show wF (-1, -1) ((l.take (k + 1)).map fun d => (d, (offO L n d).getD 0)) = wStep s (d, z) by rw [dv_take HT.out HXV.out, wF_snoc, ← HS.out])
        unfold wStep at HW
        have HAB := Lib.hid (fun (W : World) => rabs_any z W hxb)
        obtain ⟨az, haz⟩ : ∃ a, a = absI z := ⟨_, rfl⟩
        simp only [← haz] at HW HAB
        rw [← haz]
        obtain ⟨s1, s2⟩ := s
        clear haz hxb
        have HZ2 := Lib.hid (HZ.out.tr HX.out)
        by_cases hq : s2 < az
        · rw [show (if ((s1, s2) : Int × Int).2 < az then (d, az) else (s1, s2)) = (d, az) from if_pos hq] at HW
          go_wp2_with fail
          refine (HAB.out _).mono ?_
          rintro e4 X9 ⟨rfl, rfl⟩
          go_wp2_with fail
          go_roundw
          case rel => exact ⟨k + 1, (d, az), by omega, by go_num, rfl, rfl, HW.out.symm, HZ2.out⟩
          case measure => simp [RowKit.intOf]; omega
        · rw [show (if ((s1, s2) : Int × Int).2 < az then (d, az) else (s1, s2)) = (s1, s2) from if_neg hq] at HW
          go_wp2_with fail
          go_roundw
          case rel => exact ⟨k + 1, (s1, s2), by omega, by go_num, rfl, rfl, HW.out.symm, HZ2.out⟩
          case measure => simp [RowKit.intOf]; omega
      · obtain rfl : k = m := by omega
        have HQ := Lib.hid (show wF (-1, -1) (dvL L n) = s by
          rw [HS.out, HM.out, List.take_length, HLL.out]; rfl)
        rw [HQ.out] at HE
        have HB9 := Lib.hid (B1.out.tr HZ.out)
        obtain ⟨s1, s2⟩ := s
        by_cases hq : s1 < 0
        · have HR9 := Lib.hid (show worE L n = (0, 8) by rw [HE.out]; exact if_pos hq)
          go_wp2_with fail
          go_ret2
          exact ⟨by rw [HR9.out]; rfl, HB9.out⟩
        · have HR9 := Lib.hid (show worE L n = (s1, 0) by rw [HE.out]; exact if_neg hq)
          go_wp2_with fail
          go_ret2
          exact ⟨by rw [HR9.out]; rfl, HB9.out⟩
end Go.Proofs.Ytiaamhlcdnlahaa
