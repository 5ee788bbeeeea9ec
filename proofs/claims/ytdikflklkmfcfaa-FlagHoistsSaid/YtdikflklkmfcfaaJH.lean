/-
  The walk of FlagHoists.
-/
import Derived.Test.YtdikflklkmfcfaaJF
import Derived.Test.YtdikflklkmfcfaaJG
import Derived.Test.YtdikflklkmfcfaaFX
namespace Go.Proofs.Ytdikflklkmfcfaa
open Go.RowKit Go.Shelf
set_option linter.unusedSimpArgs false
set_option linter.unusedVariables false

theorem sameInts_nil (w : World) : Calls Try.prog 13 #[.slice none 0 0, .slice none 0 0] w fun e w' => e = .returned (.bool true) ∧ Bl w w' := by
  refine (sameInts7_any none 0 0 (fun _ => 0) none 0 0 (fun _ => 0) w (by decide) (by decide) (fun h => absurd h (by omega)) (fun h => absurd h (by omega))).mono ?_
  rintro e w' ⟨rfl, N, rfl⟩
  exact ⟨by rw [sIB_same7], bl_dN7 _ _⟩
/-- Two rows with the same numbers. -/
theorem sameInts_rows {b b' : Nat} {v v' : Value} {l : List Nat} {W W' w : World} (h : W.ownsRow b 3 1 v l.length (inN l)) (h' : W'.ownsRow b' 3 1 v' l.length (inN l)) (hb : Bl W w) (hb' : Bl W' w) :
    Calls Try.prog 13 #[v, v'] w fun e w' => e = .returned (.bool true) ∧ Bl w w' := by
  obtain ⟨-, A1, c1, rfl, m1, m2, s1⟩ := own_sl7 h
  obtain ⟨-, A2, c2, rfl, m3, m4, s2⟩ := own_sl7 h'
  refine (sameInts7_any A1 l.length c1 (gI l) A2 l.length c2 (gI l) w (by omega) (by omega) (s1.below hb) (s2.below hb')).mono ?_
  rintro e w' ⟨rfl, N, rfl⟩
  exact ⟨by rw [sIB_same7], bl_dN7 _ _⟩
theorem sameHoists_nil (w : World) : Calls Try.prog 12 #[.slice none 0 0, .slice none 0 0] w fun e w' => e = .returned (.bool true) ∧ Bl w w' := by
  refine (sameHoists_eq none 0 0 (fun _ => (none, 0)) none 0 (fun _ => (none, 0)) (fun _ => []) w (by decide) (fun h => absurd h (by omega)) (fun h => absurd h (by omega))).mono ?_
  rintro e w' ⟨rfl, N, rfl⟩
  exact ⟨rfl, bl_dN7 _ _⟩
theorem hst_lens {n : Nat} {D : Nat → Int} {L : Nat} {x : List Nat} (h : x ∈ hstL n D L) : x.length = n := by
  have := tre_lens (wnB D) n [] [] L x h
  simpa using this
theorem rl_own {base : Nat} {xs : List Hst} {v : Value} {W : World} (h : OwnHs base xs v W) : ∃ A cap V, v = .slice A xs.length cap ∧ cap ≤ maxLen ∧ xs.length ≤ cap ∧ Rl W A xs.length V (fun j => (xs.map (fun x : Hst => x.2.2)).getD j []) := by
  obtain ⟨hrow, hat⟩ := h
  obtain ⟨A, cap, rfl, h1, h2, h3⟩ := row_shape hrow
  have key : ∀ j, ∃ V : Option Addr × Nat, j < xs.length → ∃ g, A = some ⟨g, 0, none⟩ ∧ g < W.heap.size ∧ W.cell? ⟨g, j, none⟩ = some (.slice V.1 ((xs.map (fun x : Hst => x.2.2)).getD j []).length V.2) ∧ Sl W V.1 ((xs.map (fun x : Hst => x.2.2)).getD j []).length (gI ((xs.map (fun x : Hst => x.2.2)).getD j [])) ∧ ((xs.map (fun x : Hst => x.2.2)).getD j []).length ≤ 4 := by
    intro j
    by_cases hj : j < xs.length
    · obtain ⟨g, e, hg, hc⟩ := h3 j hj
      obtain ⟨⟨ho, hl1, hl4⟩, -⟩ := hat xs[j] (List.getElem_mem hj)
      obtain ⟨-, A2, c2, e2, -, -, s2⟩ := own_sl7 ho
      injection e2 with e21 e22 e23
      have ex : (xs.map (fun x : Hst => x.2.2)).getD j [] = xs[j].2.2 := by rw [List.getD_eq_getElem?_getD, List.getElem?_map, List.getElem?_eq_getElem hj]; rfl
      refine ⟨(A2, c2), fun _ => ⟨g, e, hg, ?_, ?_, ?_⟩⟩
      · rw [ex, hc, List.getElem?_map, List.getElem?_eq_getElem hj, ← e21, ← e23]; rfl
      · rw [ex]; exact s2
      · rw [ex]; exact hl4
    · exact ⟨(none, 0), fun h => absurd h hj⟩
  obtain ⟨V, hV⟩ := Classical.axiomOfChoice key
  refine ⟨A, cap, V, rfl, h2, h1, fun h0 => ?_⟩
  obtain ⟨g, e, hg, -⟩ := hV 0 h0
  refine ⟨g, 0, e, hg, fun j hj => ?_⟩
  obtain ⟨g', e', -, c1, c2, c3⟩ := hV j hj
  obtain rfl : g = g' := by rw [e] at e'; injection e' with e'; injection e'
  exact ⟨by rw [Nat.zero_add]; exact c1, c2, c3⟩
theorem rl_rr {base cap : Nat} {els : List (Value × List Nat)} {A : Option Addr} {W : World} (h : RR base els (.slice A els.length cap) W) (h4 : ∀ x, x ∈ els.map Prod.snd → x.length ≤ 4) : ∃ V, Rl W A els.length V (fun j => (els.map Prod.snd).getD j []) := by
  obtain ⟨hrow, hat⟩ := h
  obtain ⟨A', cap', e, -, -, h3⟩ := row_shape hrow
  injection e with e1 _ e3
  subst e1 e3
  have key : ∀ j, ∃ V : Option Addr × Nat, j < els.length → ∃ g, A = some ⟨g, 0, none⟩ ∧ g < W.heap.size ∧ W.cell? ⟨g, j, none⟩ = some (.slice V.1 ((els.map Prod.snd).getD j []).length V.2) ∧ Sl W V.1 ((els.map Prod.snd).getD j []).length (gI ((els.map Prod.snd).getD j [])) ∧ ((els.map Prod.snd).getD j []).length ≤ 4 := by
    intro j
    by_cases hj : j < els.length
    · obtain ⟨g, e, hg, hc⟩ := h3 j hj
      obtain ⟨ho, -⟩ := hat els[j] (List.getElem_mem hj)
      obtain ⟨-, A2, c2, e2, -, -, s2⟩ := own_sl7 ho
      have ex : (els.map Prod.snd).getD j [] = els[j].2 := by rw [List.getD_eq_getElem?_getD, List.getElem?_map, List.getElem?_eq_getElem hj]; rfl
      refine ⟨(A2, c2), fun _ => ⟨g, e, hg, ?_, ?_, ?_⟩⟩
      · rw [ex, hc, List.getElem?_map, List.getElem?_eq_getElem hj, ← e2]; rfl
      · rw [ex]; exact s2
      · exact h4 _ (by rw [ex]; exact List.mem_map.2 ⟨_, List.getElem_mem hj, rfl⟩)
    · exact ⟨(none, 0), fun h => absurd h hj⟩
  obtain ⟨V, hV⟩ := Classical.axiomOfChoice key
  refine ⟨V, fun h0 => ?_⟩
  obtain ⟨g, e, hg, -⟩ := hV 0 h0
  refine ⟨g, 0, e, hg, fun j hj => ?_⟩
  obtain ⟨g', e', -, c1, c2, c3⟩ := hV j hj
  obtain rfl : g = g' := by rw [e] at e'; injection e' with e'; injection e'
  exact ⟨by rw [Nat.zero_add]; exact c1, c2, c3⟩
set_option maxRecDepth 100000 in
set_option maxHeartbeats 16000000 in
theorem hoists_walk_no (A : Option Addr) (n c : Nat) (D : Nat → Int) (flags : Int) (B : Option Addr) (m d : Nat) (H : Nat → Int) (w : World) (hn : n ≤ c ∧ c ≤ maxLen) (hA : Sl w A n D) (hm : m ≤ d ∧ d ≤ maxLen) (hB : Sl w B m H) (h1 : ¬ 100 < n) (h2 : ¬ 100 < m) (hck : ckV n D flags ≠ 0) :
    Calls Try.prog 3 #[.slice A n c, .int .i64 flags, .slice B m d] w fun e w' => e = .returned (.bool true) ∧ Bl w w' := by
  have HA := Lib.hid hA
  have HN := Lib.hid hn
  obtain ⟨v, hv⟩ : ∃ v, v = ckV n D flags := ⟨_, rfl⟩
  have HV := Lib.hid hv
  have HCK := Lib.hid hck
  rw [← hv] at hck
  have hne : (v != 0) = true := by simp [hck]
  have hnn : (v != v) = false := by simp
  clear hA hn hB hm hv hck
  go_enter Try.func3, Try.ntmps3
  go_wp2_with fail
  refine (hoistsF_no A n c D flags _ (Nat.le_trans HN.out.1 HN.out.2) HA.out HCK.out).mono ?_
  rintro e w1 ⟨rfl, rfl⟩
  rw [← HV.out]
  go_wp2_with fail
  refine (rhoistsF_no A n c D flags _ HN.out HA.out HCK.out).mono ?_
  rintro e w1 ⟨rfl, rfl⟩
  rw [← HV.out]
  go_wp2_with fail
  refine (with_no A n c D flags _ (Nat.le_trans HN.out.1 HN.out.2) HA.out HCK.out).mono ?_
  rintro e w1 ⟨rfl, hb1⟩
  rw [← HV.out]
  have B1 := Lib.hid hb1
  clear hb1
  go_wp2_with fail
  refine (rwith_no A n c D flags _ HN.out (HA.out.below B1.out) HCK.out).mono ?_
  rintro e w2 ⟨rfl, rfl⟩
  rw [← HV.out]
  go_wp2_with fail
  refine (missed_no A n c D flags _ (Nat.le_trans HN.out.1 HN.out.2) (HA.out.below B1.out) HCK.out).mono ?_
  rintro e w2 ⟨rfl, rfl⟩
  rw [← HV.out]
  go_wp2_with fail
  refine (rmissed_no A n c D flags _ HN.out (HA.out.below B1.out) HCK.out).mono ?_
  rintro e w2 ⟨rfl, rfl⟩
  rw [← HV.out]
  go_wp2_with fail
  refine (sameHoists_nil _).mono ?_
  rintro e w2 ⟨rfl, hb2⟩
  have B2 := Lib.hid (Bl.tr B1.out hb2)
  clear hb2
  go_wp2_with fail
  refine (sameInts_nil _).mono ?_
  rintro e w3 ⟨rfl, hb3⟩
  have B3 := Lib.hid (Bl.tr B2.out hb3)
  clear hb3
  go_wp2_with fail
  refine (sameInts_nil _).mono ?_
  rintro e w4 ⟨rfl, hb4⟩
  have B4 := Lib.hid (Bl.tr B3.out hb4)
  clear hb4
  go_wp2_with fail
  have HB0 := Lib.hid (B4.out)
  refine (awake7_any _).mono ?_
  rintro e9 w9 ⟨rfl, hb9⟩
  go_wp2_with fail
  go_ret
  exact ⟨rfl, Bl.tr HB0.out hb9⟩
set_option maxRecDepth 100000 in
set_option maxHeartbeats 16000000 in
theorem hoists_walk_none (A : Option Addr) (n c : Nat) (D : Nat → Int) (L : Nat) (B : Option Addr) (m d : Nat) (H : Nat → Int) (w : World) (hn : n ≤ c ∧ c ≤ maxLen) (hA : Sl w A n D) (hm : m ≤ d ∧ d ≤ maxLen) (hB : Sl w B m H) (h1 : ¬ 100 < n) (h2 : ¬ 100 < m) (hv : vdB n D = true) (hL : L < 8192) (ht : hstL n D L = []) :
    Calls Try.prog 3 #[.slice A n c, .int .i64 (L : Int), .slice B m d] w fun e w' => e = .returned (.bool true) ∧ Bl w w' := by
  have HT := Lib.hid ht
  have HPS := Lib.hid (show posB n D L = false by unfold posB; rw [ht]; rfl)
  clear ht
  have HA := Lib.hid hA
  have HB := Lib.hid hB
  have HN := Lib.hid hn
  have HM := Lib.hid (Nat.le_trans hm.1 hm.2)
  have HV := Lib.hid hv
  have hn4 := (vdB_iff.1 hv).1.2
  have H4 := Lib.hid (show ∀ x, x ∈ hstL n D L → x.length ≤ 4 from fun x hx => by rw [hst_lens hx]; exact hn4)
  clear hA hn hB hm hv
  go_enter Try.func3, Try.ntmps3
  go_wp2_with fail
  refine (hoistsF_yes A n c D L _ (Nat.le_trans HN.out.1 HN.out.2) HA.out HV.out hL).mono ?_
  rintro e w1 ⟨v1, xs, rfl, hxs, ho1, hx5, hb1⟩
  obtain ⟨A1, k1, V1, rfl, hk1, hxk, hr1⟩ := rl_own ho1
  rw [hxs] at hr1
  have HX := Lib.hid (show xs.length = (hstL n D L).length by rw [← hxs, List.length_map])
  have HR1 := Lib.hid hr1
  have B1 := Lib.hid hb1
  obtain ⟨p, hp⟩ : ∃ p, p = xs.length := ⟨_, rfl⟩
  rw [← hp] at HR1 HX hxk hx5 ⊢
  unfold maxLen at hk1
  clear hxs ho1 hr1 hb1 hp
  go_wp2_with fail
  refine (rhoistsF_yes A n c D L _ HN.out (HA.out.below B1.out) HV.out hL).mono ?_
  rintro e w2 ⟨A2, k2, els, rfl, hels, hrr, hk2, hk2', hb2⟩
  have hl2 : els.length = p := by rw [HX.out, ← hels, List.length_map]
  obtain ⟨V2, hr2⟩ := rl_rr hrr (by rw [hels]; exact H4.out)
  rw [hels] at hr2
  rw [hl2] at hr2 hk2 ⊢
  have HR2 := Lib.hid hr2
  have HR12 := Lib.hid (HR1.out.below hb2)
  have B2 := Lib.hid (Bl.tr B1.out hb2)
  clear hels hrr hk2' hb2 hr2 hl2
  go_wp2_with fail
  refine (with_yes A n c D L _ (Nat.le_trans HN.out.1 HN.out.2) (HA.out.below B2.out) HV.out hL).mono ?_
  rintro e w3 ⟨hb3, ⟨-, rfl⟩ | ⟨x, r, g, q, ht, -⟩⟩
  rotate_left
  · rw [HT.out] at ht; cases ht
  have B3 := Lib.hid (Bl.tr B2.out hb3)
  have BX3 := Lib.hid hb3
  clear hb3
  go_wp2_with fail
  refine (rwith_yes A n c D L _ HN.out (HA.out.below B3.out) HV.out hL).mono ?_
  rintro e w4 ⟨hb4, ⟨-, rfl⟩ | ⟨x, r, v, ht, -⟩⟩
  rotate_left
  · rw [HT.out] at ht; cases ht
  have B4 := Lib.hid (Bl.tr B3.out hb4)
  have BX4 := Lib.hid (Bl.tr BX3.out hb4)
  clear hb4
  go_wp2_with fail
  refine (missed_yes A n c D L _ (Nat.le_trans HN.out.1 HN.out.2) (HA.out.below B4.out) HV.out hL).mono ?_
  rintro e w5 ⟨hb5, ⟨ht, -⟩ | ⟨-, v5, rfl, ho5⟩⟩
  · rw [HPS.out] at ht; cases ht
  have B5 := Lib.hid (Bl.tr B4.out hb5)
  have BX5 := Lib.hid (Bl.tr BX4.out hb5)
  have HO5 := Lib.hid ho5
  clear hb5 ho5
  go_wp2_with fail
  refine (rmissed_yes A n c D L _ HN.out (HA.out.below B5.out) HV.out hL).mono ?_
  rintro e w6 ⟨hb6, ⟨ht, -⟩ | ⟨-, v6, rfl, ho6⟩⟩
  · rw [HPS.out] at ht; cases ht
  have B6 := Lib.hid (Bl.tr B5.out hb6)
  have BX6 := Lib.hid (Bl.tr BX5.out hb6)
  have B56 := Lib.hid hb6
  have HO6 := Lib.hid ho6
  clear hb6 ho6
  go_wp2_with fail
  refine (sameHoists_eq A1 p k1 V1 A2 k2 V2 (fun j => (hstL n D L).getD j []) _ (by unfold maxLen; omega) (HR12.out.below BX6.out) (HR2.out.below BX6.out)).mono ?_
  rintro e w7 ⟨rfl, N7, rfl⟩
  have B7 := Lib.hid (Bl.tr B6.out (bl_dN7 _ N7))
  have BX7 := Lib.hid (Bl.tr BX6.out (bl_dN7 _ N7))
  obtain ⟨w7, hw7⟩ : ∃ w7, w7 = w6.drewN N7 := ⟨_, rfl⟩
  have B67 := Lib.hid (show Bl w6 w7 by rw [hw7]; exact bl_dN7 _ _)
  rw [← hw7] at B7 BX7 ⊢
  clear hw7
  go_wp2_with fail
  refine (sameInts_nil _).mono ?_
  rintro e w8 ⟨rfl, hb8⟩
  go_wp2_with fail
  refine (sameInts_rows HO5.out HO6.out (Bl.tr B56.out (Bl.tr B67.out hb8)) (Bl.tr B67.out hb8)).mono ?_
  rintro e w9 ⟨rfl, hb9⟩
  have BX9 := Lib.hid (Bl.tr BX7.out (Bl.tr hb8 hb9))
  have B9 := Lib.hid (Bl.tr B7.out (Bl.tr hb8 hb9))
  clear hb8 hb9
  go_wp2_with fail
  cases hvh : vhB m H with
  | false =>
    have HVH := Lib.hid hvh
    clear hvh
    refine (validHoist_any B m d H _ HM.out (HB.out.below B9.out)).mono ?_
    rintro e w10 ⟨rfl, rfl⟩
    rw [HVH.out]
    go_wp2_with fail
    have HB0 := Lib.hid (B9.out)
    refine (awake7_any _).mono ?_
    rintro e9 w9 ⟨rfl, hb9⟩
    go_wp2_with fail
    go_ret
    exact ⟨rfl, Bl.tr HB0.out hb9⟩
  | true =>
    have HVH := Lib.hid hvh
    have hpure := hoists_mem (L := L) HV.out hvh
    have HPU := Lib.hid (show anyB (hstL n D L) m H p = (sIB m (gI (dgs H m)) n D && outB (flgF H m) L) by rw [HX.out]; exact hpure)
    have hfl := flgF_lt (vhB_iff.1 hvh).2 (Nat.le_refl m)
    have HAN := Lib.hid (andNot_zero hfl hL)
    have HFL := Lib.hid (show flR m H = .tuple #[.int .i64 ((flgF H m : Nat) : Int), .int .i64 0] by unfold flR; rw [if_pos hvh])
    have HRX := Lib.hid (HR12.out.below BX9.out)
    clear hvh hpure
    refine (validHoist_any B m d H _ HM.out (HB.out.below B9.out)).mono ?_
    rintro e w10 ⟨rfl, rfl⟩
    rw [HVH.out]
    go_wp2_with fail
    go_loopw [19, 112] (fun v i wr => ∃ k : Nat, k ≤ p ∧ i = .int .i64 k ∧ v = .bool (anyB (hstL n D L) m H k) ∧ Bl w9 wr) (fun _ i _ => p - (RowKit.intOf i).toNat)
    case atStart => exact ⟨0, Nat.zero_le _, rfl, by rw [anyB_zero], Bl.rf _⟩
    case round =>
      obtain ⟨k, hk, rfl, rfl, hb⟩ := hrel
      have HBk := Lib.hid hb
      clear hb
      by_cases hlt : k < p
      · obtain ⟨b1, off1, e1, hbb1, hc1⟩ := HRX.out (by omega)
        subst e1
        obtain ⟨c1, s1, l1⟩ := hc1 k hlt
        have HAS := Lib.hid (anyB_succ (m := m) (H := H) (show k < (hstL n D L).length by rw [← HX.out]; exact hlt))
        obtain ⟨U1, U2, hU⟩ : ∃ U1 U2, V1 k = (U1, U2) := ⟨_, _, rfl⟩
        obtain ⟨l, hl⟩ : ∃ l, l = (hstL n D L).getD k [] := ⟨_, rfl⟩
        rw [hU] at c1 s1
        dsimp only at c1 s1 l1
        rw [← hl] at c1 s1 l1 HAS
        have c1' := kcb HBk.out c1
        have S1 := Lib.hid (s1.below HBk.out)
        have hbb1' := Nat.lt_of_lt_of_le hbb1 HBk.out.size
        clear hc1 hU hl c1 s1
        cases ha : anyB (hstL n D L) m H k with
        | true =>
          have HAK := Lib.hid ha
          clear ha
          go_wp2_with fail
          go_roundw
          case rel => exact ⟨k + 1, by omega, by go_num, by rw [HAS.out, HAK.out]; rfl, HBk.out⟩
          case measure => simp [RowKit.intOf]; omega
        | false =>
          have HAK := Lib.hid ha
          clear ha
          go_wp2_with fail
          refine (sameInts7_any U1 l.length U2 (gI l) B m d H _ (by unfold maxLen; omega) HM.out S1.out (HB.out.below (Bl.tr B9.out HBk.out))).mono ?_
          rintro e w11 ⟨rfl, N11, rfl⟩
          go_wp2_with fail
          go_roundw
          case rel => exact ⟨k + 1, by omega, by go_num, by rw [HAS.out, HAK.out]; simp, Bl.tr HBk.out (bl_dN7 _ _)⟩
          case measure => simp [RowKit.intOf]; omega
      · obtain rfl : k = p := by omega
        have B10 := Lib.hid (Bl.tr B9.out HBk.out)
        rw [HPU.out]
        go_wp2_with fail
        refine (means7_yes B m d H _ HM.out (HB.out.below B10.out) HVH.out).mono ?_
        rintro e w11 ⟨v4, rfl, ho4, hb4⟩
        obtain ⟨-, A4, c4, rfl, -, hc4, hs4⟩ := own_sl7 ho4
        have B11 := Lib.hid (Bl.tr B10.out hb4)
        have S4 := Lib.hid hs4
        clear hb4 ho4 hs4
        go_wp2_with fail
        refine (flags7_any B m d H _ HM.out (HB.out.below B11.out)).mono ?_
        rintro e w12 ⟨rfl, rfl⟩
        rw [HFL.out]
        go_wp2_with fail
        refine (sameInts7_any A4 m c4 (gI (dgs H m)) A n c D _ HM.out (Nat.le_trans HN.out.1 HN.out.2) S4.out (HA.out.below B11.out)).mono ?_
        rintro e w13 ⟨rfl, N13, rfl⟩
        have B13 := Lib.hid (Bl.tr B11.out (bl_dN7 _ N13))
        cases hq : sIB m (gI (dgs H m)) n D with
        | false =>
          clear hq
          go_wp2_with fail
          have HB0 := Lib.hid (B13.out)
          refine (awake7_any _).mono ?_
          rintro e9 w9 ⟨rfl, hb9⟩
          go_wp2_with fail
          go_ret
          exact ⟨rfl, Bl.tr HB0.out hb9⟩
        | true =>
          clear hq
          have han := HAN.out
          cases hz : outB (flgF H m) L with
          | false =>
            rw [hz] at han
            have han2 : ¬ bits .andNot .i64 ((flgF H m : Nat) : Int) (L : Int) = 0 := fun e => by rw [e] at han; cases han
            clear hz
            go_wp2_with fail
            have HB0 := Lib.hid (B13.out)
            refine (awake7_any _).mono ?_
            rintro e9 w9 ⟨rfl, hb9⟩
            go_wp2_with fail
            go_ret
            exact ⟨rfl, Bl.tr HB0.out hb9⟩
          | true =>
            rw [hz] at han
            have han2 : bits .andNot .i64 ((flgF H m : Nat) : Int) (L : Int) = 0 := beq_iff_eq.1 han
            clear hz
            go_wp2_with fail
            have HB0 := Lib.hid (B13.out)
            refine (awake7_any _).mono ?_
            rintro e9 w9 ⟨rfl, hb9⟩
            go_wp2_with fail
            go_ret
            exact ⟨rfl, Bl.tr HB0.out hb9⟩
set_option maxRecDepth 100000 in
set_option maxHeartbeats 16000000 in
theorem hoists_walk_some (A : Option Addr) (n c : Nat) (D : Nat → Int) (L : Nat) (B : Option Addr) (m d : Nat) (H : Nat → Int) (w : World) (hn : n ≤ c ∧ c ≤ maxLen) (hA : Sl w A n D) (hm : m ≤ d ∧ d ≤ maxLen) (hB : Sl w B m H) (h1 : ¬ 100 < n) (h2 : ¬ 100 < m) (hv : vdB n D = true) (hL : L < 8192) (ht : hstL n D L ≠ []) :
    Calls Try.prog 3 #[.slice A n c, .int .i64 (L : Int), .slice B m d] w fun e w' => e = .returned (.bool true) ∧ Bl w w' := by
  have HT := Lib.hid ht
  have HPS := Lib.hid (show posB n D L = true by unfold posB; cases h : hstL n D L with
    | nil => exact absurd h ht
    | cons a b => rfl)
  clear ht
  have HA := Lib.hid hA
  have HB := Lib.hid hB
  have HN := Lib.hid hn
  have HM := Lib.hid (Nat.le_trans hm.1 hm.2)
  have HV := Lib.hid hv
  have hn4 := (vdB_iff.1 hv).1.2
  have H4 := Lib.hid (show ∀ x, x ∈ hstL n D L → x.length ≤ 4 from fun x hx => by rw [hst_lens hx]; exact hn4)
  clear hA hn hB hm hv
  go_enter Try.func3, Try.ntmps3
  go_wp2_with fail
  refine (hoistsF_yes A n c D L _ (Nat.le_trans HN.out.1 HN.out.2) HA.out HV.out hL).mono ?_
  rintro e w1 ⟨v1, xs, rfl, hxs, ho1, hx5, hb1⟩
  obtain ⟨A1, k1, V1, rfl, hk1, hxk, hr1⟩ := rl_own ho1
  rw [hxs] at hr1
  have HX := Lib.hid (show xs.length = (hstL n D L).length by rw [← hxs, List.length_map])
  have HR1 := Lib.hid hr1
  have B1 := Lib.hid hb1
  obtain ⟨p, hp⟩ : ∃ p, p = xs.length := ⟨_, rfl⟩
  rw [← hp] at HR1 HX hxk hx5 ⊢
  unfold maxLen at hk1
  clear hxs ho1 hr1 hb1 hp
  go_wp2_with fail
  refine (rhoistsF_yes A n c D L _ HN.out (HA.out.below B1.out) HV.out hL).mono ?_
  rintro e w2 ⟨A2, k2, els, rfl, hels, hrr, hk2, hk2', hb2⟩
  have hl2 : els.length = p := by rw [HX.out, ← hels, List.length_map]
  obtain ⟨V2, hr2⟩ := rl_rr hrr (by rw [hels]; exact H4.out)
  rw [hels] at hr2
  rw [hl2] at hr2 hk2 ⊢
  have HR2 := Lib.hid hr2
  have HR12 := Lib.hid (HR1.out.below hb2)
  have B2 := Lib.hid (Bl.tr B1.out hb2)
  clear hels hrr hk2' hb2 hr2 hl2
  go_wp2_with fail
  refine (with_yes A n c D L _ (Nat.le_trans HN.out.1 HN.out.2) (HA.out.below B2.out) HV.out hL).mono ?_
  rintro e w3 ⟨hb3, ⟨ht, -⟩ | ⟨x, r, g, q, ht3, rfl, ho3⟩⟩
  · exact absurd ht HT.out
  have B3 := Lib.hid (Bl.tr B2.out hb3)
  have BX3 := Lib.hid hb3
  have HO3 := Lib.hid ho3
  have HT3 := Lib.hid ht3
  clear hb3 ho3 ht3
  go_wp2_with fail
  refine (rwith_yes A n c D L _ HN.out (HA.out.below B3.out) HV.out hL).mono ?_
  rintro e w4 ⟨hb4, ⟨ht, -⟩ | ⟨x4, r4, v4, ht4, rfl, ho4⟩⟩
  · exact absurd ht HT.out
  rw [HT3.out] at ht4
  injection ht4 with ht4 _
  subst ht4
  have B4 := Lib.hid (Bl.tr B3.out hb4)
  have BX4 := Lib.hid (Bl.tr BX3.out hb4)
  have HO4 := Lib.hid ho4
  have B34 := Lib.hid hb4
  clear hb4 ho4
  go_wp2_with fail
  refine (missed_yes A n c D L _ (Nat.le_trans HN.out.1 HN.out.2) (HA.out.below B4.out) HV.out hL).mono ?_
  rintro e w5 ⟨hb5, ⟨-, rfl⟩ | ⟨ht, -⟩⟩
  rotate_left
  · rw [HPS.out] at ht; cases ht
  have B5 := Lib.hid (Bl.tr B4.out hb5)
  have BX5 := Lib.hid (Bl.tr BX4.out hb5)
  have B45 := Lib.hid hb5
  clear hb5
  go_wp2_with fail
  refine (rmissed_yes A n c D L _ HN.out (HA.out.below B5.out) HV.out hL).mono ?_
  rintro e w6 ⟨hb6, ⟨-, rfl⟩ | ⟨ht, -⟩⟩
  rotate_left
  · rw [HPS.out] at ht; cases ht
  have B6 := Lib.hid (Bl.tr B5.out hb6)
  have BX6 := Lib.hid (Bl.tr BX5.out hb6)
  have B46 := Lib.hid (Bl.tr B45.out hb6)
  clear hb6
  go_wp2_with fail
  refine (sameHoists_eq A1 p k1 V1 A2 k2 V2 (fun j => (hstL n D L).getD j []) _ (by unfold maxLen; omega) (HR12.out.below BX6.out) (HR2.out.below BX6.out)).mono ?_
  rintro e w7 ⟨rfl, N7, rfl⟩
  have B7 := Lib.hid (Bl.tr B6.out (bl_dN7 _ N7))
  have BX7 := Lib.hid (Bl.tr BX6.out (bl_dN7 _ N7))
  obtain ⟨w7, hw7⟩ : ∃ w7, w7 = w6.drewN N7 := ⟨_, rfl⟩
  have B67 := Lib.hid (show Bl w6 w7 by rw [hw7]; exact bl_dN7 _ _)
  rw [← hw7] at B7 BX7 ⊢
  clear hw7
  go_wp2_with fail
  refine (sameInts_rows HO3.out HO4.out (Bl.tr B34.out (Bl.tr B46.out B67.out)) (Bl.tr B46.out B67.out)).mono ?_
  rintro e w8 ⟨rfl, hb8⟩
  go_wp2_with fail
  refine (sameInts_nil _).mono ?_
  rintro e w9 ⟨rfl, hb9⟩
  have BX9 := Lib.hid (Bl.tr BX7.out (Bl.tr hb8 hb9))
  have B9 := Lib.hid (Bl.tr B7.out (Bl.tr hb8 hb9))
  clear hb8 hb9
  go_wp2_with fail
  cases hvh : vhB m H with
  | false =>
    have HVH := Lib.hid hvh
    clear hvh
    refine (validHoist_any B m d H _ HM.out (HB.out.below B9.out)).mono ?_
    rintro e w10 ⟨rfl, rfl⟩
    rw [HVH.out]
    go_wp2_with fail
    have HB0 := Lib.hid (B9.out)
    refine (awake7_any _).mono ?_
    rintro e9 w9 ⟨rfl, hb9⟩
    go_wp2_with fail
    go_ret
    exact ⟨rfl, Bl.tr HB0.out hb9⟩
  | true =>
    have HVH := Lib.hid hvh
    have hpure := hoists_mem (L := L) HV.out hvh
    have HPU := Lib.hid (show anyB (hstL n D L) m H p = (sIB m (gI (dgs H m)) n D && outB (flgF H m) L) by rw [HX.out]; exact hpure)
    have hfl := flgF_lt (vhB_iff.1 hvh).2 (Nat.le_refl m)
    have HAN := Lib.hid (andNot_zero hfl hL)
    have HFL := Lib.hid (show flR m H = .tuple #[.int .i64 ((flgF H m : Nat) : Int), .int .i64 0] by unfold flR; rw [if_pos hvh])
    have HRX := Lib.hid (HR12.out.below BX9.out)
    clear hvh hpure
    refine (validHoist_any B m d H _ HM.out (HB.out.below B9.out)).mono ?_
    rintro e w10 ⟨rfl, rfl⟩
    rw [HVH.out]
    go_wp2_with fail
    go_loopw [19, 112] (fun v i wr => ∃ k : Nat, k ≤ p ∧ i = .int .i64 k ∧ v = .bool (anyB (hstL n D L) m H k) ∧ Bl w9 wr) (fun _ i _ => p - (RowKit.intOf i).toNat)
    case atStart => exact ⟨0, Nat.zero_le _, rfl, by rw [anyB_zero], Bl.rf _⟩
    case round =>
      obtain ⟨k, hk, rfl, rfl, hb⟩ := hrel
      have HBk := Lib.hid hb
      clear hb
      by_cases hlt : k < p
      · obtain ⟨b1, off1, e1, hbb1, hc1⟩ := HRX.out (by omega)
        subst e1
        obtain ⟨c1, s1, l1⟩ := hc1 k hlt
        have HAS := Lib.hid (anyB_succ (m := m) (H := H) (show k < (hstL n D L).length by rw [← HX.out]; exact hlt))
        obtain ⟨U1, U2, hU⟩ : ∃ U1 U2, V1 k = (U1, U2) := ⟨_, _, rfl⟩
        obtain ⟨l, hl⟩ : ∃ l, l = (hstL n D L).getD k [] := ⟨_, rfl⟩
        rw [hU] at c1 s1
        dsimp only at c1 s1 l1
        rw [← hl] at c1 s1 l1 HAS
        have c1' := kcb HBk.out c1
        have S1 := Lib.hid (s1.below HBk.out)
        have hbb1' := Nat.lt_of_lt_of_le hbb1 HBk.out.size
        clear hc1 hU hl c1 s1
        cases ha : anyB (hstL n D L) m H k with
        | true =>
          have HAK := Lib.hid ha
          clear ha
          go_wp2_with fail
          go_roundw
          case rel => exact ⟨k + 1, by omega, by go_num, by rw [HAS.out, HAK.out]; rfl, HBk.out⟩
          case measure => simp [RowKit.intOf]; omega
        | false =>
          have HAK := Lib.hid ha
          clear ha
          go_wp2_with fail
          refine (sameInts7_any U1 l.length U2 (gI l) B m d H _ (by unfold maxLen; omega) HM.out S1.out (HB.out.below (Bl.tr B9.out HBk.out))).mono ?_
          rintro e w11 ⟨rfl, N11, rfl⟩
          go_wp2_with fail
          go_roundw
          case rel => exact ⟨k + 1, by omega, by go_num, by rw [HAS.out, HAK.out]; simp, Bl.tr HBk.out (bl_dN7 _ _)⟩
          case measure => simp [RowKit.intOf]; omega
      · obtain rfl : k = p := by omega
        have B10 := Lib.hid (Bl.tr B9.out HBk.out)
        rw [HPU.out]
        go_wp2_with fail
        refine (means7_yes B m d H _ HM.out (HB.out.below B10.out) HVH.out).mono ?_
        rintro e w11 ⟨v4, rfl, ho4, hb4⟩
        obtain ⟨-, A4, c4, rfl, -, hc4, hs4⟩ := own_sl7 ho4
        have B11 := Lib.hid (Bl.tr B10.out hb4)
        have S4 := Lib.hid hs4
        clear hb4 ho4 hs4
        go_wp2_with fail
        refine (flags7_any B m d H _ HM.out (HB.out.below B11.out)).mono ?_
        rintro e w12 ⟨rfl, rfl⟩
        rw [HFL.out]
        go_wp2_with fail
        refine (sameInts7_any A4 m c4 (gI (dgs H m)) A n c D _ HM.out (Nat.le_trans HN.out.1 HN.out.2) S4.out (HA.out.below B11.out)).mono ?_
        rintro e w13 ⟨rfl, N13, rfl⟩
        have B13 := Lib.hid (Bl.tr B11.out (bl_dN7 _ N13))
        cases hq : sIB m (gI (dgs H m)) n D with
        | false =>
          clear hq
          go_wp2_with fail
          have HB0 := Lib.hid (B13.out)
          refine (awake7_any _).mono ?_
          rintro e9 w9 ⟨rfl, hb9⟩
          go_wp2_with fail
          go_ret
          exact ⟨rfl, Bl.tr HB0.out hb9⟩
        | true =>
          clear hq
          have han := HAN.out
          cases hz : outB (flgF H m) L with
          | false =>
            rw [hz] at han
            have han2 : ¬ bits .andNot .i64 ((flgF H m : Nat) : Int) (L : Int) = 0 := fun e => by rw [e] at han; cases han
            clear hz
            go_wp2_with fail
            have HB0 := Lib.hid (B13.out)
            refine (awake7_any _).mono ?_
            rintro e9 w9 ⟨rfl, hb9⟩
            go_wp2_with fail
            go_ret
            exact ⟨rfl, Bl.tr HB0.out hb9⟩
          | true =>
            rw [hz] at han
            have han2 : bits .andNot .i64 ((flgF H m : Nat) : Int) (L : Int) = 0 := beq_iff_eq.1 han
            clear hz
            go_wp2_with fail
            have HB0 := Lib.hid (B13.out)
            refine (awake7_any _).mono ?_
            rintro e9 w9 ⟨rfl, hb9⟩
            go_wp2_with fail
            go_ret
            exact ⟨rfl, Bl.tr HB0.out hb9⟩
set_option maxRecDepth 100000 in
set_option maxHeartbeats 16000000 in
theorem hoists_walk (A : Option Addr) (n c : Nat) (D : Nat → Int) (flags : Int) (B : Option Addr) (m d : Nat) (H : Nat → Int) (w : World) (hn : n ≤ c ∧ c ≤ maxLen) (hA : Sl w A n D) (hm : m ≤ d ∧ d ≤ maxLen) (hB : Sl w B m H) :
    Calls Try.prog 3 #[.slice A n c, .int .i64 flags, .slice B m d] w fun e w' => e = .returned (.bool true) ∧ Bl w w' := by
  have n1 : n ≤ 9223372036854775807 := by have := hn.2; unfold maxLen at this; omega
  have n2 : m ≤ 9223372036854775807 := by have := hm.2; unfold maxLen at this; omega
  by_cases h1 : 100 < n
  · clear hA hB hn hm
    go_enter Try.func3, Try.ntmps3
    go_wp2_with fail
    have HB0 := Lib.hid (Bl.rf w)
    refine (awake7_any _).mono ?_
    rintro e9 w9 ⟨rfl, hb9⟩
    go_wp2_with fail
    go_ret
    exact ⟨rfl, Bl.tr HB0.out hb9⟩
  · by_cases h2 : 100 < m
    · clear hA hB hn hm
      go_enter Try.func3, Try.ntmps3
      go_wp2_with fail
      have HB0 := Lib.hid (Bl.rf w)
      refine (awake7_any _).mono ?_
      rintro e9 w9 ⟨rfl, hb9⟩
      go_wp2_with fail
      go_ret
      exact ⟨rfl, Bl.tr HB0.out hb9⟩
    · by_cases hck : ckV n D flags = 0
      · obtain ⟨hv, L, rfl, hL⟩ := hst_no hck
        by_cases ht : hstL n D L = []
        · exact hoists_walk_none A n c D L B m d H w hn hA hm hB h1 h2 hv hL ht
        · exact hoists_walk_some A n c D L B m d H w hn hA hm hB h1 h2 hv hL ht
      · exact hoists_walk_no A n c D flags B m d H w hn hA hm hB h1 h2 hck
end Go.Proofs.Ytdikflklkmfcfaa
