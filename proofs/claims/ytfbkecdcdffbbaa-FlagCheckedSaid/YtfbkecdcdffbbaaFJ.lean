/-
  The walk of FlagChecked.
-/
import Derived.Test.YtfbkecdcdffbbaaFX
import Derived.Test.YtfbkecdcdffbbaaFI
namespace Go.Proofs.Ytfbkecdcdffbbaa
open Go.RowKit Go.Shelf
set_option linter.unusedSimpArgs false
set_option linter.unusedVariables false

theorem sum_list {l : List Nat} {k : Nat} (h : k ≤ l.length) (m : List Nat) : sumF (gI (l ++ m)) k = sumF (gI l) k := sumF_congr fun j hj => gI_left (by omega)
theorem gI_set (l : List Nat) (p q j : Nat) (hp : p < l.length) : gI (l.set p q) j = if j = p then (q : Int) else gI l j := by
  unfold gI
  rw [List.getD_eq_getElem?_getD, List.getD_eq_getElem?_getD, List.getElem?_set]
  by_cases e : p = j
  · subst e; simp [hp]
  · rw [if_neg e, if_neg (fun h => e h.symm)]
theorem sum_set (l : List Nat) (p q : Nat) (hp : p < l.length) (k : Nat) : sumF (gI (l.set p q)) k = sumF (gI l) k + (if p < k then (q : Int) - gI l p else 0) := by
  induction k with
  | zero => simp [sumF]
  | succ k ih =>
    rw [sumF, sumF, ih, gI_set _ _ _ _ hp]
    by_cases e : k = p
    · subst e; simp; omega
    · rw [if_neg e]
      by_cases h : p < k
      · rw [if_pos h, if_pos (by omega)]; omega
      · rw [if_neg h, if_neg (by omega)]; omega
/-- What is checked. -/
def chk (D : Nat → Int) (n : Nat) : List Nat := lst D n ++ [addD D n]
theorem chk_len (D : Nat → Int) (n : Nat) : (chk D n).length = n + 1 := by simp [chk, lst_len]
theorem chk_dg {D : Nat → Int} {n : Nat} (hd : dgTo D n = true) : dgTo (gI (chk D n)) (n + 1) = true := dgTo_of fun k hk => by
  by_cases e : k = n
  · subst e
    have h := gI_last (lst D k) (addD D k)
    rw [lst_len] at h
    rw [chk, h]
    unfold addD; omega
  · rw [chk, gI_left (by rw [lst_len]; omega), lst_at (by omega) (dgTo_at hd (by omega)).1]
    exact dgTo_at hd (by omega)
theorem chk_sum {D : Nat → Int} {n : Nat} (hd : dgTo D n = true) : sumF (gI (chk D n)) (n + 1) % 10 = 0 := by
  have h := gI_last (lst D n) (addD D n)
  rw [lst_len] at h
  have h2 : sumF (gI (chk D n)) n = sumF D n := by
    rw [chk, sum_list (by rw [lst_len]; omega)]
    exact sumF_congr fun j hj => lst_at hj (dgTo_at hd hj).1
  rw [sumF, h2, chk, h]
  have := sumF_bd hd (Nat.le_refl n)
  unfold addD; omega
theorem chk_right {D : Nat → Int} {n : Nat} (hd : dgTo D n = true) (hn : n ≤ 3) : rgV (n + 1) (gI (chk D n)) = .tuple #[.bool true, .int .i64 0] := by
  have hv : vdB (n + 1) (gI (chk D n)) = true := vdB_iff.2 ⟨by omega, chk_dg hd⟩
  rw [rgV, if_pos hv, chk_sum hd]; rfl
theorem chk_wrong {D : Nat → Int} {n p q : Nat} (hd : dgTo D n = true) (hn : n ≤ 3) (hp : p < n + 1) (hq : q ≤ 9) (hne : gI (chk D n) p ≠ q) : rgV (n + 1) (gI ((chk D n).set p q)) = .tuple #[.bool false, .int .i64 0] := by
  have hl : p < (chk D n).length := by rw [chk_len]; exact hp
  have hv : vdB (n + 1) (gI ((chk D n).set p q)) = true := vdB_iff.2 ⟨by omega, dgTo_of fun k hk => by
    rw [gI_set _ _ _ _ hl]
    split
    · omega
    · exact dgTo_at (chk_dg hd) hk⟩
  rw [rgV, if_pos hv]
  have h := sum_set (chk D n) p q hl (n + 1)
  rw [if_pos hp] at h
  have h0 := chk_sum hd
  have h1 := dgTo_at (chk_dg hd) hp
  have : (sumF (gI ((chk D n).set p q)) (n + 1) % 10 == 0) = false := beq_eq_false_iff_ne.2 (by rw [h]; omega)
  rw [this]
theorem inN_set (l : List Nat) (p q : Nat) : (inN l).set p (.int .i64 (q : Int)) = inN (l.set p q) := by simp [inN, List.map_set]
theorem rgV_shape (n : Nat) (D : Nat → Int) : ∃ (b : Bool) (k : Int), rgV n D = .tuple #[.bool b, .int .i64 k] := by
  unfold rgV; split
  · exact ⟨_, _, rfl⟩
  · exact ⟨_, _, rfl⟩

set_option maxRecDepth 100000 in
set_option maxHeartbeats 16000000 in
theorem checked_walk (A : Option Addr) (n c : Nat) (D : Nat → Int) (place digit : Int) (w : World) (hn : n ≤ c ∧ c ≤ maxLen) (hA : Sl w A n D) :
    Calls Try.prog 8 #[.slice A n c, .int .i64 place, .int .i64 digit] w fun e w' => e = .returned (.bool true) ∧ Bl w w' := by
  have HA := Lib.hid hA
  have HN := Lib.hid (Nat.le_trans hn.1 hn.2)
  have n1 : n ≤ 9223372036854775807 := by have := hn.2; unfold maxLen at this; omega
  clear hA hn
  by_cases h1 : 100 < n
  · go_enter Try.func8, Try.ntmps8
    go_wp2_with fail
    have HB0 := Lib.hid (Bl.rf w)
    refine (awake7_any _).mono ?_
    rintro e9 w9 ⟨rfl, hb9⟩
    go_wp2_with fail
    go_ret
    exact ⟨rfl, Bl.tr HB0.out hb9⟩
  · have h1' : n ≤ 100 := by omega
    clear h1
    obtain ⟨b, k, hbk⟩ := rgV_shape n D
    have HRG := Lib.hid hbk
    have bb : (b != b) = false := by simp
    have kk : (k != k) = false := by simp
    clear hbk
    by_cases hck : ckE n D = 0
    · have HCK := Lib.hid hck
      have hv : vdB n D = true := by
        cases h : vdB n D with
        | true => rfl
        | false => rw [ckE, h] at hck; simp at hck
      have hn4 : n ≠ 4 := fun h => by rw [ckE, hv, if_pos rfl, if_pos h] at hck; cases hck
      obtain ⟨h14, hd⟩ := vdB_iff.1 hv
      have n3 : n ≤ 3 := by omega
      have HD := Lib.hid hd
      have HRT := Lib.hid (chk_right hd n3)
      clear hck hv hd hn4 h14
      go_enter Try.func8, Try.ntmps8
      go_wp2_with fail
      refine (checked7_yes A n c D _ HN.out HA.out HCK.out).mono ?_
      rintro e w1 ⟨g1, c1, rfl, ho1, hb1⟩
      obtain ⟨-, A1, c1', e1, hnc1, hc1, hs1⟩ := own_sl7 ho1
      injection e1 with e11 _ e12
      subst e11 e12
      have B1 := Lib.hid hb1
      have O1 := Lib.hid ho1
      have S1 := Lib.hid hs1
      clear ho1 hb1 hs1
      go_wp2_with fail
      refine (rchecked7_yes A n c D _ HN.out (HA.out.below B1.out) HCK.out).mono ?_
      rintro e w2 ⟨g2, c2, rfl, ho2, hb2⟩
      obtain ⟨-, A2, c2', e2, -, hc2, hs2⟩ := own_sl7 ho2
      injection e2 with e21 _ e22
      subst e21 e22
      have B2 := Lib.hid (Bl.tr B1.out hb2)
      have S2 := Lib.hid hs2
      have S1' := Lib.hid (S1.out.below hb2)
      have O1' := Lib.hid (own_same O1.out (fun g hg => hb2.block g (O1.out.lt g hg).2))
      clear ho2 hb2 hs2 hc2
      go_wp2_with fail
      refine (right7_any A n c D _ HN.out (HA.out.below B2.out)).mono ?_
      rintro e w3 ⟨rfl, rfl⟩
      rw [HRG.out]
      go_wp2_with fail
      refine (rright7_any A n c D _ HN.out (HA.out.below B2.out)).mono ?_
      rintro e w3 ⟨rfl, rfl⟩
      rw [HRG.out]
      go_wp2_with fail
      refine (sameInts7_any _ (n + 1) c1 (gI (chk D n)) _ (n + 1) c2 (gI (chk D n)) _ (by unfold maxLen; omega) (by unfold maxLen; omega) S1'.out S2.out).mono ?_
      rintro e w3 ⟨rfl, N, rfl⟩
      rw [sIB_same (fun j _ => rfl)]
      have B3 := Lib.hid (Bl.tr B2.out (bl_dN _ N))
      obtain ⟨W, hW⟩ : ∃ W, W = w2.drewN N := ⟨_, rfl⟩
      rw [← hW] at B3 ⊢
      have S3 := Lib.hid (show Sl W (some ⟨g1, 0, none⟩) (n + 1) (gI (chk D n)) from by rw [hW]; exact S1'.out.below (bl_dN _ N))
      have O3 := Lib.hid (show W.ownsRow w.heap.size 3 1 (.slice (some ⟨g1, 0, none⟩) (n + 1) c1) (n + 1) (inN (chk D n)) from by rw [hW]; exact own_same O1'.out (fun g hg => rfl))
      clear hW
      unfold maxLen at hc1
      go_wp2_with fail
      refine (right7_any _ (n + 1) c1 (gI (chk D n)) _ (by unfold maxLen; omega) S3.out).mono ?_
      rintro e w3 ⟨rfl, rfl⟩
      rw [HRT.out]
      by_cases p0 : place < 0
      · go_wp2_with fail
        have HB0 := Lib.hid (B3.out)
        refine (awake7_any _).mono ?_
        rintro e9 w9 ⟨rfl, hb9⟩
        go_wp2_with fail
        go_ret
        exact ⟨rfl, Bl.tr HB0.out hb9⟩
      · have p0' : 0 ≤ place := by omega
        clear p0
        by_cases p1 : (n : Int) + 1 ≤ place
        · go_wp2_with fail
          have HB0 := Lib.hid (B3.out)
          refine (awake7_any _).mono ?_
          rintro e9 w9 ⟨rfl, hb9⟩
          go_wp2_with fail
          go_ret
          exact ⟨rfl, Bl.tr HB0.out hb9⟩
        · have p1' : place < (n : Int) + 1 := by omega
          clear p1
          by_cases q0 : digit < 0
          · go_wp2_with fail
            have HB0 := Lib.hid (B3.out)
            refine (awake7_any _).mono ?_
            rintro e9 w9 ⟨rfl, hb9⟩
            go_wp2_with fail
            go_ret
            exact ⟨rfl, Bl.tr HB0.out hb9⟩
          · have q0' : 0 ≤ digit := by omega
            clear q0
            by_cases q1 : 9 < digit
            · go_wp2_with fail
              have HB0 := Lib.hid (B3.out)
              refine (awake7_any _).mono ?_
              rintro e9 w9 ⟨rfl, hb9⟩
              go_wp2_with fail
              go_ret
              exact ⟨rfl, Bl.tr HB0.out hb9⟩
            · have q1' : digit ≤ 9 := by omega
              clear q1
              obtain ⟨p, rfl⟩ := Int.eq_ofNat_of_zero_le p0'
              obtain ⟨q, rfl⟩ := Int.eq_ofNat_of_zero_le q0'
              have p1'' : p < n + 1 := by omega
              have cp : W.cell? ⟨g1, p, none⟩ = some (.int .i64 (gI (chk D n) p)) := (O3.out.cellAt p (by omega)).trans (inN_at (by rw [chk_len]; omega))
              have HQ := Lib.hid (fun h : gI (chk D n) p ≠ q => chk_wrong HD.out n3 p1'' (by omega) h)
              obtain ⟨v, hv⟩ : ∃ v, v = gI (chk D n) p := ⟨_, rfl⟩
              rw [← hv] at cp HQ
              clear hv
              have lg := World.block_lt_of_cell? W ⟨g1, p, none⟩ cp
              by_cases he : v = (q : Int)
              · have he' : (v == (q : Int)) = true := by simpa using he
                clear he
                go_wp2_with fail
                have HB0 := Lib.hid (B3.out)
                refine (awake7_any _).mono ?_
                rintro e9 w9 ⟨rfl, hb9⟩
                go_wp2_with fail
                go_ret
                exact ⟨rfl, Bl.tr HB0.out hb9⟩
              · have he' : (v == (q : Int)) = false := by simpa using he
                have HE := Lib.hid (HQ.out he)
                clear he
                obtain ⟨i0, hi0, hz0, hz1, hz2⟩ := info_parts7 int_info7
                have HI := Lib.hid (And.intro hi0 (And.intro hz0 (And.intro hz1 hz2)))
                clear hi0 hz0 hz1 hz2
                have HO0 := Lib.hid (lit_nil7 W)
                go_wp2_with (at_builtin; refine wpList_append_lies _ rfl _ _ _ rfl W.heap.size 3 i0 _ 1 8 Try.underlying22 HI.out.1 HI.out.2.1 HI.out.2.2.1 HI.out.2.2.2 rfl (by omega) _ 0 [] rfl HO0.out ⟨g1, 0, none⟩ (n + 1) c1 (inN (chk D n)) rfl (by rw [inN_len, chk_len]; omega) (in_news7 (chk_len _ _).symm (S3.out.below (by go_grown))) (inN_one _) (by omega) (by unfold maxLen; omega) (by omega) (by (try simp only [World.size_alloc]); omega) _ rfl ?_; intro gg cap w9 hown1 hgrow hat hlt9; have hown2 : w9.ownsRow W.heap.size 3 1 (.slice (some ⟨gg, 0, none⟩) (n + 1) cap) (n + 1) (inN (chk D n)) := (by have h := hown1; simp only [Nat.zero_add, List.nil_append] at h; exact h); have cg : w9.cell? ⟨gg, p, none⟩ = some (.int .i64 (gI (chk D n) p)) := (hown2.cellAt p (by omega)).trans (inN_at (by rw [chk_len]; omega)); have fg := hown2.frozenAt p; have HW2 := Lib.hid hown2; clear hown1 hown2)
                have hown2 := HW2.out
                have B9 : Bl W w9 := Below.grown (by go_grown) hgrow (by (try simp only [World.size_alloc]); omega) (fun j hj => by have hj : W.heap.size = j := Option.some.inj hj; omega)
                have hgg := (hown2.lt gg rfl).1
                have hst := (hown2.stored p (.int .i64 (q : Int))).1
                rw [inN_set] at hst
                obtain ⟨-, A5, c5, e5, -, hc5, hs5⟩ := own_sl7 hst
                injection e5 with e51 _ e52
                subst e51 e52
                have S5 := Lib.hid hs5
                have B5 := Lib.hid (Bl.tr B3.out (show Bl W (w9.setCell ⟨gg, p, none⟩ (.int .i64 (q : Int))) from B9.setCell (p := ⟨gg, p, none⟩) hgg _))
                clear hown2 hgrow hat hst hs5 B9
                (try simp only [Nat.zero_add])
                unfold maxLen at hc5
                go_wp2_with fail
                refine (right7_any _ (n + 1) cap (gI ((chk D n).set p q)) _ (by unfold maxLen; omega) S5.out).mono ?_
                rintro e w3 ⟨rfl, rfl⟩
                rw [HE.out]
                go_wp2_with fail
                have HB0 := Lib.hid (B5.out)
                refine (awake7_any _).mono ?_
                rintro e9 w9 ⟨rfl, hb9⟩
                go_wp2_with fail
                go_ret
                exact ⟨rfl, Bl.tr HB0.out hb9⟩
    · have HCK := Lib.hid hck
      obtain ⟨v, hv⟩ : ∃ v, v = ckE n D := ⟨_, rfl⟩
      have HV := Lib.hid hv
      have hv0 : v ≠ 0 := by rw [hv]; exact hck
      have vv : (v != v) = false := by simp
      have v0 : (v != 0) = true := by simp [hv0]
      clear hck hv hv0
      go_enter Try.func8, Try.ntmps8
      go_wp2_with fail
      refine (checked7_no A n c D _ HN.out HA.out HCK.out).mono ?_
      rintro e w1 ⟨rfl, rfl⟩
      rw [← HV.out]
      go_wp2_with fail
      refine (rchecked7_no A n c D _ HN.out HA.out HCK.out).mono ?_
      rintro e w1 ⟨rfl, rfl⟩
      rw [← HV.out]
      go_wp2_with fail
      refine (right7_any A n c D _ HN.out HA.out).mono ?_
      rintro e w3 ⟨rfl, rfl⟩
      rw [HRG.out]
      go_wp2_with fail
      refine (rright7_any A n c D _ HN.out HA.out).mono ?_
      rintro e w3 ⟨rfl, rfl⟩
      rw [HRG.out]
      go_wp2_with fail
      refine (sameInts7_any none 0 0 (fun _ => 0) none 0 0 (fun _ => 0) _ (by decide) (by decide) (fun h => absurd h (by omega)) (fun h => absurd h (by omega))).mono ?_
      rintro e w1 ⟨rfl, N, rfl⟩
      rw [sIB_same (fun j _ => rfl)]
      go_wp2_with fail
      have HB0 := Lib.hid (bl_dN w N)
      refine (awake7_any _).mono ?_
      rintro e9 w9 ⟨rfl, hb9⟩
      go_wp2_with fail
      go_ret
      exact ⟨rfl, Bl.tr HB0.out hb9⟩
end Go.Proofs.Ytfbkecdcdffbbaa
