/-
  The walk of FlagUsual.
-/
import Derived.Test.YtfbkecdcdffbbaaFX
import Derived.Test.YtfbkecdcdffbbaaFZ
import Derived.Test.YtfbkecdcdffbbaaFV
namespace Go.Proofs.Ytfbkecdcdffbbaa
open Go.RowKit Go.Shelf
set_option linter.unusedSimpArgs false
set_option linter.unusedVariables false

theorem tre_congr (w1 w2 : Nat → Nat → Bool) (r : Nat) : ∀ (h d : List Nat) (L : Nat), (∀ p x, p < h.length + r → w1 p x = w2 p x) → tre w1 r h d L = tre w2 r h d L := by
  induction r with
  | zero => intro h d L _; rfl
  | succ r ih =>
    intro h d L hw
    rw [tre_to, tre_to]
    have hk : ∀ k, treTo w1 r h d L k = treTo w2 r h d L k := by
      intro k
      induction k with
      | zero => rfl
      | succ k ihk =>
        have hc : canB w1 h d L k = canB w2 h d L k := by unfold canB; rw [hw _ _ (by omega)]
        rw [treTo_succ, treTo_succ, ihk, hc, ih _ _ _ (fun p x hp => hw p x (by simp at hp; omega))]
    exact hk 13
theorem hstL_lst {n : Nat} {D : Nat → Int} (hd : dgTo D n = true) (L : Nat) : hstL n D L = hstL n (gI (lst D n)) L := tre_congr _ _ _ _ _ _ fun p x hp => by
  simp only [List.length_nil, Nat.zero_add] at hp
  unfold wnB
  rw [lst_at hp (dgTo_at hd hp).1]
theorem lst_lt {n : Nat} {D : Nat → Int} (hd : dgTo D n = true) : ∀ x, x ∈ lst D n → x < 10 := fun x hx => by
  obtain ⟨j, hj, rfl⟩ := List.mem_map.1 hx
  have := dgTo_at hd (List.mem_range.1 hj)
  omega
/-- The usual hoist is the only one; it is valid and means the number. -/
theorem usl_all {n : Nat} {D : Nat → Int} (hv : vdB n D = true) : hstL n D 8191 = [usl (lst D n)] ∧ (usl (lst D n)).length = n ∧ vhB n (gI (usl (lst D n))) = true ∧ dgs (gI (usl (lst D n))) n = lst D n := by
  obtain ⟨h14, hd⟩ := vdB_iff.1 hv
  have hc := chk_all (l := lst D n) (by rw [lst_len]; exact h14.1) (by rw [lst_len]; exact h14.2) (lst_lt hd)
  simp only [chkU, Bool.and_eq_true, beq_iff_eq, lst_len] at hc
  obtain ⟨⟨h1, h2⟩, h3⟩ := hc
  have hl : (usl (lst D n)).length = n := by
    have := tre_lens (wnB (gI (lst D n))) n [] [] 8191 (usl (lst D n)) (by rw [h1]; simp)
    simpa using this
  refine ⟨by rw [hstL_lst hd]; exact h1, hl, ?_, ?_⟩
  · unfold okH at h2; rwa [hl] at h2
  · unfold mnH at h3; rwa [hl] at h3
theorem one_of_map {α β : Type} {f : α → β} {l : List α} {y : β} (h : l.map f = [y]) : ∃ x, l = [x] ∧ f x = y := by
  cases l with
  | nil => cases h
  | cons x r =>
    cases r with
    | nil => exact ⟨x, rfl, by simpa using h⟩
    | cons z r => simp at h
theorem rhoist_no (A : Option Addr) (n c : Nat) (D : Nat → Int) (w : World) (hn : n ≤ maxLen) (hA : Sl w A n D) (hv : vdB n D = false) :
    Calls Try.prog 20 #[.slice A n c] w fun e w' => e = .returned (.tuple #[.slice none 0 0, .int .i64 1]) ∧ w = w' := by
  have HV := Lib.hid hv
  clear hv
  go_enter Try.func20, Try.ntmps20
  go_wp2_with fail
  refine (rvalidDigits_any A n c D _ hn hA).mono ?_
  rintro e w1 ⟨rfl, rfl⟩
  rw [HV.out]
  go_wp2_with fail
  go_ret2
  exact ⟨rfl, rfl⟩
set_option maxRecDepth 100000 in
set_option maxHeartbeats 16000000 in
theorem usual_walk (A : Option Addr) (n c : Nat) (D : Nat → Int) (w : World) (hn : n ≤ c ∧ c ≤ maxLen) (hA : Sl w A n D) :
    Calls Try.prog 4 #[.slice A n c] w fun e w' => e = .returned (.bool true) ∧ Bl w w' := by
  have HA := Lib.hid hA
  have HN := Lib.hid (Nat.le_trans hn.1 hn.2)
  have n1 : n ≤ 9223372036854775807 := by have := hn.2; unfold maxLen at this; omega
  clear hA hn
  by_cases h1 : 100 < n
  · go_enter Try.func4, Try.ntmps4
    go_wp2_with fail
    have HB0 := Lib.hid (Bl.rf w)
    refine (awake7_any _).mono ?_
    rintro e9 w9 ⟨rfl, hb9⟩
    go_wp2_with fail
    go_ret
    exact ⟨rfl, Bl.tr HB0.out hb9⟩
  · have h1' : n ≤ 100 := by omega
    clear h1
    cases hv : vdB n D with
    | false =>
      have HV := Lib.hid hv
      clear hv
      go_enter Try.func4, Try.ntmps4
      go_wp2_with fail
      refine (hoist_no A n c D _ HN.out HA.out HV.out).mono ?_
      rintro e w1 ⟨rfl, hb1⟩
      have B1 := Lib.hid hb1
      clear hb1
      go_wp2_with fail
      refine (rhoist_no A n c D _ HN.out (HA.out.below B1.out) HV.out).mono ?_
      rintro e w2 ⟨rfl, rfl⟩
      go_wp2_with fail
      refine (sameInts7_any none 0 0 (fun _ => 0) none 0 0 (fun _ => 0) _ (by decide) (by decide) (fun h => absurd h (by omega)) (fun h => absurd h (by omega))).mono ?_
      rintro e w3 ⟨rfl, N, rfl⟩
      rw [sIB_same (fun j _ => rfl)]
      go_wp2_with fail
      have HB0 := Lib.hid (Bl.tr B1.out (bl_dN _ N))
      refine (awake7_any _).mono ?_
      rintro e9 w9 ⟨rfl, hb9⟩
      go_wp2_with fail
      go_ret
      exact ⟨rfl, Bl.tr HB0.out hb9⟩
    | true =>
      have HV := Lib.hid hv
      obtain ⟨u1, u2, u3, u4⟩ := usl_all hv
      obtain ⟨h14, hd⟩ := vdB_iff.1 hv
      have HU1 := Lib.hid u1
      have HU3 := Lib.hid u3
      have HU4 := Lib.hid u4
      have HU2 := Lib.hid u2
      have HD := Lib.hid (show ∀ j, j < n → gI (lst D n) j = D j from fun j hj => lst_at hj (dgTo_at hd hj).1)
      have hn1 := h14.1
      clear hv u1 u3 u4 hd h14 u2
      go_enter Try.func4, Try.ntmps4
      go_wp2_with fail
      refine (hoist_yes A n c D _ HN.out HA.out HV.out).mono ?_
      rintro e w1 ⟨hb1, ⟨ht, rfl⟩ | ⟨h, r, g1, c1, ht, rfl, ho1⟩⟩
      · rw [HU1.out] at ht; cases ht
      · rw [HU1.out] at ht
        injection ht with e1 e2
        subst e1 e2
        rw [HU2.out] at ho1 ⊢
        obtain ⟨-, A1, c1', e1, -, hc1, hs1⟩ := own_sl7 ho1
        injection e1 with e11 _ e12
        subst e11 e12
        have B1 := Lib.hid hb1
        have S1 := Lib.hid hs1
        clear hb1 ho1 hs1
        go_wp2_with fail
        refine (rhoist_yes A n c D _ HN.out (HA.out.below B1.out) HV.out).mono ?_
        rintro e w2 ⟨v2, rfl, ho2, hb2⟩
        rw [HU2.out] at ho2
        obtain ⟨-, A2, c2, rfl, -, hc2, hs2⟩ := own_sl7 ho2
        have B2 := Lib.hid (Bl.tr B1.out hb2)
        have S1' := Lib.hid (S1.out.below hb2)
        have S2 := Lib.hid hs2
        clear hb2 ho2 hs2
        go_wp2_with fail
        refine (sameInts7_any _ n c1 (gI (usl (lst D n))) A2 n c2 (gI (usl (lst D n))) _ HN.out HN.out S1'.out S2.out).mono ?_
        rintro e w3 ⟨rfl, N, rfl⟩
        rw [sIB_same (fun j _ => rfl)]
        have B3 := Lib.hid (Bl.tr B2.out (bl_dN _ N))
        obtain ⟨W, hW⟩ : ∃ W, W = w2.drewN N := ⟨_, rfl⟩
        rw [← hW] at B3 ⊢
        have S3 := Lib.hid (show Sl W (some ⟨g1, 0, none⟩) n (gI (usl (lst D n))) from by rw [hW]; exact S1'.out.below (bl_dN _ N))
        clear hW
        go_wp2_with fail
        refine (means7_yes _ n c1 (gI (usl (lst D n))) _ HN.out S3.out HU3.out).mono ?_
        rintro e w4 ⟨v4, rfl, ho4, hb4⟩
        rw [HU4.out] at ho4
        obtain ⟨-, A4, c4, rfl, -, hc4, hs4⟩ := own_sl7 ho4
        have B4 := Lib.hid (Bl.tr B3.out hb4)
        have S4 := Lib.hid hs4
        have S14 := Lib.hid (S3.out.below hb4)
        clear hb4 ho4 hs4
        go_wp2_with fail
        refine (hoistsF_yes A n c D 8191 _ HN.out (HA.out.below B4.out) HV.out (by omega)).mono ?_
        rintro e w5 ⟨v5, xs, rfl, hxs, ho5, hl5, hb5⟩
        rw [HU1.out] at hxs
        obtain ⟨x, rfl, hx0⟩ := one_of_map hxs
        · have hx : x.2.2 = usl (lst D n) := hx0
          have B5 := Lib.hid (Bl.tr B4.out hb5)
          have S45 := Lib.hid (S4.out.below hb5)
          have S15 := Lib.hid (S14.out.below hb5)
          obtain ⟨hrow, hat⟩ := ho5
          have hax := (hat x (by simp)).1.1
          rw [hx, HU2.out] at hax
          obtain ⟨-, A6, c6, e6, -, hc6, hs6⟩ := own_sl7 hax
          injection e6 with e61 _ e62
          subst e61 e62
          have S6 := Lib.hid hs6
          obtain ⟨g5, c5, rfl⟩ := ownsRow_succ hrow
          have cx : w5.cell? ⟨g5, 0, none⟩ = some (.slice (some ⟨x.1, 0, none⟩) n x.2.1) := (hrow.cellAt 0 (by simp)).trans (by simp [hV, hx, HU2.out])
          clear hrow hat hax hs6 hxs hb5 hl5 hx
          go_wp2_with fail
          refine wp_loop_rounds 1 ?_
          rw [rounds_succ]
          go_wp2_with fail
          refine (sameInts7_any _ n x.2.1 (gI (usl (lst D n))) _ n c1 (gI (usl (lst D n))) _ HN.out HN.out S6.out S15.out).mono ?_
          rintro e w6 ⟨rfl, N6, rfl⟩
          rw [sIB_same (fun j _ => rfl)]
          go_wp2_with fail
          refine (validHoist_any _ n c1 (gI (usl (lst D n))) _ HN.out (S15.out.below (bl_dN _ N6))).mono ?_
          rintro e w7 ⟨rfl, rfl⟩
          rw [HU3.out]
          go_wp2_with fail
          refine (sameInts7_any A4 n c4 (gI (lst D n)) A n c D _ HN.out HN.out (S45.out.below (bl_dN _ N6)) (HA.out.below (Bl.tr B5.out (bl_dN _ N6)))).mono ?_
          rintro e w8 ⟨rfl, N8, rfl⟩
          rw [sIB_same HD.out]
          go_wp2_with fail
          have HB0 := Lib.hid (Bl.tr B5.out (bl_dN _ (N6 + N8)))
          refine (awake7_any _).mono ?_
          rintro e9 w9 ⟨rfl, hb9⟩
          go_wp2_with fail
          go_ret
          exact ⟨rfl, Bl.tr HB0.out hb9⟩
end Go.Proofs.Ytfbkecdcdffbbaa
