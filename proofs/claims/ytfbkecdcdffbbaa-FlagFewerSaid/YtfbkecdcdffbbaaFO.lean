/-
  The walk of FlagFewer.
-/
import Derived.Test.YtfbkecdcdffbbaaFX
import Derived.Test.YtfbkecdcdffbbaaFN
namespace Go.Proofs.Ytfbkecdcdffbbaa
open Go.RowKit Go.Shelf
set_option linter.unusedSimpArgs false
set_option linter.unusedVariables false

theorem tre_sub (want : Nat → Nat → Bool) (r : Nat) : ∀ (h d : List Nat) (L L' : Nat), (∀ f, hasB L f = true → hasB L' f = true) → (tre want r h d L).Sublist (tre want r h d L') := by
  induction r with
  | zero => intro h d L L' _; exact List.Sublist.refl _
  | succ r ih =>
    intro h d L L' hL
    have hk : ∀ k, (treTo want r h d L k).Sublist (treTo want r h d L' k) := by
      intro k
      induction k with
      | zero => exact List.Sublist.refl _
      | succ k ihk =>
        rw [treTo_succ, treTo_succ]
        refine ihk.append ?_
        cases hc : canB want h d L k with
        | false => rw [if_neg (by simp)]; exact List.nil_sublist _
        | true =>
          have hc' : canB want h d L' k = true := by
            simp only [canB, Bool.and_eq_true] at hc ⊢
            exact ⟨⟨hL k hc.1.1, hc.1.2⟩, hc.2⟩
          rw [if_pos rfl, if_pos hc']
          refine ih _ _ _ _ fun f hf => ?_
          rw [hasB_clr, Bool.and_eq_true] at hf ⊢
          exact ⟨hL f hf.1, hf.2⟩
    rw [tre_to, tre_to]
    exact hk 13
theorem or_has (L M f : Nat) (h : hasB L f = true) : hasB (L ||| M) f = true := by
  unfold hasB at *
  rw [Nat.testBit_or, h]; rfl
theorem or_lt {L M : Nat} (h : L < 8192) (h' : M < 8192) : L ||| M < 8192 := by
  have e : (8192 : Nat) = 2 ^ 13 := by decide
  rw [e] at h h' ⊢
  exact Nat.or_lt_two_pow h h'
theorem bits_orN {L M : Nat} (h : L < 8192) (h' : M < 8192) : bits .or .i64 (L : Int) (M : Int) = ((L ||| M : Nat) : Int) := by
  show IntKind.i64.wrap ((BitVec.ofInt 64 (L : Int) ||| BitVec.ofInt 64 (M : Int)).toNat : Int) = _
  rw [BitVec.toNat_or, ofInt_u64 L (by omega), ofInt_u64 M (by omega)]
  exact Lib.wrap_i64_small _ (by have := or_lt h h'; omega)
theorem can_pair (n : Int) {L M : Nat} (h : L < 8192) (h' : M < 8192) : ∃ a b g : Int, canV n (L : Int) = .tuple #[.int .i64 a, .int .i64 g] ∧ canV n ((L ||| M : Nat) : Int) = .tuple #[.int .i64 b, .int .i64 g] ∧ a ≤ b := by
  have i1 : inB (L : Int) 0 8191 = true := inB_iff.2 (by omega)
  have i2 : inB ((L ||| M : Nat) : Int) 0 8191 = true := inB_iff.2 (by have := or_lt h h'; omega)
  by_cases hn : inB n 1 4 = true
  · refine ⟨_, _, _, by rw [canV, if_pos ⟨hn, i1⟩], by rw [canV, if_pos ⟨hn, i2⟩], ?_⟩
    have := (tre_sub allW n.toNat [] [] L (L ||| M) (fun f => or_has L M f)).length_le
    simp only [Int.toNat_natCast, canL]
    omega
  · exact ⟨_, _, _, by rw [canV, if_neg (fun h => hn h.1)], by rw [canV, if_neg (fun h => hn h.1)], Int.le_refl _⟩
set_option maxRecDepth 100000 in
set_option maxHeartbeats 16000000 in
theorem fewer_walk (A : Option Addr) (n c : Nat) (D : Nat → Int) (flags more len : Int) (w : World) (hn : n ≤ c ∧ c ≤ maxLen) (hA : Sl w A n D) :
    Calls Try.prog 6 #[.slice A n c, .int .i64 flags, .int .i64 more, .int .i64 len] w fun e w' => e = .returned (.bool true) ∧ Bl w w' := by
  have HA := Lib.hid hA
  have HN := Lib.hid (Nat.le_trans hn.1 hn.2)
  have n1 : n ≤ 9223372036854775807 := by have := hn.2; unfold maxLen at this; omega
  clear hA hn
  by_cases h1 : 100 < n
  · go_enter Try.func6, Try.ntmps6
    go_wp2_with fail
    have HB0 := Lib.hid (Bl.rf w)
    refine (awake7_any _).mono ?_
    rintro e9 w9 ⟨rfl, hb9⟩
    go_wp2_with fail
    go_ret
    exact ⟨rfl, Bl.tr HB0.out hb9⟩
  · have h1' : n ≤ 100 := by omega
    clear h1
    by_cases f0 : flags < 0
    · go_enter Try.func6, Try.ntmps6
      go_wp2_with fail
      have HB0 := Lib.hid (Bl.rf w)
      refine (awake7_any _).mono ?_
      rintro e9 w9 ⟨rfl, hb9⟩
      go_wp2_with fail
      go_ret
      exact ⟨rfl, Bl.tr HB0.out hb9⟩
    · have f0' : 0 ≤ flags := by omega
      clear f0
      by_cases f1 : 8191 < flags
      · go_enter Try.func6, Try.ntmps6
        go_wp2_with fail
        have HB0 := Lib.hid (Bl.rf w)
        refine (awake7_any _).mono ?_
        rintro e9 w9 ⟨rfl, hb9⟩
        go_wp2_with fail
        go_ret
        exact ⟨rfl, Bl.tr HB0.out hb9⟩
      · have f1' : flags ≤ 8191 := by omega
        clear f1
        by_cases m0 : more < 0
        · go_enter Try.func6, Try.ntmps6
          go_wp2_with fail
          have HB0 := Lib.hid (Bl.rf w)
          refine (awake7_any _).mono ?_
          rintro e9 w9 ⟨rfl, hb9⟩
          go_wp2_with fail
          go_ret
          exact ⟨rfl, Bl.tr HB0.out hb9⟩
        · have m0' : 0 ≤ more := by omega
          clear m0
          by_cases m1 : 8191 < more
          · go_enter Try.func6, Try.ntmps6
            go_wp2_with fail
            have HB0 := Lib.hid (Bl.rf w)
            refine (awake7_any _).mono ?_
            rintro e9 w9 ⟨rfl, hb9⟩
            go_wp2_with fail
            go_ret
            exact ⟨rfl, Bl.tr HB0.out hb9⟩
          · have m1' : more ≤ 8191 := by omega
            clear m1
            obtain ⟨L, rfl⟩ := Int.eq_ofNat_of_zero_le f0'
            obtain ⟨M, rfl⟩ := Int.eq_ofNat_of_zero_le m0'
            have hL : L < 8192 := by omega
            have hM : M < 8192 := by omega
            have hLM := or_lt hL hM
            have HOR := Lib.hid (bits_orN hL hM)
            obtain ⟨a, b, g, hc1, hc2, hab⟩ := can_pair len hL hM
            have HC1 := Lib.hid hc1
            have HC2 := Lib.hid hc2
            have gg : (g == g) = true := by simp
            clear hc1 hc2
            cases hv : vdB n D with
            | false =>
              have HK := Lib.hid (show ∀ L : Int, ckV n D L = 1 from fun L => by rw [ckV, hv]; rfl)
              clear hv
              go_enter Try.func6, Try.ntmps6
              go_wp2_with fail
              refine (with_no A n c D (L : Int) _ HN.out HA.out (by rw [HK.out]; decide)).mono ?_
              rintro e w1 ⟨rfl, hb1⟩
              rw [HK.out]
              have B1 := Lib.hid hb1
              clear hb1
              go_wp2_with fail
              rw [HOR.out]
              refine (with_no A n c D _ _ HN.out (HA.out.below B1.out) (by rw [HK.out]; decide)).mono ?_
              rintro e w2 ⟨rfl, hb2⟩
              rw [HK.out]
              have B2 := Lib.hid (Bl.tr B1.out hb2)
              clear hb2
              go_wp2_with fail
              refine (can7_any len (L : Int) _).mono ?_
              rintro e w3 ⟨rfl, hb3⟩
              rw [HC1.out]
              have B3 := Lib.hid (Bl.tr B2.out hb3)
              clear hb3
              go_wp2_with fail
              rw [HOR.out]
              refine (can7_any len _ _).mono ?_
              rintro e w4 ⟨rfl, hb4⟩
              rw [HC2.out]
              have B4 := Lib.hid (Bl.tr B3.out hb4)
              clear hb4
              go_wp2_with fail
              have HB0 := Lib.hid (B4.out)
              refine (awake7_any _).mono ?_
              rintro e9 w9 ⟨rfl, hb9⟩
              go_wp2_with fail
              go_ret
              exact ⟨rfl, Bl.tr HB0.out hb9⟩
            | true =>
              have HV := Lib.hid hv
              have HSUB := Lib.hid (show hstL n D L ≠ [] → hstL n D (L ||| M) ≠ [] from fun h e => by
                have := (tre_sub (wnB D) n [] [] L (L ||| M) (fun f => or_has L M f))
                unfold hstL at e h
                rw [e] at this
                exact h (List.sublist_nil.1 this))
              clear hv
              go_enter Try.func6, Try.ntmps6
              go_wp2_with fail
              refine (with_yes A n c D L _ HN.out HA.out HV.out hL).mono ?_
              rintro e w1 ⟨hb1, ⟨ht1, rfl⟩ | ⟨x1, r1, g1, p1, ht1, rfl, -⟩⟩
              · have B1 := Lib.hid hb1
                clear hb1 ht1
                go_wp2_with fail
                rw [HOR.out]
                refine (with_yes A n c D (L ||| M) _ HN.out (HA.out.below B1.out) HV.out hLM).mono ?_
                rintro e w2 ⟨hb2, ⟨ht2, rfl⟩ | ⟨x2, r2, g2, p2, ht2, rfl, -⟩⟩
                · have B2 := Lib.hid (Bl.tr B1.out hb2)
                  clear hb2 ht2
                  go_wp2_with fail
                  refine (can7_any len (L : Int) _).mono ?_
                  rintro e w3 ⟨rfl, hb3⟩
                  rw [HC1.out]
                  have B3 := Lib.hid (Bl.tr B2.out hb3)
                  clear hb3
                  go_wp2_with fail
                  rw [HOR.out]
                  refine (can7_any len _ _).mono ?_
                  rintro e w4 ⟨rfl, hb4⟩
                  rw [HC2.out]
                  have B4 := Lib.hid (Bl.tr B3.out hb4)
                  clear hb4
                  go_wp2_with fail
                  have HB0 := Lib.hid (B4.out)
                  refine (awake7_any _).mono ?_
                  rintro e9 w9 ⟨rfl, hb9⟩
                  go_wp2_with fail
                  go_ret
                  exact ⟨rfl, Bl.tr HB0.out hb9⟩
                · have B2 := Lib.hid (Bl.tr B1.out hb2)
                  clear hb2 ht2
                  go_wp2_with fail
                  refine (can7_any len (L : Int) _).mono ?_
                  rintro e w3 ⟨rfl, hb3⟩
                  rw [HC1.out]
                  have B3 := Lib.hid (Bl.tr B2.out hb3)
                  clear hb3
                  go_wp2_with fail
                  rw [HOR.out]
                  refine (can7_any len _ _).mono ?_
                  rintro e w4 ⟨rfl, hb4⟩
                  rw [HC2.out]
                  have B4 := Lib.hid (Bl.tr B3.out hb4)
                  clear hb4
                  go_wp2_with fail
                  have HB0 := Lib.hid (B4.out)
                  refine (awake7_any _).mono ?_
                  rintro e9 w9 ⟨rfl, hb9⟩
                  go_wp2_with fail
                  go_ret
                  exact ⟨rfl, Bl.tr HB0.out hb9⟩
              · have B1 := Lib.hid hb1
                have HT1 := Lib.hid ht1
                clear hb1 ht1
                go_wp2_with fail
                rw [HOR.out]
                refine (with_yes A n c D (L ||| M) _ HN.out (HA.out.below B1.out) HV.out hLM).mono ?_
                rintro e w2 ⟨hb2, ⟨ht2, rfl⟩ | ⟨x2, r2, g2, p2, ht2, rfl, -⟩⟩
                · exact absurd ht2 (HSUB.out (by rw [HT1.out]; simp))
                · have B2 := Lib.hid (Bl.tr B1.out hb2)
                  clear hb2 ht2
                  go_wp2_with fail
                  refine (can7_any len (L : Int) _).mono ?_
                  rintro e w3 ⟨rfl, hb3⟩
                  rw [HC1.out]
                  have B3 := Lib.hid (Bl.tr B2.out hb3)
                  clear hb3
                  go_wp2_with fail
                  rw [HOR.out]
                  refine (can7_any len _ _).mono ?_
                  rintro e w4 ⟨rfl, hb4⟩
                  rw [HC2.out]
                  have B4 := Lib.hid (Bl.tr B3.out hb4)
                  clear hb4
                  go_wp2_with fail
                  have HB0 := Lib.hid (B4.out)
                  refine (awake7_any _).mono ?_
                  rintro e9 w9 ⟨rfl, hb9⟩
                  go_wp2_with fail
                  go_ret
                  exact ⟨rfl, Bl.tr HB0.out hb9⟩
end Go.Proofs.Ytfbkecdcdffbbaa
