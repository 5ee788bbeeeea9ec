/-
  Scaled: the code's and the reference's are one; and the walk of the law on it.
-/
import Derived.Test.YtdelgijalnmehaaDoorAE
namespace Go.Proofs.YtdelgijalnmehaaDoor
open Go.RowKit Cal
set_option linter.unusedSimpArgs false
set_option linter.unusedVariables false

/-- The product of x and n / d, rounded down, where it is not far beyond the limit. -/
def pdE (x n d : Int) : Int × Bool := if ((x.natAbs * n.natAbs / d.toNat : Nat) : Int) ≤ 1000000000000 then (x * n / d, true) else (0, false)

theorem mul_sign (x n : Int) : x * n = if (decide (x < 0) != decide (n < 0)) then -((x.natAbs * n.natAbs : Nat) : Int) else ((x.natAbs * n.natAbs : Nat) : Int) := by
  rcases Int.natAbs_eq x with hx | hx <;> rcases Int.natAbs_eq n with hn | hn
  all_goals
    generalize x.natAbs = a at *
    generalize n.natAbs = b at *
    subst hx hn
    rw [Int.natCast_mul]
  · rw [decide_eq_false (by omega), decide_eq_false (by omega), if_neg (by decide)]
  · rcases Nat.eq_zero_or_pos b with rfl | hb
    · simp
    · rw [decide_eq_false (by omega), decide_eq_true (by omega), if_pos (by decide), Int.mul_neg]
  · rcases Nat.eq_zero_or_pos a with rfl | ha
    · simp
    · rw [decide_eq_true (by omega), decide_eq_false (by omega), if_pos (by decide), Int.neg_mul]
  · rcases Nat.eq_zero_or_pos a with rfl | ha
    · simp
    · rcases Nat.eq_zero_or_pos b with rfl | hb
      · simp
      · rw [decide_eq_true (by omega), decide_eq_true (by omega), if_neg (by decide), Int.neg_mul_neg]
theorem neg_div (P d : Nat) (h : 1 ≤ d) : (-(P : Int)) / (d : Int) = if 0 < P % d then -(((P / d : Nat) : Int) + 1) else -((P / d : Nat) : Int) := by
  have e := Nat.div_add_mod P d
  have hm := Nat.mod_lt P h
  split
  · rename_i hr
    refine ((Int.ediv_emod_unique (show (0 : Int) < d by omega)).2 (⟨?_, ?_, ?_⟩ : ((d - P % d : Nat) : Int) + (d : Int) * (-(((P / d : Nat) : Int) + 1)) = -(P : Int) ∧ 0 ≤ ((d - P % d : Nat) : Int) ∧ ((d - P % d : Nat) : Int) < d)).1
    · have : (P : Int) = (d : Int) * ((P / d : Nat) : Int) + ((P % d : Nat) : Int) := by rw [← Int.natCast_mul, ← Int.natCast_add, e]
      rw [Int.mul_neg, Int.mul_add]
      omega
    · omega
    · omega
  · rename_i hr
    have h0 : P % d = 0 := by omega
    refine ((Int.ediv_emod_unique (show (0 : Int) < d by omega)).2 (⟨?_, by omega, by omega⟩ : (0 : Int) + (d : Int) * (-((P / d : Nat) : Int)) = -(P : Int) ∧ (0 : Int) ≤ 0 ∧ (0 : Int) < d)).1
    have : (P : Int) = (d : Int) * ((P / d : Nat) : Int) := by rw [← Int.natCast_mul]; omega
    rw [Int.mul_neg]; omega

theorem pdF_E (x n : Int) (P hi d : Nat) (h : x.natAbs * n.natAbs = P) (hd : 1 ≤ d) (hd2 : d ≤ 1000000000) (hhi : hi = P / 18446744073709551616) : pdF (decide (x < 0) != decide (n < 0)) hi (P / d) (P % d) d = pdE x n d := by
  have hq : P / 18446744073709551616 * 18446744073709551616 ≤ P := Nat.div_mul_le_self _ _
  unfold pdF pdE
  rw [mul_sign, h, Int.toNat_natCast]
  have e1 := neg_div P d hd
  have e2 := Int.natCast_ediv P d
  have hge : (d : Int) ≤ (hi : Int) → 18446744073709551616 ≤ P / d := fun h1 => by
    rw [Nat.le_div_iff_mul_le hd, Nat.mul_comm]
    exact Nat.le_trans (Nat.mul_le_mul_right _ (show d ≤ P / 18446744073709551616 by omega)) hq
  generalize P / d = q at e1 e2 hge ⊢
  by_cases h1 : (d : Int) ≤ (hi : Int)
  · have := hge h1
    rw [if_pos h1, if_neg (by omega)]
  · rw [if_neg h1]
    by_cases h2 : 1000000000000 < (q : Int)
    · rw [if_pos h2, if_neg (by omega)]
    · rw [if_neg h2, if_pos (show (q : Int) ≤ 1000000000000 by omega)]
      by_cases hb : (decide (x < 0) != decide (n < 0)) = true
      · simp only [if_pos hb]
        rw [e1]
        by_cases hr : 0 < P % d
        · simp only [if_pos hr]
        · simp only [if_neg hr]
      · simp only [if_neg hb]
        rw [e2]

theorem pdAtE (x n d : Int) (x1 : -1000000000000 ≤ x) (x2 : x ≤ 1000000000000) (n1 : -1000000000 ≤ n) (n2 : n ≤ 1000000000) (d1 : 1 ≤ d) (d2 : d ≤ 1000000000) : PdAt x n d (pdE x n d) := fun w => by
  obtain ⟨k, rfl⟩ := Int.eq_ofNat_of_zero_le (show 0 ≤ d by omega)
  have hP : x.natAbs * n.natAbs ≤ 1000000000000 * 1000000000 := Nat.mul_le_mul (by omega) (by omega)
  obtain ⟨P, hPe⟩ : ∃ P, x.natAbs * n.natAbs = P := ⟨_, rfl⟩
  rw [hPe] at hP
  have hT : P / 18446744073709551616 * 18446744073709551616 + P % 18446744073709551616 = P := by omega
  rw [← pdF_E x n P (P / 18446744073709551616) k hPe (by omega) (by omega) rfl]
  refine pd_any x n k (P / 18446744073709551616) (P % 18446744073709551616) (P / k) (P % k) w x1 x2 n1 n2 d1 d2 (by rw [hPe]) (by rw [hPe]) (by omega) (Nat.lt_of_lt_of_le (Nat.mod_lt _ (by omega)) (by omega)) (fun hlt => ?_)
  have := divAt (P / 18446744073709551616) (P % 18446744073709551616) k (by omega) (by omega) (by omega) (by omega)
  rw [hT] at this
  exact this

theorem abs_div_le {a b : Int} {d : Nat} (hd : 1 ≤ d) (h : a.natAbs ≤ b.natAbs) : a.natAbs / d ≤ b.natAbs / d := Nat.div_le_div_right h

/-- Where the product is near, the reference has it. -/
theorem rprF_near (x n : Int) (d : Nat) (d1 : 1 ≤ d) (n1 : -1000000000 ≤ n) (n2 : n ≤ 1000000000) (h : ((x.natAbs * n.natAbs / d : Nat) : Int) ≤ 1000000000000) : rprF x n d = x * n / d := by
  unfold rprF
  by_cases hn : n = 0
  · rw [if_pos hn, hn]; simp
  · rw [if_neg hn]
    by_cases hs : 4000000000000 / max n (-n) < max (x / d) (-(x / d))
    · exfalso
      have hm : max n (-n) = (n.natAbs : Int) := by omega
      have hz : max (x / d) (-(x / d)) = ((x / d).natAbs : Int) := by omega
      rw [hm, hz] at hs
      have hn0 : (0 : Int) < (n.natAbs : Int) := by omega
      have h4 : (4000000000000 : Int) < ((x / d).natAbs : Int) * (n.natAbs : Int) := by
        have := Int.lt_ediv_add_one_mul_self 4000000000000 hn0
        have h5 : (4000000000000 / (n.natAbs : Int) + 1) * (n.natAbs : Int) ≤ ((x / d).natAbs : Int) * (n.natAbs : Int) := Int.mul_le_mul_of_nonneg_right (by omega) (by omega)
        omega
      -- |x| is at least (|q| - 1) * d
      have hq : (((x / d).natAbs - 1) * d) ≤ x.natAbs := by
        have e1 := Int.ediv_mul_le x (show (d : Int) ≠ 0 by omega)
        have e2 := Int.lt_ediv_add_one_mul_self x (show (0 : Int) < d by omega)
        rcases Int.le_total 0 (x / d) with h0 | h0
        · obtain ⟨q, hq⟩ := Int.eq_ofNat_of_zero_le h0
          rw [hq] at e1 ⊢
          rw [Int.natAbs_natCast]
          have : (q - 1) * d ≤ q * d := Nat.mul_le_mul_right _ (by omega)
          have e3 : ((q * d : Nat) : Int) ≤ x := by rw [Int.natCast_mul]; exact e1
          omega
        · obtain ⟨q, hq⟩ := Int.eq_ofNat_of_zero_le (show 0 ≤ -(x / d) by omega)
          have hq' : x / d = -(q : Int) := by omega
          rw [hq'] at e2 ⊢
          rw [Int.natAbs_neg, Int.natAbs_natCast]
          rcases Nat.eq_zero_or_pos q with rfl | hqp
          · simp
          · have e3 : (-(q : Int) + 1) * (d : Int) = -(((q - 1) * d : Nat) : Int) := by
              rw [Int.natCast_mul, ← Int.neg_mul]
              congr 1; omega
            rw [e3] at e2
            omega
      have h5 : ((x / d).natAbs - 1) * n.natAbs ≤ x.natAbs * n.natAbs / d := by
        rw [Nat.le_div_iff_mul_le d1]
        have := Nat.mul_le_mul_right n.natAbs hq
        have e : ((x / d).natAbs - 1) * n.natAbs * d = ((x / d).natAbs - 1) * d * n.natAbs := by grind
        omega
      have h6 : ((x / d).natAbs - 1) * n.natAbs + n.natAbs ≥ (x / d).natAbs * n.natAbs := by
        generalize (x / d).natAbs = q
        rcases Nat.eq_zero_or_pos q with rfl | hqp
        · simp
        · obtain ⟨k, rfl⟩ : ∃ k, q = k + 1 := ⟨q - 1, by omega⟩
          rw [Nat.add_sub_cancel, Nat.add_mul]; omega
      have h7 : (((x / d).natAbs * n.natAbs : Nat) : Int) = ((x / d).natAbs : Int) * (n.natAbs : Int) := Int.natCast_mul _ _
      omega
    · rw [if_neg hs]
/-- Where it is far, it is beyond the limit, and so is the reference's. -/
theorem rprF_far (x n : Int) (d : Nat) (d1 : 1 ≤ d) (h : ¬ ((x.natAbs * n.natAbs / d : Nat) : Int) ≤ 1000000000000) : rprF x n d < -1000000000000 ∨ 1000000000000 < rprF x n d := by
  have hv : x * n / d < -1000000000000 ∨ 1000000000000 < x * n / (d : Int) := by
    rw [mul_sign]
    generalize x.natAbs * n.natAbs = P at h ⊢
    split
    · left
      rw [neg_div P d d1]
      split <;> omega
    · right
      rw [← Int.natCast_ediv]; omega
  unfold rprF
  by_cases hn : n = 0
  · subst hn; simp at h
  · rw [if_neg hn]
    split
    · split <;> omega
    · exact hv

theorem floor_le_ceil {a b : Int} {d : Int} (hd : 0 < d) (h : a ≤ b) : a / d ≤ -(-b / d) := by
  have h1 : a / d ≤ b / d := Int.ediv_le_ediv hd h
  have h2 : -b / d ≤ -(b / d) := by
    have e1 := Int.ediv_mul_le b (show d ≠ 0 by omega)
    have : -b ≤ -(b / d) * d := by rw [Int.neg_mul]; omega
    exact Int.ediv_le_of_le_mul hd this
  omega
theorem sc_eq (lo hi n : Int) (d : Nat) (d1 : 1 ≤ d) (d2 : d ≤ 1000000000) (n1 : -1000000000 ≤ n) (n2 : n ≤ 1000000000) (hle : lo * n ≤ hi * n) : scF (pdE lo n d) (pdE (-hi) n d) = chkF (rprF lo n d) (-(rprF (-hi) n d)) := by
  have bad : ∀ x y : Int, (x < -1000000000000 ∨ 1000000000000 < x) ∨ (y < -1000000000000 ∨ 1000000000000 < y) → chkF x (-y) = (0, 0, 4) := fun x y h => by
    unfold chkF
    rw [if_neg]
    intro hv
    have := vS_iff.1 hv
    omega
  unfold pdE
  rw [Int.toNat_natCast]
  by_cases h1 : ((lo.natAbs * n.natAbs / d : Nat) : Int) ≤ 1000000000000
  · rw [if_pos h1]
    by_cases h2 : (((-hi).natAbs * n.natAbs / d : Nat) : Int) ≤ 1000000000000
    · rw [if_pos h2, rprF_near lo n d d1 n1 n2 h1, rprF_near (-hi) n d d1 n1 n2 h2]
      have := floor_le_ceil (d := d) (by omega) hle
      rw [show scF (lo * n / (d : Int), true) (-hi * n / (d : Int), true) = limF (lo * n / d) (-(-hi * n / d)) from rfl, Int.neg_mul, chk_eq_lim this]
    · rw [if_neg h2, bad _ _ (.inr (rprF_far (-hi) n d d1 h2))]; rfl
  · rw [if_neg h1, bad _ _ (.inl (rprF_far lo n d d1 h1))]; rfl

/-- The code's Scaled and the reference's answer alike. -/
theorem scaled_both (al ah n d : Int) : ∃ q1 q2 q3 : Int,
    (∀ w, Calls Tryd.prog 12 #[.agg #[.int .i64 al, .int .i64 ah], .agg #[.int .i64 n, .int .i64 d]] w fun e w' => e = .returned (.tuple #[.agg #[.int .i64 q1, .int .i64 q2], .int .i64 q3]) ∧ Bl w w') ∧
    (∀ w, Calls Tryd.prog 13 #[.agg #[.int .i64 al, .int .i64 ah], .agg #[.int .i64 n, .int .i64 d]] w fun e w' => e = .returned (.tuple #[.agg #[.int .i64 q1, .int .i64 q2], .int .i64 q3]) ∧ Bl w w') := by
  by_cases h : (vS al ah && vR n d) = true
  · have h' : vS al ah = true ∧ vR n d = true := by simpa using h
    obtain ⟨hva, hvr⟩ := h'
    obtain ⟨a1, a2, a3⟩ := vS_iff.1 hva
    obtain ⟨⟨d1, d2, n1, n2⟩, -⟩ := vR_iff.1 hvr
    obtain ⟨k, rfl⟩ := Int.eq_ofNat_of_zero_le (show 0 ≤ d by omega)
    by_cases hn : n < 0
    · have hle : ah * n ≤ al * n := Int.mul_le_mul_of_nonpos_right a2 (by omega)
      have hb : -4000000000000 ≤ (pdE (-al) n k).1 ∧ (pdE (-al) n k).1 ≤ 4000000000000 := by
        unfold pdE; split
        · rename_i hx
          rw [Int.toNat_natCast] at hx
          show -4000000000000 ≤ -al * n / (k : Int) ∧ -al * n / (k : Int) ≤ 4000000000000
          rw [mul_sign]
          generalize (-al).natAbs * n.natAbs = P at hx ⊢
          have e1 := neg_div P k (by omega)
          have e2 := Int.natCast_ediv P k
          generalize P / k = q at hx e1 e2
          split
          · rw [e1]; split <;> omega
          · rw [← e2]; omega
        · simp
      refine ⟨_, _, _, fun w => (scaled_neg al ah n k _ _ w hva hvr hn (pdAtE ah n k (by omega) (by omega) n1 n2 d1 d2) (pdAtE (-al) n k (by omega) (by omega) n1 n2 d1 d2) hb), fun w => ?_⟩
      have := rscaled_neg al ah n k w hva hvr hn
      rw [← sc_eq ah al n k (by omega) (by omega) n1 n2 hle] at this
      exact this
    · have hle : al * n ≤ ah * n := Int.mul_le_mul_of_nonneg_right a2 (by omega)
      have hb : -4000000000000 ≤ (pdE (-ah) n k).1 ∧ (pdE (-ah) n k).1 ≤ 4000000000000 := by
        unfold pdE; split
        · rename_i hx
          rw [Int.toNat_natCast] at hx
          show -4000000000000 ≤ -ah * n / (k : Int) ∧ -ah * n / (k : Int) ≤ 4000000000000
          rw [mul_sign]
          generalize (-ah).natAbs * n.natAbs = P at hx ⊢
          have e1 := neg_div P k (by omega)
          have e2 := Int.natCast_ediv P k
          generalize P / k = q at hx e1 e2
          split
          · rw [e1]; split <;> omega
          · rw [← e2]; omega
        · simp
      refine ⟨_, _, _, fun w => (scaled_pos al ah n k _ _ w hva hvr (by omega) (pdAtE al n k (by omega) (by omega) n1 n2 d1 d2) (pdAtE (-ah) n k (by omega) (by omega) n1 n2 d1 d2) hb), fun w => ?_⟩
      have := rscaled_pos al ah n k w hva hvr (by omega)
      rw [← sc_eq al ah n k (by omega) (by omega) n1 n2 hle] at this
      exact this
  · have h : (vS al ah && vR n d) = false := by simpa using h
    exact ⟨0, 0, 1, fun w => scaled_bad al ah n d w h, fun w => rscaled_bad al ah n d w h⟩


set_option maxHeartbeats 800000 in
theorem scales_walk (al ah n d : Int) (w : World) (hM : Mo w) :
    Calls Tryd.prog 4 #[.agg #[.int .i64 al, .int .i64 ah], .agg #[.int .i64 n, .int .i64 d]] w fun e w' => e = .returned (.bool true) ∧ Bl w w' := by
  obtain ⟨q1, q2, q3, C1, C2⟩ := scaled_both al ah n d
  have H1 := Lib.hid C1
  have H2 := Lib.hid C2
  clear C1 C2
  have HM := Lib.hid hM
  clear hM
  go_enter Tryd.func4, Tryd.ntmps4
  go_wp2_with fail
  refine (H1.out _).mono ?_
  rintro e w1 ⟨rfl, hb⟩
  obtain ⟨ka0, ka1, kaf, kag, kal⟩ := kept2 (b := w.heap.size) (x := .int .i64 al) (y := .int .i64 ah) hb ⟨by go_cell, by go_cell, (by (try simp only [frozen?_alloc_cells, World.frozen?_setCell, fz_drew, fz_drewN]); first | assumption | exact frozen_beyond (by (try simp only [World.size_alloc, World.size_setCell, World.size_drew, sz_drewN]); omega)), (by (try simp only [frozen?_alloc_cells, World.frozen?_setCell, fz_drew, fz_drewN]); first | assumption | exact frozen_beyond (by (try simp only [World.size_alloc, World.size_setCell, World.size_drew, sz_drewN]); omega)), (by (try simp only [World.size_alloc, World.size_setCell, World.size_drew, sz_drewN]); omega)⟩
  obtain ⟨kb0, kb1, kbf, kbg, kbl⟩ := kept2 (b := w.heap.size + 1) (x := .int .i64 n) (y := .int .i64 d) hb ⟨by go_cell, by go_cell, (by (try simp only [frozen?_alloc_cells, World.frozen?_setCell, fz_drew, fz_drewN]); first | assumption | exact frozen_beyond (by (try simp only [World.size_alloc, World.size_setCell, World.size_drew, sz_drewN]); omega)), (by (try simp only [frozen?_alloc_cells, World.frozen?_setCell, fz_drew, fz_drewN]); first | assumption | exact frozen_beyond (by (try simp only [World.size_alloc, World.size_setCell, World.size_drew, sz_drewN]); omega)), (by (try simp only [World.size_alloc, World.size_setCell, World.size_drew, sz_drewN]); omega)⟩
  have B1 : Bl w w1 := Bl.tr (by go_grown) hb
  have z1 := B1.size
  clear hb
  go_wp2_with fail
  refine (H2.out _).mono ?_
  rintro e w2 ⟨rfl, hb⟩
  obtain ⟨kx0, kx1, kxf, kxg, kxl⟩ := kept2 (b := w1.heap.size) (x := .int .i64 q1) (y := .int .i64 q2) hb ⟨by go_cell, by go_cell, (by (try simp only [frozen?_alloc_cells, World.frozen?_setCell, fz_drew, fz_drewN]); first | assumption | exact frozen_beyond (by (try simp only [World.size_alloc, World.size_setCell, World.size_drew, sz_drewN]); omega)), (by (try simp only [frozen?_alloc_cells, World.frozen?_setCell, fz_drew, fz_drewN]); first | assumption | exact frozen_beyond (by (try simp only [World.size_alloc, World.size_setCell, World.size_drew, sz_drewN]); omega)), (by (try simp only [World.size_alloc, World.size_setCell, World.size_drew, sz_drewN]); omega)⟩
  have B2 : Bl w w2 := Below.trans (by go_grown) (hb.mono (by (try simp only [World.size_alloc, World.size_setCell, World.size_drew, sz_drewN]); omega))
  have z2 := B2.size
  clear hb
  go_wp2_with fail
  refine (awake_any _ (HM.out.below (by go_grown))).mono ?_
  rintro e w3 ⟨rfl, hb⟩
  have B3 : Bl w w3 := Below.trans (by go_grown) (hb.mono (by (try simp only [World.size_alloc, World.size_setCell, World.size_drew, sz_drewN]); omega))
  have z3 := B3.size
  clear hb
  go_wp2
  go_ret
  exact ⟨rfl, by go_grown⟩
end Go.Proofs.YtdelgijalnmehaaDoor
