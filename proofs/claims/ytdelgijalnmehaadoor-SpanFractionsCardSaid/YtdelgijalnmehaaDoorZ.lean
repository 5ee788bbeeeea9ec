/-
  Fractions as the law P1.2 wants them: what lowest terms keep, and that they are unique. No program.
-/
import Derived.Test.YtdelgijalnmehaaDoorH
namespace Go.Proofs.YtdelgijalnmehaaDoor
set_option linter.unusedSimpArgs false
set_option linter.unusedVariables false

theorem low_keeps {n d : Int} (h0 : 0 < d) : lowN n d * d = n * lowD n d := by
  have hg := gcd_pos' (n := n) (d := d) (by omega)
  unfold lowN lowD
  rw [if_neg (by omega), if_neg (by omega)]
  obtain ⟨a, ha⟩ : (Int.gcd n d : Int) ∣ n := Int.gcd_dvd_left _ _
  obtain ⟨b, hb⟩ : (Int.gcd n d : Int) ∣ d := Int.gcd_dvd_right _ _
  generalize (Int.gcd n d : Int) = g at *
  subst ha hb
  rw [Int.mul_ediv_cancel_left _ (by omega), Int.mul_ediv_cancel_left _ (by omega)]
  grind
theorem low_val {n d p q : Int} (h0 : 0 < d) (h : lowF n d = (p, q, 0)) : p * d = n * q ∧ 1 ≤ q ∧ (Int.gcd p q : Int) = 1 := by
  unfold lowF at h
  split at h
  · simp at h
  · simp at h
    obtain ⟨rfl, rfl⟩ := h
    obtain ⟨h1, h2⟩ := low_gcd (n := n) (d := d) (by omega)
    exact ⟨low_keeps h0, h2, h1⟩
theorem cop {a b c : Int} (h : a ∣ b * c) (g : Int.gcd a b = 1) : a ∣ c :=
  Int.natAbs_dvd_natAbs.1 (Nat.Coprime.dvd_of_dvd_mul_left (show Nat.Coprime a.natAbs b.natAbs from g) (by rw [← Int.natAbs_mul]; exact Int.natAbs_dvd_natAbs.2 h))
theorem low_uniq {p q p' q' : Int} (hq : 1 ≤ q) (hq' : 1 ≤ q') (hg : (Int.gcd p q : Int) = 1) (hg' : (Int.gcd p' q' : Int) = 1) (h : p * q' = p' * q) : p = p' ∧ q = q' := by
  have g1 : Int.gcd q p = 1 := by rw [Int.gcd_comm]; omega
  have g2 : Int.gcd q' p' = 1 := by rw [Int.gcd_comm]; omega
  have d1 : q ∣ p * q' := ⟨p', by grind⟩
  have d2 : q' ∣ p' * q := ⟨p, by grind⟩
  have e1 : q ∣ q' := cop d1 g1
  have e2 : q' ∣ q := cop d2 g2
  have l1 := Int.le_of_dvd (by omega) e1
  have l2 := Int.le_of_dvd (by omega) e2
  have e : q = q' := by omega
  subst e
  exact ⟨Int.eq_of_mul_eq_mul_right (by omega) h, rfl⟩
theorem add_comp {p q n d x y c e : Int} (hq : 1 ≤ q) (h1 : p * d = n * q) (h2 : x * (q * c) = (p * c + e * q) * y) : x * (d * c) = (n * c + e * d) * y :=
  Int.eq_of_mul_eq_mul_left (a := q) (by omega) (by grind)
theorem mul_comp {p q n d x y c e : Int} (hq : 1 ≤ q) (h1 : p * d = n * q) (h2 : x * (q * c) = (p * e) * y) : x * (d * c) = (n * e) * y :=
  Int.eq_of_mul_eq_mul_left (a := q) (by omega) (by grind)
theorem add_assoc' {an ad bn bd cn cd p q r s x y x' y' : Int} (ha : 1 ≤ ad) (hb : 1 ≤ bd) (hc : 1 ≤ cd)
    (h1 : lowF (an * bd + bn * ad) (ad * bd) = (p, q, 0)) (h2 : lowF (bn * cd + cn * bd) (bd * cd) = (r, s, 0))
    (h3 : lowF (p * cd + cn * q) (q * cd) = (x, y, 0)) (h4 : lowF (an * s + r * ad) (ad * s) = (x', y', 0)) : x = x' ∧ y = y' := by
  obtain ⟨k1, q1, _⟩ := low_val (Int.mul_pos (by omega) (by omega)) h1
  obtain ⟨k2, q2, _⟩ := low_val (Int.mul_pos (by omega) (by omega)) h2
  obtain ⟨k3, q3, g3⟩ := low_val (Int.mul_pos (by omega) (by omega)) h3
  obtain ⟨k4, q4, g4⟩ := low_val (Int.mul_pos (by omega) (by omega)) h4
  refine low_uniq q3 q4 g3 g4 ?_
  have m1 := add_comp q1 k1 k3
  have m2 : x' * (bd * cd * ad) = ((bn * cd + cn * bd) * ad + an * (bd * cd)) * y' := add_comp q2 k2 (by grind)
  have hD : 1 ≤ ad * bd * cd := by have := Int.mul_pos (show 0 < ad by omega) (show 0 < bd by omega); have := Int.mul_pos this (show 0 < cd by omega); omega
  refine Int.eq_of_mul_eq_mul_left (a := ad * bd * cd) (by omega) ?_
  have n1 : x * (ad * bd * cd) = (an * bd * cd + bn * ad * cd + cn * ad * bd) * y := by grind
  have n2 : x' * (ad * bd * cd) = (an * bd * cd + bn * ad * cd + cn * ad * bd) * y' := by grind
  grind
theorem distrib' {an ad bn bd cn cd p q r s u v x y x' y' : Int} (ha : 1 ≤ ad) (hb : 1 ≤ bd) (hc : 1 ≤ cd)
    (h1 : lowF (an * bd + bn * ad) (ad * bd) = (p, q, 0)) (h2 : lowF (an * cn) (ad * cd) = (r, s, 0)) (h3 : lowF (bn * cn) (bd * cd) = (u, v, 0))
    (h4 : lowF (p * cn) (q * cd) = (x, y, 0)) (h5 : lowF (r * v + u * s) (s * v) = (x', y', 0)) : x = x' ∧ y = y' := by
  obtain ⟨k1, q1, _⟩ := low_val (Int.mul_pos (by omega) (by omega)) h1
  obtain ⟨k2, q2, _⟩ := low_val (Int.mul_pos (by omega) (by omega)) h2
  obtain ⟨k3, q3, _⟩ := low_val (Int.mul_pos (by omega) (by omega)) h3
  obtain ⟨k4, q4, g4⟩ := low_val (Int.mul_pos (by omega) (by omega)) h4
  obtain ⟨k5, q5, g5⟩ := low_val (Int.mul_pos (by omega) (by omega)) h5
  refine low_uniq q4 q5 g4 g5 ?_
  have m1 := mul_comp q1 k1 k4
  have m2 := add_comp q2 k2 k5
  have m3 : x' * (bd * cd * (ad * cd)) = ((bn * cn) * (ad * cd) + (an * cn) * (bd * cd)) * y' := add_comp q3 k3 (by grind)
  have hD : 1 ≤ ad * bd * cd := by have := Int.mul_pos (show 0 < ad by omega) (show 0 < bd by omega); have := Int.mul_pos this (show 0 < cd by omega); omega
  have hE := Int.mul_pos (show 0 < ad * bd * cd by omega) (show 0 < cd by omega)
  refine Int.eq_of_mul_eq_mul_left (a := ad * bd * cd) (by omega) ?_
  have n1 : x * (ad * bd * cd) = ((an * bd + bn * ad) * cn) * y := by grind
  have n2 : x' * (ad * bd * cd) = ((an * bd + bn * ad) * cn) * y' := Int.eq_of_mul_eq_mul_left (a := cd) (by omega) (by grind)
  grind
theorem ord_neg (x y : Int) : ordF y x = -ordF x y := by unfold ordF; (repeat' split) <;> omega
theorem ord_zero (x y : Int) : ordF x y = 0 ↔ x = y := by unfold ordF; (repeat' split) <;> omega
theorem ord_le (x y : Int) : ordF x y ≤ 0 ↔ x ≤ y := by unfold ordF; (repeat' split) <;> omega
theorem ord_ge (x y : Int) : 0 ≤ ordF x y ↔ y ≤ x := by unfold ordF; (repeat' split) <;> omega
theorem ord_bd (x y : Int) : -1 ≤ ordF x y ∧ ordF x y ≤ 1 := by unfold ordF; (repeat' split) <;> omega
theorem le_trans' {an ad bn bd cn cd : Int} (ha : 1 ≤ ad) (hb : 1 ≤ bd) (hc : 1 ≤ cd) (h1 : an * bd ≤ bn * ad) (h2 : bn * cd ≤ cn * bd) : an * cd ≤ cn * ad := by
  have k1 := Int.mul_le_mul_of_nonneg_right h1 (show 0 ≤ cd by omega)
  have k2 := Int.mul_le_mul_of_nonneg_right h2 (show 0 ≤ ad by omega)
  refine Int.le_of_mul_le_mul_left (a := bd) ?_ (by omega)
  have e1 : bd * (an * cd) = an * bd * cd := by grind
  have e2 : bd * (cn * ad) = cn * bd * ad := by grind
  have e3 : bn * ad * cd = bn * cd * ad := by grind
  omega
theorem sub_ord {an ad bn bd x y : Int} (ha : 1 ≤ ad) (hb : 1 ≤ bd) (h : lowF (an * bd - bn * ad) (ad * bd) = (x, y, 0)) : ordF (x * 1) (0 * y) = ordF (an * bd) (bn * ad) := by
  have hp := Int.mul_pos (show 0 < ad by omega) (show 0 < bd by omega)
  obtain ⟨k, q, _⟩ := low_val hp h
  rw [Int.mul_one, Int.zero_mul]
  have s1 : x < 0 → an * bd - bn * ad < 0 := fun hx => by
    have := Int.mul_neg_of_neg_of_pos hx hp
    rw [k] at this
    exact Int.not_le.1 fun hn => by have := Int.mul_nonneg hn (show 0 ≤ y by omega); omega
  have s2 : 0 < x → 0 < an * bd - bn * ad := fun hx => by
    have := Int.mul_pos hx hp
    rw [k] at this
    exact Int.not_le.1 fun hn => by have := Int.mul_nonneg (show 0 ≤ -(an * bd - bn * ad) by omega) (show 0 ≤ y by omega); rw [Int.neg_mul] at this; omega
  have s3 : x = 0 → an * bd - bn * ad = 0 := fun hx => by
    rw [hx, Int.zero_mul] at k
    rcases Int.mul_eq_zero.1 k.symm with h | h
    · exact h
    · omega
  unfold ordF
  (repeat' split) <;> omega
end Go.Proofs.YtdelgijalnmehaaDoor
