/-
  Package gun's arithmetic: roots, distances, lags, shots, boxes (no program).
-/
import Derived.Test.YthemoomfbbccjaaA
namespace Go.Proofs.Ythemoomfbbccjaa
set_option linter.unusedSimpArgs false
set_option linter.unusedVariables false

structure Air where
  s : Int
  w : Int
structure Pt where
  x : Int
  y : Int
structure Sho where
  p : Pt
  lo : Int
  hi : Int
structure Leg where
  p : Pt
  q : Pt
structure Box where
  lo : Pt
  hi : Pt
  st : Int

def VA (a : Air) : Prop := (300000 ≤ a.s ∧ a.s ≤ 400000) ∧ 0 ≤ a.w ∧ a.w ≤ 50000
instance (a : Air) : Decidable (VA a) := by unfold VA; infer_instance
def isC (n : Int) : Prop := -50000 ≤ n ∧ n ≤ 50000
instance (n : Int) : Decidable (isC n) := by unfold isC; infer_instance
def isP (p : Pt) : Prop := isC p.x ∧ isC p.y
instance (p : Pt) : Decidable (isP p) := by unfold isP; infer_instance

/-- The greatest whole number whose square is at most n. -/
def rtN : Nat → Nat
  | 0 => 0
  | n + 1 => if (rtN n + 1) * (rtN n + 1) ≤ n + 1 then rtN n + 1 else rtN n
theorem rtN_spec : ∀ n, rtN n * rtN n ≤ n ∧ n < (rtN n + 1) * (rtN n + 1)
  | 0 => by decide
  | n + 1 => by
    obtain ⟨h1, h2⟩ := rtN_spec n
    by_cases h : (rtN n + 1) * (rtN n + 1) ≤ n + 1
    · rw [rtN, if_pos h]
      refine ⟨h, ?_⟩
      have e : (rtN n + 1 + 1) * (rtN n + 1 + 1) = (rtN n + 1) * (rtN n + 1) + 2 * rtN n + 3 := by grind
      omega
    · rw [rtN, if_neg h]
      omega
def rt (n : Int) : Int := rtN n.toNat
theorem rt_nonneg (n : Int) : 0 ≤ rt n := Int.natCast_nonneg _
theorem rt_sq {n : Int} (h : 0 ≤ n) : rt n * rt n ≤ n ∧ n < (rt n + 1) * (rt n + 1) := by
  obtain ⟨h1, h2⟩ := rtN_spec n.toNat
  have e1 : rt n * rt n = ((rtN n.toNat * rtN n.toNat : Nat) : Int) := by simp [rt]
  have e2 : (rt n + 1) * (rt n + 1) = (((rtN n.toNat + 1) * (rtN n.toNat + 1) : Nat) : Int) := by simp [rt]
  rw [e1, e2]
  omega
theorem sq_le {a b : Int} (ha : 0 ≤ a) (h : a ≤ b) : a * a ≤ b * b := Int.mul_le_mul h h ha (by omega)
theorem sq_lt {a b : Int} (ha : 0 ≤ a) (hb : 0 ≤ b) (h : a * a < b * b) : a < b := by
  refine Int.not_le.1 fun hle => ?_
  have := sq_le hb hle
  omega
theorem rt_uniq {n r : Int} (h0 : 0 ≤ r) (h1 : r * r ≤ n) (h2 : n < (r + 1) * (r + 1)) : rt n = r := by
  have hn : 0 ≤ n := Int.le_trans (Int.mul_nonneg h0 h0) h1
  obtain ⟨k1, k2⟩ := rt_sq hn
  have z := rt_nonneg n
  have a1 : rt n < r + 1 := sq_lt z (by omega) (by omega)
  have a2 : r < rt n + 1 := sq_lt h0 (by omega) (by omega)
  omega
theorem rt_mono {n m : Int} (hn : 0 ≤ n) (h : n ≤ m) : rt n ≤ rt m := by
  obtain ⟨k1, k2⟩ := rt_sq hn
  obtain ⟨l1, l2⟩ := rt_sq (show 0 ≤ m by omega)
  have a1 : rt n < rt m + 1 := sq_lt (rt_nonneg n) (by have := rt_nonneg m; omega) (by omega)
  omega
theorem rt_le {n b : Int} (hb : 0 ≤ b) (h : n ≤ b * b) : rt n ≤ b := by
  by_cases hn : 0 ≤ n
  · have e : rt (b * b) = b := rt_uniq hb (Int.le_refl _) (by have : (b + 1) * (b + 1) = b * b + 2 * b + 1 := by grind
                                                              omega)
    have := rt_mono hn h
    omega
  · have : n.toNat = 0 := by omega
    simp [rt, this, rtN]; exact hb

/-- The root rounded up. -/
def rtU (n : Int) : Int := if rt n * rt n = n then rt n else rt n + 1
theorem rtU_mono {n m : Int} (hn : 0 ≤ n) (h : n ≤ m) : rtU n ≤ rtU m := by
  unfold rtU
  have a := rt_mono hn h
  by_cases e : rt n = rt m
  · obtain ⟨k1, k2⟩ := rt_sq hn
    obtain ⟨l1, l2⟩ := rt_sq (show 0 ≤ m by omega)
    split <;> split
    · omega
    · omega
    · rename_i h1 h2; rw [e] at h1 k1; omega
    · omega
  · split <;> split <;> omega
theorem rtU_ge (n : Int) : rt n ≤ rtU n ∧ rtU n ≤ rt n + 1 := by unfold rtU; split <;> omega

/-- The squared distance of two places. -/
def sqd (p q : Pt) : Int := (p.x - q.x) * (p.x - q.x) + (p.y - q.y) * (p.y - q.y)
theorem sq_nonneg (a : Int) : 0 ≤ a * a := by
  by_cases h : 0 ≤ a
  · exact Int.mul_nonneg h h
  · have e : a * a = (-a) * (-a) := by grind
    rw [e]; exact Int.mul_nonneg (by omega) (by omega)
theorem sq_abs {a b : Int} (h1 : -b ≤ a) (h2 : a ≤ b) : a * a ≤ b * b := by
  by_cases h : 0 ≤ a
  · exact sq_le h h2
  · have e : a * a = (-a) * (-a) := by grind
    rw [e]; exact sq_le (by omega) (by omega)
theorem sqd_bd {p q : Pt} (hp : isP p) (hq : isP q) : 0 ≤ sqd p q ∧ sqd p q ≤ 20000000000 := by
  obtain ⟨⟨a1, a2⟩, a3, a4⟩ := hp
  obtain ⟨⟨b1, b2⟩, b3, b4⟩ := hq
  have h1 := sq_nonneg (p.x - q.x)
  have h2 := sq_nonneg (p.y - q.y)
  have h3 := sq_abs (a := p.x - q.x) (b := 100000) (by omega) (by omega)
  have h4 := sq_abs (a := p.y - q.y) (b := 100000) (by omega) (by omega)
  unfold sqd
  omega
theorem sqd_comm (p q : Pt) : sqd p q = sqd q p := by unfold sqd; grind

/-- The lag over a distance. -/
def lagO (a : Air) (lo hi : Int) : Int × Int := (lo * 1000 / (a.s + a.w), -((-(hi * 1000)) / (a.s - a.w)))
def lagP (a : Air) (p q : Pt) : Int × Int := lagO a (rt (sqd p q * 1000000)) (rtU (sqd p q * 1000000))
theorem lagP_comm (a : Air) (p q : Pt) : lagP a p q = lagP a q p := by unfold lagP; rw [sqd_comm]
theorem up_eq (n d : Int) (h : 0 < d) : (n + d - 1) / d = -((-n) / d) := by
  have e1 := Int.mul_ediv_add_emod (-n) d
  have e2 := Int.emod_nonneg (-n) (show d ≠ 0 by omega)
  have e3 := Int.emod_lt_of_pos (-n) h
  refine ((Int.ediv_emod_unique h).2 (⟨?_, ?_, ?_⟩ : d - 1 - (-n) % d + d * (-((-n) / d)) = n + d - 1 ∧ 0 ≤ d - 1 - (-n) % d ∧ d - 1 - (-n) % d < d)).1
  · rw [Int.mul_neg]; omega
  · omega
  · omega
theorem up_mono {n m d : Int} (h : 0 < d) (hn : n ≤ m) : -((-n) / d) ≤ -((-m) / d) := by
  have := Int.ediv_le_ediv h (show -m ≤ -n by omega)
  omega
theorem div_nonneg' {n d : Int} (hn : 0 ≤ n) (h : 0 < d) : 0 ≤ n / d := Int.ediv_nonneg hn (by omega)
theorem up_nonneg {n d : Int} (hn : 0 ≤ n) (h : 0 < d) : 0 ≤ -((-n) / d) := by
  have := up_mono h hn
  simpa using this
theorem div_le' {n d B : Int} (hd : 0 < d) (h : n ≤ B * d) : n / d ≤ B := Int.ediv_le_of_le_mul hd h
theorem up_le {n d B : Int} (hd : 0 < d) (h : n ≤ B * d) : -((-n) / d) ≤ B := by
  have : -B ≤ (-n) / d := Int.le_ediv_of_mul_le hd (by rw [Int.neg_mul]; omega)
  omega
/-- A greater divisor makes no quotient of a number from 0 on greater. -/
theorem div_anti {n d e : Int} (hn : 0 ≤ n) (hd : 0 < d) (h : d ≤ e) : n / e ≤ n / d := by
  have h1 := Int.mul_ediv_add_emod n d
  have h2 := Int.emod_lt_of_pos n hd
  have h3 := div_nonneg' hn hd
  have h4 : (n / d + 1) * d ≤ (n / d + 1) * e := Int.mul_le_mul_of_nonneg_left h (by omega)
  have h5 : (n / d + 1) * d = d * (n / d) + d := by grind
  have := Int.ediv_lt_of_lt_mul (show 0 < e by omega) (show n < (n / d + 1) * e by omega)
  omega
theorem up_anti {n d e : Int} (hn : 0 ≤ n) (hd : 0 < d) (h : d ≤ e) : -((-n) / e) ≤ -((-n) / d) := by
  have h3 := up_nonneg hn hd
  have h4 : (-((-n) / d)) * d ≤ (-((-n) / d)) * e := Int.mul_le_mul_of_nonneg_left h h3
  have h1 := Int.mul_ediv_add_emod (-n) d
  have h2 := Int.emod_nonneg (-n) (show d ≠ 0 by omega)
  have h5 : (-((-n) / d)) * d = -(d * ((-n) / d)) := by grind
  have h6 : ((-n) / d) * e = -((-((-n) / d)) * e) := by grind
  have : (-n) / d ≤ (-n) / e := Int.le_ediv_of_mul_le (show 0 < e by omega) (by omega)
  omega

theorem air_pos {a : Air} (h : VA a) : 0 < a.s + a.w ∧ 0 < a.s - a.w ∧ 300000 ≤ a.s + a.w ∧ 250000 ≤ a.s - a.w ∧ a.s + a.w ≤ 450000 ∧ a.s - a.w ≤ 400000 := by
  obtain ⟨⟨h1, h2⟩, h3, h4⟩ := h
  omega
theorem lagO_lo {a : Air} (h : VA a) {lo hi : Int} (hl : 0 ≤ lo) (hh : lo ≤ hi) : 0 ≤ (lagO a lo hi).1 ∧ (lagO a lo hi).1 ≤ (lagO a lo hi).2 := by
  obtain ⟨p1, p2, _⟩ := air_pos h
  have hw := h.2.1
  refine ⟨div_nonneg' (by omega) p1, ?_⟩
  show lo * 1000 / (a.s + a.w) ≤ -((-(hi * 1000)) / (a.s - a.w))
  have e1 := div_anti (n := lo * 1000) (by omega) p2 (show a.s - a.w ≤ a.s + a.w by omega)
  have e2 := up_mono p2 (show lo * 1000 ≤ hi * 1000 by omega)
  have e3 : lo * 1000 / (a.s - a.w) ≤ -((-(lo * 1000)) / (a.s - a.w)) := by
    rw [← up_eq _ _ p2]
    exact Int.ediv_le_ediv p2 (by omega)
  omega
theorem lagP_bd {a : Air} (h : VA a) {p q : Pt} (hp : isP p) (hq : isP q) : 0 ≤ (lagP a p q).1 ∧ (lagP a p q).1 ≤ (lagP a p q).2 ∧ (lagP a p q).2 ≤ 600000 := by
  obtain ⟨s1, s2⟩ := sqd_bd hp hq
  have r1 := rt_le (n := sqd p q * 1000000) (b := 142000000) (by omega) (by omega)
  have r2 := rtU_ge (sqd p q * 1000000)
  have r3 := rt_nonneg (sqd p q * 1000000)
  obtain ⟨p1, p2, p3, p4, _⟩ := air_pos h
  obtain ⟨l1, l2⟩ := lagO_lo h (lo := rt (sqd p q * 1000000)) (hi := rtU (sqd p q * 1000000)) (by omega) (by omega)
  exact ⟨l1, l2, up_le p2 (by omega)⟩

def vSh (s : Sho) : Prop := isP s.p ∧ 0 ≤ s.lo ∧ s.lo ≤ s.hi ∧ s.hi ≤ 1000000
instance (s : Sho) : Decidable (vSh s) := by unfold vSh; infer_instance
/-- Whether n shots are valid. -/
def VSh (S : Nat → Sho) (n : Nat) : Prop := 1 ≤ n ∧ n ≤ 6 ∧ ∀ j, j < n → vSh (S j)
instance (S : Nat → Sho) (n : Nat) : Decidable (VSh S n) := by unfold VSh; infer_instance
/-- Whether spans have a number in common. -/
def mt (a b c d : Int) : Prop := a ≤ d ∧ c ≤ b
instance (a b c d : Int) : Decidable (mt a b c d) := by unfold mt; infer_instance
def suit1 (a : Air) (s : Sho) (p : Pt) : Prop := mt (lagP a s.p p).1 (lagP a s.p p).2 s.lo s.hi
instance (a : Air) (s : Sho) (p : Pt) : Decidable (suit1 a s p) := by unfold suit1; infer_instance
def suitN (a : Air) (S : Nat → Sho) (n : Nat) (p : Pt) : Prop := ∀ j, j < n → suit1 a (S j) p
instance (a : Air) (S : Nat → Sho) (n : Nat) (p : Pt) : Decidable (suitN a S n p) := by unfold suitN; infer_instance

/-- Answers. -/
def lagR (a : Air) (p q : Pt) : Int × Int × Int := if VA a then (if isP p ∧ isP q then ((lagP a p q).1, (lagP a p q).2, 0) else (0, 0, 7)) else (0, 0, 1)
def distR (p q : Pt) : Int × Int × Int := if isP p ∧ isP q then (rt (sqd p q * 1000000), rtU (sqd p q * 1000000), 0) else (0, 0, 7)
def rootR (n : Int) : Int × Int := if 0 ≤ n ∧ n ≤ 1000000000000000000 then (rt n, 0) else (0, 7)
def speedR (t : Int) : Int × Int := if -50000 ≤ t ∧ t ≤ 50000 then (331300 + 606 * t / 1000, 0) else (0, 7)
def isT (t : Int) : Prop := 0 ≤ t ∧ t ≤ 86399999
instance (t : Int) : Decidable (isT t) := by unfold isT; infer_instance
def heardR (a : Air) (p q : Pt) (t : Int) : Int × Int × Int := if VA a then (if isP p ∧ isP q then (if isT t then (t + (lagP a p q).1, t + (lagP a p q).2, 0) else (0, 0, 7)) else (0, 0, 7)) else (0, 0, 1)
def corrR (a : Air) (p q : Pt) (t : Int) : Int × Int × Int := if VA a then (if isP p ∧ isP q then (if isT t then (t - (lagP a p q).2, t - (lagP a p q).1, 0) else (0, 0, 7)) else (0, 0, 7)) else (0, 0, 1)
def suitsR (a : Air) (S : Nat → Sho) (n : Nat) (p : Pt) : Bool × Int := if VA a ∧ VSh S n then (if isP p then (decide (suitN a S n p), 0) else (false, 7)) else (false, 1)

/-- The example of the document. -/
theorem ex_rt : rt 11560000000000 = 3400000 := rt_uniq (by omega) (by omega) (by omega)
theorem ex_lag : lagR ⟨340000, 0⟩ ⟨0, 0⟩ ⟨3000, 1600⟩ = (10000, 10000, 0) := by
  have e : sqd ⟨0, 0⟩ ⟨3000, 1600⟩ * 1000000 = 11560000000000 := by decide
  have eU : rtU 11560000000000 = 3400000 := by unfold rtU; rw [ex_rt]; rfl
  unfold lagR
  rw [if_pos (by decide), if_pos (by decide)]
  unfold lagP
  rw [e, eU, ex_rt]
  rfl
theorem ex_speed : speedR 15000 = (340390, 0) := by decide

/-- P5.2: farther is later. -/
theorem lagP_mono {a : Air} (h : VA a) {p q r : Pt} (hp : isP p) (hq : isP q) (hle : sqd p q ≤ sqd p r) : (lagP a p q).1 ≤ (lagP a p r).1 ∧ (lagP a p q).2 ≤ (lagP a p r).2 := by
  obtain ⟨p1, p2, _⟩ := air_pos h
  obtain ⟨s1, s2⟩ := sqd_bd hp hq
  have m1 := rt_mono (n := sqd p q * 1000000) (m := sqd p r * 1000000) (by omega) (by omega)
  have m2 := rtU_mono (n := sqd p q * 1000000) (m := sqd p r * 1000000) (by omega) (by omega)
  exact ⟨Int.ediv_le_ediv p1 (by omega), up_mono p2 (by omega)⟩
/-- More wind widens, more speed makes neither end greater. -/
theorem lagP_air {a b : Air} (ha : VA a) (hb : VA b) (p q : Pt) (h1 : a.s + a.w ≤ b.s + b.w) : (lagP b p q).1 ≤ (lagP a p q).1 := by
  obtain ⟨p1, p2, _⟩ := air_pos ha
  exact div_anti (by have := rt_nonneg (sqd p q * 1000000); omega) p1 h1
theorem lagP_air2 {a b : Air} (ha : VA a) (hb : VA b) (p q : Pt) (h1 : a.s - a.w ≤ b.s - b.w) : (lagP b p q).2 ≤ (lagP a p q).2 := by
  obtain ⟨p1, p2, _⟩ := air_pos ha
  exact up_anti (by have := rt_nonneg (sqd p q * 1000000); have := rtU_ge (sqd p q * 1000000); omega) p2 h1
end Go.Proofs.Ythemoomfbbccjaa
