/-
  Contracts of the fractions: Make, sums, differences, products, comparison, rounding down.
-/
import Derived.Test.YtalofhbmkllifaaG
namespace Go.Proofs.Ytalofhbmkllifaa
open Go.RowKit
set_option linter.unusedSimpArgs false
set_option linter.unusedVariables false

theorem mul_bd {x y : Int} (h1 : -1000000000 ≤ x) (h2 : x ≤ 1000000000) (h3 : -1000000000 ≤ y) (h4 : y ≤ 1000000000) : -1000000000000000000 ≤ x * y ∧ x * y ≤ 1000000000000000000 := by
  have : (x * y).natAbs ≤ 1000000000 * 1000000000 := by rw [Int.natAbs_mul]; exact Nat.mul_le_mul (by omega) (by omega)
  omega
theorem mul_pos' {x y : Int} (h1 : 1 ≤ x) (h2 : 1 ≤ y) : 1 ≤ x * y := by
  have := Int.mul_le_mul h1 h2 (by omega) (by omega); omega

def makeF (n d : Int) : Int × Int × Int := if n < -1000000000000000000 ∨ 1000000000000000000 < n ∨ d < -1000000000000000000 ∨ 1000000000000000000 < d ∨ d = 0 then (0, 0, 7) else lowF n d
def addF (an ad bn bd : Int) : Int × Int × Int := if vR an ad && vR bn bd then lowF (an * bd + bn * ad) (ad * bd) else (0, 0, 1)
def subF (an ad bn bd : Int) : Int × Int × Int := if vR an ad && vR bn bd then lowF (an * bd - bn * ad) (ad * bd) else (0, 0, 1)
def mulF (an ad bn bd : Int) : Int × Int × Int := if vR an ad && vR bn bd then lowF (an * bn) (ad * bd) else (0, 0, 1)
def ordF (x y : Int) : Int := if x < y then -1 else if y < x then 1 else 0
def cmpF (an ad bn bd : Int) : Int := if vR an ad && vR bn bd then ordF (an * bd) (bn * ad) else 0
def floorF (n d : Int) : Int × Int := if vR n d then (n / d, 0) else (0, 1)

theorem down_eq {n d : Int} (h : 0 < d) : (n.tmod d < 0 → n.tdiv d - 1 = n / d) ∧ (0 ≤ n.tmod d → n.tdiv d = n / d) := by
  have e := Int.mul_tdiv_add_tmod n d
  have h1 := Int.tmod_lt_of_pos n h
  have h2 : -d < n.tmod d := by
    have := Int.tmod_lt_of_pos (-n) h
    rw [Int.neg_tmod] at this; omega
  constructor
  · intro hr
    refine ((Int.ediv_emod_unique h).2 (⟨?_, ?_, ?_⟩ : n.tmod d + d + d * (n.tdiv d - 1) = n ∧ 0 ≤ n.tmod d + d ∧ n.tmod d + d < d)).1.symm
    · rw [Int.mul_sub]; omega
    · omega
    · omega
  · intro hr
    refine ((Int.ediv_emod_unique h).2 (⟨?_, ?_, ?_⟩ : n.tmod d + d * n.tdiv d = n ∧ 0 ≤ n.tmod d ∧ n.tmod d < d)).1.symm
    · omega
    · omega
    · omega
theorem tdiv_bd {n d B : Int} (hB : 0 ≤ B) (h : 0 < d) (h1 : -B ≤ n) (h2 : n ≤ B) : -B ≤ n.tdiv d ∧ n.tdiv d ≤ B := by
  have : (n.tdiv d).natAbs ≤ n.natAbs := by rw [Int.natAbs_tdiv]; exact Nat.div_le_self _ _
  omega
