/-
  Contracts of the two greatest common divisors.
-/
import Derived.Test.YtalofhbmkllifaaA
import Derived.Deep.QuietTactic
import Derived.BigQuiet
namespace Go.Proofs.Ytalofhbmkllifaa
open Go.RowKit
set_option linter.unusedSimpArgs false

theorem Bl.dn (w : World) (n : Nat) : Bl w (w.drewN n) := ⟨rfl, rfl, rfl, Nat.le_refl _, fun _ _ => rfl⟩
theorem gcd_step (a b : Int) : Int.gcd b (a.tmod b) = Int.gcd a b := by
  unfold Int.gcd
  rw [Int.natAbs_tmod, Nat.gcd_comm b.natAbs, ← Nat.gcd_rec, Nat.gcd_comm]
theorem tmod_small (a b : Int) (h : b ≠ 0) : (a.tmod b).natAbs < b.natAbs := by
  rw [Int.natAbs_tmod]; exact Nat.mod_lt _ (by omega)

theorem gcd_step2 (a b : Int) (ha : 0 ≤ a) (hb : 0 ≤ b) (h : b ≠ 0) : Int.gcd b (a % b) = Int.gcd a b ∧ 0 ≤ a % b ∧ a % b < b ∧ (a % b).natAbs < b.natAbs := by
  have h1 := Int.emod_nonneg a h
  have h2 := Int.emod_lt_of_pos a (show 0 < b by omega)
  refine ⟨?_, h1, h2, by omega⟩
  rw [← gcd_step a b, Int.tmod_eq_emod_of_nonneg ha]

theorem gcd_abs (a b x y : Int) (h1 : x = a ∨ x = -a) (h2 : y = b ∨ y = -b) : Int.gcd x y = Int.gcd a b := by
  unfold Int.gcd
  rw [show x.natAbs = a.natAbs by omega, show y.natAbs = b.natAbs by omega]

def vR (n d : Int) : Bool := decide (1 ≤ d ∧ d ≤ 1000000000 ∧ -1000000000 ≤ n ∧ n ≤ 1000000000) && decide ((Int.gcd n d : Int) = 1)
theorem vR_iff {n d : Int} : vR n d = true ↔ (1 ≤ d ∧ d ≤ 1000000000 ∧ -1000000000 ≤ n ∧ n ≤ 1000000000) ∧ (Int.gcd n d : Int) = 1 := by simp [vR]
