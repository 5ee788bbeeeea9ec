/-
  The reference's Ratio; Warm of both.
-/
import Derived.Test.YtalofhbmkllifaaH
import Derived.Test.YtalofhbmkllifaaRJ
namespace Go.Proofs.Ytalofhbmkllifaa
open Go.RowKit
set_option linter.unusedSimpArgs false
set_option linter.unusedVariables false

/-- Whether the temperatures and the rates are such as Warm takes. -/
def wmOk (t1 r1 t2 r2 t : Int) : Bool := (inB t1 (-50000) 50000 && inB t2 (-50000) 50000 && inB t (-50000) 50000) && (inB r1 (-100000) 100000 && inB r2 (-100000) 100000) && decide (t1 ≠ t2)
def warmF (t1 r1 t2 r2 t : Int) : Int × Int × Int := if wmOk t1 r1 t2 r2 t then lowF (r1 * (t2 - t1) + (r2 - r1) * (t - t1)) (t2 - t1) else (0, 0, 7)
theorem warm_no {t1 r1 t2 r2 t : Int} (h : wmOk t1 r1 t2 r2 t = false) : warmF t1 r1 t2 r2 t = (0, 0, 7) := by rw [warmF, h]; rfl
theorem warm_yes {t1 r1 t2 r2 t : Int} (h : wmOk t1 r1 t2 r2 t = true) : warmF t1 r1 t2 r2 t = lowF (r1 * (t2 - t1) + (r2 - r1) * (t - t1)) (t2 - t1) := by rw [warmF, if_pos h]
theorem mulw_bd {x y A B : Int} (hA : 0 ≤ A) (hB : 0 ≤ B) (h1 : -A ≤ x ∧ x ≤ A) (h2 : -B ≤ y ∧ y ≤ B) : -(A * B) ≤ x * y ∧ x * y ≤ A * B := by
  have : (x * y).natAbs ≤ (A * B).natAbs := by rw [Int.natAbs_mul, Int.natAbs_mul]; exact Nat.mul_le_mul (by omega) (by omega)
  have h0 : 0 ≤ A * B := Int.mul_nonneg hA hB
  omega
def tmF (t1 t2 t : Int) (j : Nat) : Int := if j = 0 then t1 else if j = 1 then t2 else t
def tmTo3 (f : Nat → Int) : Nat → Bool
  | 0 => true
  | k + 1 => tmTo3 f k && inB (f k) (-50000) 50000
theorem tm_no {t1 r1 t2 r2 t : Int} {k : Nat} (hk : k < 3) (h : inB (tmF t1 t2 t k) (-50000) 50000 = false) : wmOk t1 r1 t2 r2 t = false := by
  rcases (show k = 0 ∨ k = 1 ∨ k = 2 by omega) with rfl | rfl | rfl <;> simp [tmF] at h <;> simp [wmOk, h]
theorem tm_all {t1 t2 t : Int} (h : tmTo3 (tmF t1 t2 t) 3 = true) : inB t1 (-50000) 50000 = true ∧ inB t2 (-50000) 50000 = true ∧ inB t (-50000) 50000 = true := by
  simpa [tmTo3, tmF, and_assoc] using h
theorem tm_cells {w : World} {b : Nat} {t1 t2 t : Int} (h0 : w.cell? ⟨b, 0, none⟩ = some (.int .i64 t1)) (h1 : w.cell? ⟨b, 1, none⟩ = some (.int .i64 t2)) (h2 : w.cell? ⟨b, 2, none⟩ = some (.int .i64 t)) {k : Nat} (hk : k < 3) : w.cell? ⟨b, k, none⟩ = some (.int .i64 (tmF t1 t2 t k)) := by
  rcases (show k = 0 ∨ k = 1 ∨ k = 2 by omega) with rfl | rfl | rfl
  · exact h0
  · exact h1
  · exact h2