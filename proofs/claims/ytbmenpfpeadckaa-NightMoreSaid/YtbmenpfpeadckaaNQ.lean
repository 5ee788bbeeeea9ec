/-
  Contracts of package night and of its reference: Follows, Clear.
-/
import Derived.Test.YtbmenpfpeadckaaNP
namespace Go.Proofs.Ytbmenpfpeadckaa
open Go.RowKit
set_option linter.unusedSimpArgs false
set_option linter.unusedVariables false

/-- What Follows returns. -/
def foR (a b : Ch) (per : Int) : Bool × Int := if (tuR a b per).2 = 0 then (flw a b per, 0) else (false, (tuR a b per).2)
theorem foR_no {a b : Ch} {per : Int} (h : ¬ (tuR a b per).2 = 0) : foR a b per = (false, (tuR a b per).2) := if_neg h
theorem foR_ok {a b : Ch} {per : Int} (h : (tuR a b per).2 = 0) : foR a b per = (flw a b per, 0) := if_pos h
theorem tu_zero {a b : Ch} {per : Int} (h : (tuR a b per).2 = 0) : vcB a = true ∧ vcB b = true ∧ (0 ≤ per ∧ per ≤ 10000) ∧ (tuR a b per).1 = trn a b per := by
  unfold tuR at h ⊢
  split at h
  · rename_i h1
    split at h
    · rename_i h2
      simp only [Bool.and_eq_true] at h1
      exact ⟨h1.1, h1.2, inB_iff.1 h2, by rw [if_pos (by simp [h1]), if_pos h2]⟩
    · simp at h
  · simp at h
/-- What Clear returns. -/
def ClrPost (L : Nat → Ch) (n : Nat) (S : Nat → Sp2) (m : Nat) (w : World) (e : Ending) (w' : World) : Prop :=
  Bl w w' ∧ (((vdB L n && cldB S m) = false ∧ e = .returned (.tuple #[.slice none 0 0, .int .i64 1])) ∨ ((vdB L n && cldB S m) = true ∧ ∃ v, e = .returned (.tuple #[v, .int .i64 0]) ∧ IsL w' w.heap.size v (clrL S m L n)))
theorem vd_lenQ {L : Nat → Ch} {n : Nat} (h : vdB L n = true) : n ≤ 20 := by
  rcases Nat.eq_zero_or_pos n with e | e
  · omega
  · have := (ms_vc (vd_at h (k := n - 1) (by omega))).1
    omega