/-
  Contracts of Root, both; walks of the laws on sounds and lags.
-/
import Derived.Test.YthemoomfbbccjaaGF
namespace Go.Proofs.Ythemoomfbbccjaa
open Go.RowKit
set_option linter.unusedSimpArgs false
set_option linter.unusedVariables false

abbrev encG (l : Leg) : Value := .agg #[.int .i64 l.p.x, .int .i64 l.p.y, .int .i64 l.q.x, .int .i64 l.q.y]
theorem lagR_comm (a : Air) (p q : Pt) : lagR a q p = lagR a p q := by
  unfold lagR
  rw [lagP_comm a q p]
  have e : (isP q ∧ isP p) = (isP p ∧ isP q) := propext ⟨And.symm, And.symm⟩
  simp only [e]