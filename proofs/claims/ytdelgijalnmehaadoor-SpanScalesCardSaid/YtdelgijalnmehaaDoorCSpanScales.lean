/-
  Layer 1: the law SpanScales of its package answers true for all arguments, and leaves them as they were. Condition: the package's tables of months, of powers of ten and of bits hold what the program's text lays (tied by the card).
-/
import Derived.Test.YtdelgijalnmehaaDoorR
import Derived.Test.YtdelgijalnmehaaDoorWK
namespace Go.Proofs.YtdelgijalnmehaaDoor.spanScales
open Go.ChangeShapes Go.WideShapes Go.ChangeAt Go.RowKit Go.Joins Go.Proofs.YtdelgijalnmehaaDoor
set_option linter.unusedSimpArgs false
set_option linter.unusedVariables false

theorem laid_met (os : Os) : laidMet Tryd.prog Rows.spanScalesRow.laid ((laidWorld os).forCall (fun _ _ => 0) ⟨#[], #[.agg #[.int .i64 0, .int .i64 0], .agg #[.int .i64 0, .int .i64 0]], []⟩).memory :=
  laidMet_of_run' 8 (by kernel_rfl) (by kernel_rfl)
end Go.Proofs.YtdelgijalnmehaaDoor.spanScales
