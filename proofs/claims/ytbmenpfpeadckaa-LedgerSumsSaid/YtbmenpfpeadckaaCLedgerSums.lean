/-
  Layer 9: the law LedgerSums of its package answers true for all arguments, and leaves them as they were. No condition.
-/
import Derived.Test.YtbmenpfpeadckaaMX
import Derived.Test.YtbmenpfpeadckaaLO
import Derived.ProofKit
import Derived.OpenShut
import Derived.ShutString
import Derived.ChangeOld
import Derived.Below
import Derived.Carry
namespace Go.Proofs.Ytbmenpfpeadckaa.ledgerSums
open Go.ChangeShapes Go.WideShapes Go.ChangeAt Go.RowKit Go.Proofs.Ytbmenpfpeadckaa
set_option linter.unusedSimpArgs false
set_option linter.unusedVariables false

theorem own : ownKnob Try.prog.godebug = none := by kernel_rfl
theorem laidOut : laidOutB Try.prog = true := by kernel_rfl

end Go.Proofs.Ytbmenpfpeadckaa.ledgerSums
