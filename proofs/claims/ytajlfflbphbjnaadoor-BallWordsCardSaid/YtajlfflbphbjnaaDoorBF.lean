/-
  Contracts of package ball and of its reference: Next.
-/
import Derived.Test.YtajlfflbphbjnaaDoorBE
namespace Go.Proofs.YtajlfflbphbjnaaDoor
open Go.RowKit
set_option linter.unusedSimpArgs false
set_option linter.unusedVariables false

/-- The state after an event, or the error. -/
def nxtF (M : Mst) (s : Bal) (e : Evt) : Bal × Int := if VM M ∧ VS s then stp M s e else (Bal.zero, 1)
end Go.Proofs.YtajlfflbphbjnaaDoor
