/-
  Contracts of package night and of its reference: Right of the reference, Worth of both.
-/
import Derived.Test.YtbmenpfpeadckaaNV
import Derived.BigQuiet
namespace Go.Proofs.Ytbmenpfpeadckaa
open Go.RowKit
set_option linter.unusedSimpArgs false
set_option linter.unusedVariables false
