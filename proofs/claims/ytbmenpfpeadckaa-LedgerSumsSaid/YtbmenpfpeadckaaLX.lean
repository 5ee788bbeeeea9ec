/-
  Contracts of package ledger: Last.
-/
import Derived.Test.YtbmenpfpeadckaaLW
namespace Go.Proofs.Ytbmenpfpeadckaa
open Go.RowKit Go.Maps
set_option linter.unusedSimpArgs false
set_option linter.unusedVariables false
