/-
  Package ledger: Streak of the reference.
-/
import Derived.Test.YtbmenpfpeadckaaMM0
namespace Go.Proofs.Ytbmenpfpeadckaa
open Go.RowKit Go.Maps Go.Shelf
set_option linter.unusedSimpArgs false
set_option linter.unusedVariables false
