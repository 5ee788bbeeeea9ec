/-
  The walks of laws of package ball.
-/
import Derived.Test.YtajlfflbphbjnaaDoorBP
import Derived.Test.YtajlfflbphbjnaaDoorBM
namespace Go.Proofs.YtajlfflbphbjnaaDoor
open Go.RowKit Go.Shelf
set_option linter.unusedSimpArgs false
set_option linter.unusedVariables false
