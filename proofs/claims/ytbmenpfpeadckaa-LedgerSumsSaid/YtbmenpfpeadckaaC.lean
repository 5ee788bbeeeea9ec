/-
  Contracts of package span and of its reference: sums, opposites, hulls, meets and wider spans.
-/
import Derived.Test.YtbmenpfpeadckaaB
namespace Go.Proofs.Ytbmenpfpeadckaa
open Go.RowKit
set_option linter.unusedSimpArgs false

