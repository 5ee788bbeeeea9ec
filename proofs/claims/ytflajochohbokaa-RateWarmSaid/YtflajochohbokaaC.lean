/-
  Contracts of package span and of its reference: sums, opposites, hulls, meets and wider spans.
-/
import Derived.Test.YtflajochohbokaaB
namespace Go.Proofs.Ytflajochohbokaa
open Go.RowKit
set_option linter.unusedSimpArgs false

