/-
  Contracts of package span and of its reference: sums, opposites, hulls, meets and wider spans.
-/
import Derived.Test.YtbhdoafcjfcgfaaB
namespace Go.Proofs.Ytbhdoafcjfcgfaa
open Go.RowKit
set_option linter.unusedSimpArgs false

