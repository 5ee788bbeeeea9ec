/-
  Contracts of package span and of its reference: sums, opposites, hulls, meets and wider spans.
-/
import Derived.Test.YtalofhbmkllifaaB
namespace Go.Proofs.Ytalofhbmkllifaa
open Go.RowKit
set_option linter.unusedSimpArgs false

