/-
  Contracts of package span and of its reference: opposites, wider spans, and the reference's calls on spans.
-/
import Derived.Test.YtbmenpfpeadckaaC
namespace Go.Proofs.Ytbmenpfpeadckaa
open Go.RowKit
set_option linter.unusedSimpArgs false

