/-
  Package sight: the document's net of two sights.
-/
import Derived.Test.YtchikfegpoonjaaPY
namespace Go.Proofs.Ytchikfegpoonjaa
open Go.RowKit Go.Maps
set_option linter.unusedSimpArgs false
set_option linter.unusedVariables false

def twR (k : Nat) : Int := if k = 1 then 10000 else 0
def twS (k : Nat) : Sgt := if k = 0 then { tm := 0, ca := 1, cb := 0, lo := 100, hi := 100 } else { tm := 1000000, ca := 1, cb := 0, lo := 150, hi := 160 }