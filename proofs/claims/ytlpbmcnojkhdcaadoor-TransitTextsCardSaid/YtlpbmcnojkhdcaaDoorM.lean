/-
  Contracts of the calendar: leap years, months, years, validity, the first day of a year.
-/
import Derived.Test.YtlpbmcnojkhdcaaDoorI
import Derived.Test.YtlpbmcnojkhdcaaDoorL
namespace Go.Proofs.YtlpbmcnojkhdcaaDoor
open Go.RowKit Cal
set_option linter.unusedSimpArgs false
set_option linter.unusedVariables false

def moT : List Int := [31, 28, 31, 30, 31, 30, 31, 31, 30, 31, 30, 31]