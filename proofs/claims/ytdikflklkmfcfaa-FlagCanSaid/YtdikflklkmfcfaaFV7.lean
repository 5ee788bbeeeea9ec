/-
  The usual hoist, pure: all numbers of at most four digits, one by one.
-/
import Derived.Test.YtdikflklkmfcfaaFQ
namespace Go.Proofs.Ytdikflklkmfcfaa
open Go.RowKit
set_option linter.unusedSimpArgs false
set_option linter.unusedVariables false

theorem chk4_7 : ((List.range 10).all fun b => (List.range 10).all fun c => (List.range 10).all fun d => chkU [7, b, c, d]) = true := by decide +kernel
end Go.Proofs.Ytdikflklkmfcfaa
