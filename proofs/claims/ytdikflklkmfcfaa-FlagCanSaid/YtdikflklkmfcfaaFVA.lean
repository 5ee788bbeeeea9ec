/-
  The usual hoist, pure: all numbers of at most four digits, one by one.
-/
import Derived.Test.YtdikflklkmfcfaaFQ
namespace Go.Proofs.Ytdikflklkmfcfaa
open Go.RowKit
set_option linter.unusedSimpArgs false
set_option linter.unusedVariables false

theorem chk1 : ((List.range 10).all fun a => chkU [a]) = true := by decide +kernel
theorem chk2 : ((List.range 10).all fun a => (List.range 10).all fun b => chkU [a, b]) = true := by decide +kernel
theorem chk3 : ((List.range 10).all fun a => (List.range 10).all fun b => (List.range 10).all fun c => chkU [a, b, c]) = true := by decide +kernel
end Go.Proofs.Ytdikflklkmfcfaa
