/-
  Package ledger: Unfound of the reference.
-/
import Derived.Test.YtbmenpfpeadckaaMF
namespace Go.Proofs.Ytbmenpfpeadckaa
open Go.RowKit Go.Maps Go.Shelf
set_option linter.unusedSimpArgs false
set_option linter.unusedVariables false

theorem encO_eq (o : Option Int) : encO o = .tuple #[.int .i64 (o.getD 0), .bool o.isSome] := by cases o <;> rfl
/-- Whether a day was said and not found. -/
def unfB (L : Nat → En) (n : Nat) (d : Int) : Bool := (lst L d false n).isSome && !(lst L d true n).isSome
def unfF (L : Nat → En) (n : Nat) : List Int := (dysOf L n).filter (unfB L n)