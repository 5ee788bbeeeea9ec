/-
  The usual hoist, pure.
-/
import Derived.Test.YtdikflklkmfcfaaFP
import Derived.Test.YtdikflklkmfcfaaFI
namespace Go.Proofs.Ytdikflklkmfcfaa
open Go.RowKit
set_option linter.unusedSimpArgs false
set_option linter.unusedVariables false

/-- A list of flags is a valid hoist; what it means. -/
def okH (l : List Nat) : Bool := vhB l.length (gI l)
def mnH (l : List Nat) : List Nat := dgs (gI l) l.length
/-- A flag may be hung below h for the digit d. -/
def fitU (h : List Nat) (d f : Nat) : Bool := okH (h ++ [f]) && ((mnH (h ++ [f])).getD h.length 99 == d)
def stepU (h : List Nat) (d : Nat) : List Nat := if fitU h d d then h ++ [d] else if fitU h d 10 then h ++ [10] else if fitU h d 11 then h ++ [11] else if fitU h d 12 then h ++ [12] else h
def usl (l : List Nat) : List Nat := l.foldl stepU []
theorem usl_snoc (l : List Nat) (d : Nat) : usl (l ++ [d]) = stepU (usl l) d := by simp [usl]
def chkU (l : List Nat) : Bool := (tre (wnB (gI l)) l.length [] [] 8191 == [usl l]) && okH (usl l) && (mnH (usl l) == l)
end Go.Proofs.Ytdikflklkmfcfaa
