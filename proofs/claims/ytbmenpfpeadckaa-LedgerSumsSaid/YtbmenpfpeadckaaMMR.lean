/-
  Package ledger: what Streak returns: two cells and a number.
-/
import Derived.Test.YtbmenpfpeadckaaMK
namespace Go.Proofs.Ytbmenpfpeadckaa
open Go.RowKit Go.Maps Go.Shelf
set_option linter.unusedSimpArgs false
set_option linter.unusedVariables false

def encT (x : Int × Int × Int) : Value := .tuple #[.int .i64 x.1, .int .i64 x.2.1, .int .i64 x.2.2]
theorem strk_res (tmps : Array Value) (W : World) (p1 p2 : Nat) (a b e : Int) (h4 : tmps.getD 4 undef = .pointer (some ⟨p1, 0, none⟩)) (h5 : tmps.getD 5 undef = .pointer (some ⟨p2, 0, none⟩)) (h6 : tmps.getD 6 undef = .int .i64 e)
    (c1 : W.cell? ⟨p1, 0, none⟩ = some (.int .i64 a)) (c2 : W.cell? ⟨p2, 0, none⟩ = some (.int .i64 b)) : (results Try.f30 tmps).run Try.prog W = .ok (encT (a, b, e)) W := by
  have h4' : tmps[4]?.getD undef = .pointer (some ⟨p1, 0, none⟩) := by simpa using h4
  have h5' : tmps[5]?.getD undef = .pointer (some ⟨p2, 0, none⟩) := by simpa using h5
  have h6' : tmps[6]?.getD undef = .int .i64 e := by simpa using h6
  simp [results, Try.results30, go_sem, h4', h5', h6', c1, c2]
  rfl
/-- A search for the longest stretch: first day, next day, what was found: its first day, its length. -/
def fst9 (s : Int × Int × Int × Int) (d : Int) : Int := if d = s.2.1 then s.1 else d
def sStep (s : Int × Int × Int × Int) (d : Int) : Int × Int × Int × Int :=
  if s.2.2.2 < d + 1 - fst9 s d then (fst9 s d, d + 1, fst9 s d, d + 1 - fst9 s d) else (fst9 s d, d + 1, s.2.2.1, s.2.2.2)
def sF (l : List Int) : Int × Int × Int × Int := l.foldl sStep (0, -1, 0, 0)
theorem sF_snoc (l : List Int) (d : Int) : sF (l ++ [d]) = sStep (sF l) d := by simp [sF, List.foldl_append]
/-- The longest stretch, and the error. -/
def strE (L : Nat → En) (n : Nat) (q : Int) : Int × Int × Int :=
  if lC L n q = 0 then (if (sF (pickF L n (mstreakP q))).2.2.2 = 0 then (0, 0, 8) else ((sF (pickF L n (mstreakP q))).2.2.1, (sF (pickF L n (mstreakP q))).2.2.2, 0)) else (0, 0, lC L n q)
theorem cell_put {W : World} {g o Db : Nat} {v : Value} {ob : Obj} (hne : g ≠ Db) (h : W.cell? ⟨g, o, none⟩ = some v) : (W.putObj Db ob).cell? ⟨g, o, none⟩ = some v := (World.cell?_of_block (World.putObj_heap_other hne)).trans h
end Go.Proofs.Ytbmenpfpeadckaa
