/-
  Package sight and its reference: what the changes of a net return; Added of the program.
-/
import Derived.Test.YtchikfegpoonjaaUF
import Derived.Test.YtchikfegpoonjaaUO
import Derived.Test.YtchikfegpoonjaaUC
namespace Go.Proofs.Ytchikfegpoonjaa
open Go.RowKit Go.Maps
set_option linter.unusedSimpArgs false
set_option linter.unusedVariables false

/-- A net and an error. -/
structure NetF where
  n : Nat
  R : Nat → Int
  m : Nat
  S : Nat → Sgt
  k : Int
def noN (k : Int) : NetF := ⟨0, fun _ => 0, 0, fun _ => ⟨0, 0, 0, 0, 0⟩, k⟩
/-- A call returns a net that reads so, and the error. -/
def NetPost (F : NetF) (w : World) (e : Ending) (w' : World) : Prop :=
  ∃ A c B d, e = .returned (.tuple #[encN A F.n c B F.m d, .int .i64 F.k]) ∧ F.n ≤ maxLen ∧ F.m ≤ maxLen ∧ Sl w' A F.n F.R ∧ Sgl w' B F.m F.S ∧ Bl w w'
theorem netPost_no {k : Int} {w w' : World} (h : Bl w w') : NetPost (noN k) w (.returned (.tuple #[encN none 0 0 none 0 0, .int .i64 k])) w' :=
  ⟨none, 0, none, 0, rfl, by simp [noN], by simp [noN], fun h => absurd h (by simp [noN]), fun h => absurd h (by simp [noN]), h⟩
/-- A net with a sight more. -/
def addS (S : Nat → Sgt) (m : Nat) (s : Sgt) (j : Nat) : Sgt := if j < m then S j else s
theorem addS_cells (S : Nat → Sgt) (m : Nat) (s : Sgt) : sgC S m ++ cellsG s = sgC (addS S m s) (m + 1) := by
  rw [sgC, sgC_congr (f := addS S m s) (g := S) (fun j hj => by simp [addS, hj])]
  simp [addS]
def addFG (R : Nat → Int) (n : Nat) (S : Nat → Sgt) (m : Nat) (s : Sgt) : NetF :=
  if (vnB R n S m && sgB n s) = false then noN 1 else if m = 30 then noN 4 else ⟨n, R, m + 1, addS S m s, 0⟩
theorem addS_one {w : World} {b : Nat} {s : Sgt} (h0 : w.cell? ⟨b, 0, none⟩ = some (.int .i64 s.tm)) (h1 : w.cell? ⟨b, 1, none⟩ = some (.int .i64 s.ca)) (h2 : w.cell? ⟨b, 2, none⟩ = some (.int .i64 s.cb)) (h3 : w.cell? ⟨b, 3, none⟩ = some (.int .i64 s.lo)) (h4 : w.cell? ⟨b, 4, none⟩ = some (.int .i64 s.hi)) :
    ∀ j u, (cellsG s)[j]? = some u → w.cell? ((⟨b, 0, none⟩ : Addr).add j) = some u := fun j u hu => by
  have hj : j < 5 := (List.getElem?_eq_some_iff.1 hu).1
  rw [show (⟨b, 0, none⟩ : Addr).add j = ⟨b, 0 + j, none⟩ by unfold Addr.add; split <;> simp_all]
  have hj5 : j = 0 ∨ j = 1 ∨ j = 2 ∨ j = 3 ∨ j = 4 := by omega
  rcases hj5 with rfl | rfl | rfl | rfl | rfl <;> simp [cellsG] at hu <;> subst hu <;> assumption
theorem cellsG_one (s : Sgt) : ∀ u ∈ cellsG s, u.oneCell' = true := fun u hu => by
  simp only [cellsG, List.mem_cons, List.not_mem_nil, or_false] at hu
  rcases hu with rfl | rfl | rfl | rfl | rfl <;> rfl