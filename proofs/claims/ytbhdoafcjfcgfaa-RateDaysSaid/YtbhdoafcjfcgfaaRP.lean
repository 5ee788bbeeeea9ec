/-
  Shifted of the reference; SameBox of equal boxes.
-/
import Derived.Test.YtbhdoafcjfcgfaaRO
import Derived.Test.YtbhdoafcjfcgfaaRB
namespace Go.Proofs.Ytbhdoafcjfcgfaa
open Go.RowKit
set_option linter.unusedSimpArgs false
set_option linter.unusedVariables false

theorem Bl.dq6 (w : World) (n : Nat) : Bl w (w.drewN n) := by
  induction n with
  | zero => exact Bl.rf _
  | succ n ih => exact ih.drew
theorem sIB_same (n : Nat) (f : Nat → Int) : sIB n f n f = true := by simp [sIB, eqTo_same]
theorem Sl.setb {w : World} {A : Option Addr} {n : Nat} {f : Nat → Int} (h : Sl w A n f) {b o : Nat} {u : Value} (hb : ∀ g, A = some g → b ≠ g.block) : Sl (w.setCell ⟨b, o, none⟩ u) A n f := fun hn => by
  obtain ⟨b', off', e, hl, hc⟩ := h hn
  refine ⟨b', off', e, by simpa using hl, fun j hj => ?_⟩
  rw [← hc j hj]
  exact World.cell?_of_block (Below.heap_setCell _ _ _ b' (fun e' => hb _ e (by rw [e'])))
