/-
  Shifted of the reference; SameBox of equal boxes.
-/
import Derived.Test.YtalofhbmkllifaaRO
import Derived.Test.YtalofhbmkllifaaRB
namespace Go.Proofs.Ytalofhbmkllifaa
open Go.RowKit
set_option linter.unusedSimpArgs false
set_option linter.unusedVariables false

theorem Bl.dq6 (w : World) (n : Nat) : Bl w (w.drewN n) := by
  induction n with
  | zero => exact Bl.rf _
  | succ n ih => exact ih.drew
theorem sIB_same (n : Nat) (f : Nat → Int) : sIB n f n f = true := by simp [sIB, eqTo_same]
set_option maxRecDepth 100000 in
set_option maxHeartbeats 1600000 in
theorem sameBox_any (s : ByteArray) (A : Option Addr) (n c : Nat) (B : Option Addr) (d : Nat) (f : Nat → Int) (w : World) (hn : n ≤ maxLen) (hA : Sl w A n f) (hB : Sl w B n f) :
    Calls Try.prog 8 #[encB s A n c, encB s B n d] w fun e w' => e = .returned (.bool true) ∧ Bl w w' := by
  have HA := Lib.hid hA
  have HB := Lib.hid hB
  have HN := Lib.hid hn
  clear hA hB hn
  have HS := Lib.hid (sIB_same n f)
  go_enter Try.func8, Try.ntmps8
  go_wp2_with fail
  refine (sameInts_any A n c f B n d f _ HN.out HN.out (HA.out.below (by go_grown)) (HB.out.below (by go_grown))).mono ?_
  rintro e w1 ⟨rfl, N, hw⟩
  have B1 : Bl w w1 := by rw [hw]; exact Below.trans (by go_grown) ((Bl.dq6 _ N).mono (by (try simp only [World.size_alloc]); omega))
  clear hw
  rw [HS.out]
  go_wp2_with fail
  go_ret
  exact ⟨rfl, B1⟩

theorem Sl.setb {w : World} {A : Option Addr} {n : Nat} {f : Nat → Int} (h : Sl w A n f) {b o : Nat} {u : Value} (hb : ∀ g, A = some g → b ≠ g.block) : Sl (w.setCell ⟨b, o, none⟩ u) A n f := fun hn => by
  obtain ⟨b', off', e, hl, hc⟩ := h hn
  refine ⟨b', off', e, by simpa using hl, fun j hj => ?_⟩
  rw [← hc j hj]
  exact World.cell?_of_block (Below.heap_setCell _ _ _ b' (fun e' => hb _ e (by rw [e'])))
