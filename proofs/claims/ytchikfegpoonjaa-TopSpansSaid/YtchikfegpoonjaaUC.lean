/-
  Package sight: Proves, all answers in one; the laws' last check.
-/
import Derived.Test.YtchikfegpoonjaaUB
namespace Go.Proofs.Ytchikfegpoonjaa
open Go.RowKit Go.Maps
set_option linter.unusedSimpArgs false
set_option linter.unusedVariables false

def twT (j : Nat) : Int := if j = 0 then 0 else 3
theorem two_prv : prvV twR twS 2 twT 2 = true := by decide +kernel
theorem sgl_less {w : World} {A : Option Addr} {n k : Nat} {S : Nat → Sgt} (h : Sgl w A n S) (hk : k ≤ n) : Sgl w A k S := fun h0 => by
  obtain ⟨b, off, e, hl, hc⟩ := h (by omega)
  exact ⟨b, off, e, hl, fun j hj => hc j (by omega)⟩