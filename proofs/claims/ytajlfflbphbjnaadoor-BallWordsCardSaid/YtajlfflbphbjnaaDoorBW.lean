/-
  Wires in pure terms.
-/
import Derived.Test.YtajlfflbphbjnaaDoorBA
namespace Go.Proofs.YtajlfflbphbjnaaDoor

def rOk (r : Rly) : Prop := 0 ≤ r.lag ∧ r.lag ≤ 10000 ∧ 0 ≤ r.spr ∧ r.spr ≤ r.lag
instance (r : Rly) : Decidable (rOk r) := by unfold rOk; exact inferInstance
def VW (R : Nat → Rly) (n : Nat) : Prop := 1 ≤ n ∧ n ≤ 20 ∧ ∀ j, j < n → rOk (R j)
instance (R : Nat → Rly) (n : Nat) : Decidable (VW R n) := by unfold VW; exact inferInstance
def lagS (R : Nat → Rly) : Nat → Int
  | 0 => 0
  | n + 1 => lagS R n + (R n).lag
def sprS (R : Nat → Rly) : Nat → Int
  | 0 => 0
  | n + 1 => sprS R n + (R n).spr
theorem sums_bd {R : Nat → Rly} {n : Nat} (h : ∀ j, j < n → rOk (R j)) : 0 ≤ sprS R n ∧ sprS R n ≤ lagS R n ∧ lagS R n ≤ 10000 * n := by
  induction n with
  | zero => simp [lagS, sprS]
  | succ n ih =>
    have := ih fun j hj => h j (by omega)
    obtain ⟨a, b, c, d⟩ := h n (by omega)
    simp only [lagS, sprS]
    omega
theorem wire_bd {R : Nat → Rly} {n : Nat} (h : VW R n) {k : Nat} (hk : k ≤ n) : 0 ≤ sprS R k ∧ sprS R k ≤ lagS R k ∧ lagS R k ≤ 200000 := by
  have := sums_bd (n := k) fun j hj => h.2.2 j (by omega)
  have := h.2.1
  omega
end Go.Proofs.YtajlfflbphbjnaaDoor
