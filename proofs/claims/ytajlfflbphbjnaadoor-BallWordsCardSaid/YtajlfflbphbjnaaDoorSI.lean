/-
  Slices of numbers as functions; the references' comparison of lists of numbers.
-/
import Derived.Test.YtajlfflbphbjnaaDoorA
import Derived.BigQuiet
import Derived.Deep.QuietTactic
import Derived.Deep.OwnRows
import Derived.Deep.AppendLies
namespace Go.Proofs.YtajlfflbphbjnaaDoor
open Go.RowKit
set_option linter.unusedSimpArgs false
set_option linter.unusedVariables false

/-- What a slice of numbers holds. -/
def Sn (w : World) (A : Option Addr) (n : Nat) (f : Nat → Int) : Prop :=
  0 < n → ∃ b off, A = some ⟨b, off, none⟩ ∧ b < w.heap.size ∧ ∀ j, j < n → w.cell? ⟨b, off + j, none⟩ = some (.int .i64 (f j))
theorem Sn.keep {w w' : World} {A : Option Addr} {n : Nat} {f : Nat → Int} (h : Sn w A n f) (hs : w.heap.size ≤ w'.heap.size) (hk : ∀ p : Addr, p.block < w.heap.size → w'.cell? p = w.cell? p) : Sn w' A n f := fun hn => by
  obtain ⟨b, off, e, hb, hc⟩ := h hn
  exact ⟨b, off, e, Nat.lt_of_lt_of_le hb hs, fun j hj => (hk _ hb).trans (hc j hj)⟩
theorem Sn.below {w w' : World} {A : Option Addr} {n : Nat} {f : Nat → Int} (h : Sn w A n f) (hb : Bl w w') : Sn w' A n f := h.keep hb.size fun _ hp => hb.cell hp
/-- The cells of a list of numbers. -/
def intC (l : List Int) : List Value := l.map (Value.int .i64)
theorem intC_len (l : List Int) : (intC l).length = l.length := by simp [intC]
theorem intC_snoc (l : List Int) (x : Int) : intC (l ++ [x]) = intC l ++ [.int .i64 x] := by simp [intC]
theorem sn_of_own {w : World} {base : Nat} {e : TypeId} {A : Option Addr} {c : Nat} {l : List Int} (h : w.ownsRow base e 1 (.slice A l.length c) l.length (intC l)) : Sn w A l.length (fun j => l.getD j 0) := fun hn => by
  obtain ⟨g, cap, hv, hg, hlt⟩ := h.form hn
  obtain rfl : A = some ⟨g, 0, none⟩ := by injection hv
  exact ⟨g, 0, rfl, hlt, fun j hj => by
    rw [Nat.zero_add, h.cellAt j (by omega)]
    simp [intC, hj]⟩
def eqN (f g : Nat → Int) : Nat → Bool
  | 0 => true
  | k + 1 => eqN f g k && decide (f k = g k)
theorem eqN_no (f g : Nat → Int) {k n : Nat} (hk : k < n) (h : f k ≠ g k) : eqN f g n = false := by
  induction n with
  | zero => omega
  | succ n ih =>
    by_cases e : k = n
    · subst e; simp [eqN, h]
    · simp [eqN, ih (by omega)]
theorem eqN_same (f : Nat → Int) (n : Nat) : eqN f f n = true := by
  induction n with
  | zero => rfl
  | succ n ih => simp [eqN, ih]
def sNB (n : Nat) (f : Nat → Int) (m : Nat) (g : Nat → Int) : Bool := decide (n = m) && eqN f g n
