/-
  Common lemmas: kept cells, numbers between bounds, slices of numbers as functions, names.
-/
import Derived.Test.YtchikfegpoonjaaA
import Derived.BigQuiet
import Derived.Deep.QuietTactic
namespace Go.Proofs.Ytchikfegpoonjaa
open Go.RowKit
set_option linter.unusedSimpArgs false
set_option linter.unusedVariables false

theorem kcb {W w1 : World} (hb : Bl W w1) {b o : Nat} {v : Value} (h : W.cell? ⟨b, o, none⟩ = some v) : w1.cell? ⟨b, o, none⟩ = some v :=
  (hb.cell (p := ⟨b, o, none⟩) (World.block_lt_of_cell? W ⟨b, o, none⟩ h)).trans h
theorem cellUp {w : World} {x : Obj} {b o : Nat} {v : Value} (h : w.cell? ⟨b, o, none⟩ = some v) : (w.alloc x).cell? ⟨b, o, none⟩ = some v :=
  kcb (W := w) (by go_grown) h
theorem ltb {w : World} {b o : Nat} {v : Value} (h : w.cell? ⟨b, o, none⟩ = some v) : b < w.heap.size := World.block_lt_of_cell? w ⟨b, o, none⟩ h
theorem fzb {W w1 : World} (hb : Bl W w1) {b o : Nat} (h : W.frozen? ⟨b, o, none⟩ = false) (hl : b < W.heap.size) : w1.frozen? ⟨b, o, none⟩ = false := (hb.frozen (p := ⟨b, o, none⟩) hl).trans h
theorem fz_new {w : World} {b o : Nat} (h : w.heap.size ≤ b) : w.frozen? ⟨b, o, none⟩ = false := by
  have : w.heap[b]? = none := by simp [h]
  simp [World.frozen?, this]

/-- A number lies between two others. -/
def inB (n lo hi : Int) : Bool := decide (lo ≤ n) && decide (n ≤ hi)
theorem inB_iff {n lo hi : Int} : inB n lo hi = true ↔ lo ≤ n ∧ n ≤ hi := by simp [inB]
theorem inB_no {n lo hi : Int} : inB n lo hi = false ↔ ¬ (lo ≤ n ∧ n ≤ hi) := by rw [← inB_iff]; simp
/-- A slice of numbers reads as a function. -/
def Sl (w : World) (A : Option Addr) (n : Nat) (f : Nat → Int) : Prop :=
  0 < n → ∃ b off, A = some ⟨b, off, none⟩ ∧ b < w.heap.size ∧ ∀ j, j < n → w.cell? ⟨b, off + j, none⟩ = some (.int .i64 (f j))
theorem Sl.keep {w w' : World} {A : Option Addr} {n : Nat} {f : Nat → Int} (h : Sl w A n f) (hs : w.heap.size ≤ w'.heap.size) (hk : ∀ p : Addr, p.block < w.heap.size → w'.cell? p = w.cell? p) : Sl w' A n f := fun hn => by
  obtain ⟨b, off, e, hb, hc⟩ := h hn
  exact ⟨b, off, e, Nat.lt_of_lt_of_le hb hs, fun j hj => (hk _ hb).trans (hc j hj)⟩
theorem Sl.below {w w' : World} {A : Option Addr} {n : Nat} {f : Nat → Int} (h : Sl w A n f) (hb : Bl w w') : Sl w' A n f := h.keep hb.size fun _ hp => hb.cell hp

def byt (s : ByteArray) (k : Nat) : Nat := (s.data.toList.getD k 0).toNat
theorem byt_eq (s : ByteArray) (k : Nat) (h : k < s.size) : s[k].toNat = byt s k := by
  have h' : k < s.data.toList.length := by simpa using h
  unfold byt
  rw [List.getD_eq_getElem?_getD, List.getElem?_eq_getElem h']
  rfl
def smN (n : Nat) : Bool := decide (97 ≤ n) && decide (n ≤ 122)
def tlN (n : Nat) : Bool := decide (48 ≤ n ∧ n ≤ 57) || decide (n = 95)
def okN (k n : Nat) : Bool := smN n || (decide (k ≠ 0) && tlN n)
def okTo (s : ByteArray) : Nat → Bool
  | 0 => true
  | k + 1 => okTo s k && okN k (byt s k)
def nmB (s : ByteArray) : Bool := decide (1 ≤ s.size) && decide (s.size ≤ 16) && okTo s s.size
theorem okTo_no (s : ByteArray) {k n : Nat} (hk : k < n) (h : okN k (byt s k) = false) : okTo s n = false := by
  induction n with
  | zero => omega
  | succ n ih =>
    by_cases e : k = n
    · subst e; simp [okTo, h]
    · simp [okTo, ih (by omega)]

def eqTo (f g : Nat → Int) : Nat → Bool
  | 0 => true
  | k + 1 => eqTo f g k && decide (f k = g k)
theorem eqTo_no (f g : Nat → Int) {k n : Nat} (hk : k < n) (h : f k ≠ g k) : eqTo f g n = false := by
  induction n with
  | zero => omega
  | succ n ih =>
    by_cases e : k = n
    · subst e; simp [eqTo, h]
    · simp [eqTo, ih (by omega)]
theorem eqTo_same (f : Nat → Int) (n : Nat) : eqTo f f n = true := by
  induction n with
  | zero => rfl
  | succ n ih => simp [eqTo, ih]
def sIB (n : Nat) (f : Nat → Int) (m : Nat) (g : Nat → Int) : Bool := decide (n = m) && eqTo f g n


end Go.Proofs.Ytchikfegpoonjaa
