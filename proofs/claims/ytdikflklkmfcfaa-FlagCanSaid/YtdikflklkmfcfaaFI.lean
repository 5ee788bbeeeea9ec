/-
  Sums of digits, Right and Checked of both.
-/
import Derived.Test.YtdikflklkmfcfaaFG
namespace Go.Proofs.Ytdikflklkmfcfaa
open Go.RowKit
set_option linter.unusedSimpArgs false
set_option linter.unusedVariables false

def sumF (D : Nat → Int) : Nat → Int
  | 0 => 0
  | k + 1 => sumF D k + D k
theorem sumF_bd {D : Nat → Int} {n k : Nat} (h : dgTo D n = true) (hk : k ≤ n) : 0 ≤ sumF D k ∧ sumF D k ≤ 9 * k := by
  induction k with
  | zero => simp [sumF]
  | succ k ih =>
    have := ih (by omega)
    have := dgTo_at h (k := k) (by omega)
    rw [sumF]; omega
theorem sumF_congr {D E : Nat → Int} {k : Nat} (h : ∀ j, j < k → D j = E j) : sumF D k = sumF E k := by
  induction k with
  | zero => rfl
  | succ k ih => rw [sumF, sumF, ih (fun j hj => h j (by omega)), h k (by omega)]
/-- Digits as a list. -/
def lst (D : Nat → Int) (n : Nat) : List Nat := (List.range n).map fun j => (D j).toNat
theorem lst_len (D : Nat → Int) (n : Nat) : (lst D n).length = n := by simp [lst]
theorem lst_at {D : Nat → Int} {n j : Nat} (hj : j < n) (h0 : 0 ≤ D j) : gI (lst D n) j = D j := by
  unfold gI lst
  rw [List.getD_eq_getElem?_getD, List.getElem?_map, List.getElem?_range hj]
  simp; omega
theorem gI_left {l m : List Nat} {j : Nat} (h : j < l.length) : gI (l ++ m) j = gI l j := by
  unfold gI; rw [List.getD_eq_getElem?_getD, List.getD_eq_getElem?_getD, List.getElem?_append_left h]
theorem gI_last (l : List Nat) (x : Nat) : gI (l ++ [x]) l.length = (x : Int) := by
  unfold gI; rw [List.getD_eq_getElem?_getD, List.getElem?_append_right (Nat.le_refl _)]; simp
theorem Sl.congr7 {w : World} {A : Option Addr} {n : Nat} {f g : Nat → Int} (h : Sl w A n f) (e : ∀ j, j < n → f j = g j) : Sl w A n g := fun hn => by
  obtain ⟨b, off, h1, h2, h3⟩ := h hn
  exact ⟨b, off, h1, h2, fun j hj => by rw [h3 j hj, e j hj]⟩
theorem Sl.lst {w : World} {A : Option Addr} {n : Nat} {D : Nat → Int} (h : Sl w A n D) (hd : dgTo D n = true) : Sl w A n (gI (lst D n)) :=
  h.congr7 fun j hj => (lst_at hj (dgTo_at hd hj).1).symm
/-- What Right returns. -/
def rgV (n : Nat) (D : Nat → Int) : Value := if vdB n D = true then .tuple #[.bool (sumF D n % 10 == 0), .int .i64 0] else .tuple #[.bool false, .int .i64 1]
/-- The digit that is added. -/
def addD (D : Nat → Int) (n : Nat) : Nat := ((10 - sumF D n % 10) % 10).toNat
/-- What Checked returns where it returns no digits. -/
def ckE (n : Nat) (D : Nat → Int) : Int := if vdB n D = true then (if n = 4 then 7 else 0) else 1
theorem lit_nil7 (W : World) : (W.alloc (.cells #[] 3)).ownsRow W.heap.size 3 1 (.slice (some ⟨W.heap.size, 0, none⟩) 0 0) 0 [] := World.ownsRow_lit (base := W.heap.size) (size := 1) (e := 3) W #[] 0 (Nat.le_refl _) (by decide) rfl