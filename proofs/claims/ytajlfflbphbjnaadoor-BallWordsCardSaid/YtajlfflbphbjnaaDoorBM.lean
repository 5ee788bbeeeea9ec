/-
  Contracts of package ball and of its reference: the reference's Verdict, and Off of both.
-/
import Derived.Test.YtajlfflbphbjnaaDoorBK
import Derived.Test.YtajlfflbphbjnaaDoorBL
import Derived.BigQuiet
import Derived.Deep.QuietTactic
namespace Go.Proofs.YtajlfflbphbjnaaDoor
open Go.RowKit Go.Shelf
set_option linter.unusedSimpArgs false
set_option linter.unusedVariables false

theorem fst0 (E : Nat → Evt) (ki : Int) (n : Nat) : fstF E ki 0 n = match idxF E ki n with
    | some k => k
    | none => n := by
  unfold fstF
  rw [Nat.sub_zero, show (fun j => E (0 + j)) = E from funext fun j => by rw [Nat.zero_add]]
  cases idxF E ki n with
  | none => rfl
  | some k => exact Nat.zero_add k
theorem fst_le (E : Nat → Evt) (ki : Int) {a n : Nat} (h : a ≤ n) : fstF E ki a n ≤ n := by
  unfold fstF
  cases h1 : idxF (fun j => E (a + j)) ki (n - a) with
  | none => exact Nat.le_refl _
  | some k => have := (idxF_some.1 h1).1; show a + k ≤ n; omega
theorem fst_lt (E : Nat → Evt) (ki : Int) {a n : Nat} (h : a ≤ n) : fstF E ki a n < n ↔ hasF E ki a (n - a) := by
  unfold fstF
  cases h1 : idxF (fun j => E (a + j)) ki (n - a) with
  | none =>
    have := idxF_none.1 h1
    exact ⟨fun h2 => absurd h2 (Nat.lt_irrefl _), fun ⟨j, h2, h3⟩ => absurd h3 (this j h2)⟩
  | some k =>
    have := idxF_some.1 h1
    exact ⟨fun _ => ⟨k, this.1, this.2.1⟩, fun _ => (show a + k < n by have := this.1; omega)⟩
theorem fst_lt0 (E : Nat → Evt) (ki : Int) {k n : Nat} (h : k ≤ n) : fstF E ki 0 n < k ↔ hasF E ki 0 k := by
  rw [fst0]
  cases h1 : idxF E ki n with
  | none =>
    have := idxF_none.1 h1
    exact ⟨fun h2 => absurd h2 (by show ¬ n < k; omega), fun ⟨j, h2, h3⟩ => absurd (by simpa using h3) (this j (by omega))⟩
  | some i =>
    have := idxF_some.1 h1
    refine ⟨fun h2 => ⟨i, h2, by simpa using this.2.1⟩, fun ⟨j, h2, h3⟩ => ?_⟩
    rcases Nat.lt_or_ge i k with h4 | h4
    · exact h4
    · exact absurd (by simpa using h3) (this.2.2 j (by omega))
/-- What Off returns. -/
def offR (M : Mst) (E : Nat → Evt) (n : Nat) : Int × Int := if (runR M E n).2.2 = 0 then (match idxF E 4 n with
    | none => (0, 8)
    | some k => (if verL M E n = 3 then (E k).t - (M.no + M.ag) else (E k).t - M.no, 0)) else (0, (runR M E n).2.2)
theorem offR_eq {M : Mst} {E : Nat → Evt} {n : Nat} (hM : VM M) (hn : n ≤ 100) : offR M E n = offF M E n := by
  have e : runR M E n = ((runF M E n).1, (((runF M E n).2.1 : Nat) : Int), (runF M E n).2.2) := by unfold runR; rw [if_pos hM, if_neg (by omega)]
  unfold offR offF
  rw [e]
  rfl
theorem verR_ok {M : Mst} {E : Nat → Evt} {n : Nat} (h : (runR M E n).2.2 = 0) : verR M E n = (verL M E n, 0) := by unfold verR; rw [if_pos h]
end Go.Proofs.YtajlfflbphbjnaaDoor
