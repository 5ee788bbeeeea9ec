/-
  Contracts of the reference of package ball: Run, Verdict, Off.
-/
import Derived.Test.YtajlfflbphbjnaaDoorBJ
namespace Go.Proofs.YtajlfflbphbjnaaDoor
open Go.RowKit Go.Shelf
set_option linter.unusedSimpArgs false
set_option linter.unusedVariables false

theorem nxt_run {M : Mst} (hM : VM M) (E : Nat → Evt) (k : Nat) (e : Evt) : nxtF M (runF M E k).1 e = stp M (runF M E k).1 e := if_pos ⟨hM, runF_vs M E k⟩
theorem stp_zero {M : Mst} {s : Bal} {e : Evt} (h : (stp M s e).2 ≠ 0) : (stp M s e).1 = Bal.zero := by
  unfold stp at h ⊢
  split
  · rename_i h1
    rw [if_pos h1] at h
    split
    · rename_i h2; rw [if_pos h2] at h; exact absurd rfl h
    · rfl
  · rfl
