/-
  How a list of spans that came in reads, with its capacity.
-/
import Derived.Test.YtbmenpfpeadckaaNT
import Derived.ProofKit
import Derived.OpenShut
import Derived.ShutString
import Derived.ChangeOld
import Derived.Below
import Derived.ChangeSame
import Derived.ChangeSlices
import Derived.Deep.Slices
namespace Go.Proofs.Ytbmenpfpeadckaa
open Go.ChangeShapes Go.WideShapes Go.ChangeAt Go.RowKit Go.Deep
set_option linter.unusedSimpArgs false
set_option linter.unusedVariables false

theorem rngN {x : Int} (h : (Lit.int .i64 x).wf = true) : -9223372036854775808 ≤ x ∧ x ≤ 9223372036854775807 := by simp only [Lit.wf, Bool.and_eq_true, decide_eq_true_eq] at h; exact h
section
variable {H : Type} {enc : TypeId × Value → H} {w : World} {base : Nat} {spare : Nat → Bool} {held : Bool}
set_option maxRecDepth 100000 in
theorem op_spans9 {r : Reach} {b0 : Nat} {v : Value} {d : DataW H} {p : List MemPlace} (hv : Value.okWide Try.prog w r b0 23 v) (h : DataW.Trod enc Try.prog w base spare held 23 v d p) :
    ∃ (A : Option Addr) (n c : Nat) (S : Nat → Sp2), v = .slice A n c ∧ (n ≤ c ∧ c ≤ maxLen) ∧ Spl w A n S := by
  obtain ⟨A, n, c, rfl⟩ := okWide_slice Try.underlying23 hv
  obtain ⟨fuel, hf⟩ := h
  rcases open_slice Try.underlying23 hf with ⟨hcs, _⟩ | ⟨a, len, cap, m, n', D, Pl, hcs, hb, hl, hm, hmm, hx, hi⟩
  · simp [Value.cells] at hcs
    obtain ⟨rfl, rfl, rfl⟩ := hcs
    exact ⟨none, 0, 0, fun _ => ⟨0, 0⟩, rfl, ⟨by decide, by decide⟩, fun h => absurd h (by omega)⟩
  · simp [Value.cells] at hcs
    obtain ⟨rfl, rfl, rfl⟩ := hcs
    have hml : n ≤ m := by rw [hmm]; split <;> omega
    have key : ∀ i, ∃ x : Sp2, i < n → w.cell? ((a.add (i * 2)).add 0) = some (.int .i64 x.lo) ∧ w.cell? ((a.add (i * 2)).add 1) = some (.int .i64 x.hi) := by
      intro i
      by_cases hin : i < n
      · obtain ⟨cs', hc, ht⟩ := hi i (by omega)
        rw [kSpan8] at hc
        obtain ⟨_, _, hat⟩ := World.cells?_some hc
        obtain ⟨x, rfl⟩ := rd_span8 ht
        exact ⟨x, fun _ => ⟨hat 0 (by omega), hat 1 (by omega)⟩⟩
      · exact ⟨⟨0, 0⟩, fun h => absurd h hin⟩
    obtain ⟨T, hT⟩ := Classical.axiomOfChoice key
    refine ⟨some a, n, c, T, rfl, ⟨by omega, by omega⟩, fun hn => ?_⟩
    obtain ⟨b, off, spot⟩ := a
    have hspot : spot = none := by simpa [Addr.add] using World.cell?_spot (hT 0 hn).1
    subst hspot
    refine ⟨b, off, rfl, ?_, fun j hj => ?_⟩
    · have := (hT 0 hn).1
      exact World.block_lt_of_cell? w _ (by rw [add_plain, add_plain] at this; exact this)
    · obtain ⟨h0, h1⟩ := hT j hj
      rw [add_plain, add_plain] at h0 h1
      exact ⟨h0, h1⟩
end
end Go.Proofs.Ytbmenpfpeadckaa
