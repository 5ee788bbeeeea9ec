/-
  How boxes, lists of boxes and of numbers that came in read.
-/
import Derived.Test.YtbhdoafcjfcgfaaRK
import Derived.ProofKit
import Derived.OpenShut
import Derived.ShutString
import Derived.ChangeOld
import Derived.Below
import Derived.ChangeSame
import Derived.ChangeSlices
import Derived.Deep.Slices
namespace Go.Proofs.Ytbhdoafcjfcgfaa
open Go.ChangeShapes Go.WideShapes Go.ChangeAt Go.RowKit Go.Deep
set_option linter.unusedSimpArgs false
set_option linter.unusedVariables false

theorem kBox6 : Try.prog.cellsOf 24 = 2 := by kernel_rfl
theorem kInts6 : Try.prog.cellsOf 22 = 1 := by kernel_rfl
theorem kInt6 : Try.prog.cellsOf 3 = 1 := by kernel_rfl
theorem kStr6 : Try.prog.cellsOf 9 = 1 := by kernel_rfl
theorem kSpan6 : Try.prog.cellsOf 54 = 2 := by kernel_rfl
theorem kTrial6 : Try.prog.cellsOf 39 = 5 := by kernel_rfl
section
variable {H : Type} {enc : TypeId × Value → H} {w : World} {base : Nat} {spare : Nat → Bool} {held : Bool}
set_option maxRecDepth 100000 in
theorem rd_ints6 {fuel : Nat} {cs : List Value} {x : DataW H × List MemPlace} (h : DataW.trod enc Try.prog w base spare held fuel 22 cs = some x) :
    ∃ (A : Option Addr) (n c : Nat) (f : Nat → Int), cs = [.slice A n c] ∧ (n ≤ c ∧ c ≤ maxLen) ∧ Sl w A n f := by
  rcases open_ints Try.underlying22 Try.underlying3 kInt6 h with ⟨hcs, _⟩ | ⟨a, len, cap, zs, hcs, _, hl, hm, hz, _, hcell, _⟩
  · exact ⟨none, 0, 0, fun _ => 0, hcs, by decide, fun h => absurd h (by omega)⟩
  · refine ⟨some a, len, cap, fun j => zs.getD j 0, hcs, ⟨by omega, by omega⟩, fun hn => ?_⟩
    have hzl : len ≤ zs.length := by rw [hz]; split <;> omega
    obtain ⟨b, off, spot⟩ := a
    have hspot : spot = none := by simpa [Addr.add] using World.cell?_spot (hcell 0 (by omega))
    subst hspot
    refine ⟨b, off, rfl, ?_, fun j hj => by rw [← add_plain]; exact hcell j (by omega)⟩
    have := hcell 0 (by omega)
    exact World.block_lt_of_cell? w _ (by rw [add_plain] at this; exact this)
set_option maxRecDepth 100000 in
theorem op_ints6 {r : Reach} {b0 : Nat} {v : Value} {d : DataW H} {p : List MemPlace} (hv : Value.okWide Try.prog w r b0 22 v) (h : DataW.Trod enc Try.prog w base spare held 22 v d p) :
    ∃ (A : Option Addr) (n c : Nat) (f : Nat → Int), v = .slice A n c ∧ (n ≤ c ∧ c ≤ maxLen) ∧ Sl w A n f := by
  obtain ⟨A, n, c, rfl⟩ := okWide_slice Try.underlying22 hv
  obtain ⟨fuel, hf⟩ := h
  obtain ⟨A', n', c', f, h0, h1, h2⟩ := rd_ints6 hf
  simp [Value.cells] at h0
  obtain ⟨rfl, rfl, rfl⟩ := h0
  exact ⟨_, _, _, f, rfl, h1, h2⟩
set_option maxRecDepth 100000 in
theorem rd_bx {fuel : Nat} {cs : List Value} {x : DataW H × List MemPlace} (h : DataW.trod enc Try.prog w base spare held fuel 24 cs = some x) :
    ∃ X : Bx, cs = [.string X.s, .slice X.A X.n X.c] ∧ BxOk w X := by
  obtain ⟨xs, n', _, hx, hlen, hl, hg⟩ := DataW.trod_struct Try.underlying24 h
  rw [kBox6] at hlen
  have g0 := hg 0 _ rfl
  have g1 := hg 1 _ rfl
  match cs, hlen, xs, hl with
  | [c0, c1], _, [y0, y1], _ =>
    simp [kStr6, kInts6] at g0 g1
    obtain ⟨s, h0, _, hs⟩ := DataW.trod_string Try.underlying9 g0
    obtain ⟨A, n, c, f, h1, ⟨h2, h3⟩, h4⟩ := rd_ints6 g1
    simp only [List.cons.injEq, and_true] at h0 h1
    subst h0 h1
    exact ⟨⟨s, A, n, c, f⟩, rfl, hs, h2, h3, h4⟩
set_option maxRecDepth 100000 in
theorem op_bx {r : Reach} {b0 : Nat} {v : Value} {d : DataW H} {p : List MemPlace} (hv : Value.okWide Try.prog w r b0 24 v) (h : DataW.Trod enc Try.prog w base spare held 24 v d p) :
    ∃ X : Bx, v = .agg #[.string X.s, .slice X.A X.n X.c] ∧ BxOk w X := by
  obtain ⟨cs, rfl, hsz⟩ := okWide_struct Try.underlying24 hv
  obtain ⟨fuel, hf⟩ := h
  obtain ⟨X, h0, h1⟩ := rd_bx hf
  exact ⟨X, by simp [Value.cells] at h0; rw [← h0], h1⟩
set_option maxRecDepth 100000 in
theorem op_bxs {r : Reach} {b0 : Nat} {v : Value} {d : DataW H} {p : List MemPlace} (hv : Value.okWide Try.prog w r b0 36 v) (h : DataW.Trod enc Try.prog w base spare held 36 v d p) :
    ∃ (A : Option Addr) (n c : Nat) (R : Nat → Bx), v = .slice A n c ∧ (n ≤ c ∧ c ≤ maxLen) ∧ (∀ j, j < n → BxOk w (R j)) ∧ Bxl w A n R := by
  obtain ⟨A, n, c, rfl⟩ := okWide_slice Try.underlying36 hv
  obtain ⟨fuel, hf⟩ := h
  rcases open_slice Try.underlying36 hf with ⟨hcs, _⟩ | ⟨a, len, cap, m, n', D, Pl, hcs, hb, hl, hm, hmm, hx, hi⟩
  · simp [Value.cells] at hcs
    obtain ⟨rfl, rfl, rfl⟩ := hcs
    exact ⟨none, 0, 0, fun _ => ⟨⟨#[]⟩, none, 0, 0, fun _ => 0⟩, rfl, ⟨by decide, by decide⟩, fun j hj => absurd hj (by omega), fun h => absurd h (by omega)⟩
  · simp [Value.cells] at hcs
    obtain ⟨rfl, rfl, rfl⟩ := hcs
    have hml : n ≤ m := by rw [hmm]; split <;> omega
    have key : ∀ i, ∃ x : Bx, i < n → (w.cell? ((a.add (i * 2)).add 0) = some (.string x.s) ∧ w.cell? ((a.add (i * 2)).add 1) = some (.slice x.A x.n x.c)) ∧ BxOk w x := by
      intro i
      by_cases hin : i < n
      · obtain ⟨cs', hc, ht⟩ := hi i (by omega)
        rw [kBox6] at hc
        obtain ⟨_, _, hat⟩ := World.cells?_some hc
        obtain ⟨x, rfl, hx⟩ := rd_bx ht
        exact ⟨x, fun _ => ⟨⟨hat 0 (by omega), hat 1 (by omega)⟩, hx⟩⟩
      · exact ⟨⟨⟨#[]⟩, none, 0, 0, fun _ => 0⟩, fun h => absurd h hin⟩
    obtain ⟨R, hR⟩ := Classical.axiomOfChoice key
    refine ⟨some a, n, c, R, rfl, ⟨hl, hm⟩, fun j hj => (hR j hj).2, fun hn => ?_⟩
    obtain ⟨b, off, spot⟩ := a
    have hspot : spot = none := by simpa [Addr.add] using World.cell?_spot (hR 0 hn).1.1
    subst hspot
    refine ⟨b, off, rfl, ?_, fun j hj => ?_⟩
    · have := (hR 0 hn).1.1
      rw [add_plain, add_plain] at this
      exact World.block_lt_of_cell? w _ this
    · have h1 := (hR j hj).1
      rw [add_plain, add_plain, add_plain] at h1
      exact h1
end
end Go.Proofs.Ytbhdoafcjfcgfaa
