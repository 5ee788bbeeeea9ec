/-
  How chances, lists of chances, of spans and of numbers that came in read.
-/
import Derived.Test.YtbmenpfpeadckaaNS
import Derived.ProofKit
import Derived.OpenShut
import Derived.ShutString
import Derived.ChangeOld
import Derived.Below
import Derived.ChangeSame
import Derived.ChangeSlices
import Derived.Deep.Slices
namespace Go.Proofs.Ytbmenpfpeadckaa
open Go.ChangeShapes Go.WideShapes Go.ChangeAt Go.RowKit Go.Deep
set_option linter.unusedSimpArgs false
set_option linter.unusedVariables false

theorem kCh8 : Try.prog.cellsOf 56 = 5 := by kernel_rfl
theorem kInt8 : Try.prog.cellsOf 3 = 1 := by kernel_rfl
theorem kStr8 : Try.prog.cellsOf 9 = 1 := by kernel_rfl
theorem kSpan8 : Try.prog.cellsOf 102 = 2 := by kernel_rfl
section
variable {H : Type} {enc : TypeId × Value → H} {w : World} {base : Nat} {spare : Nat → Bool} {held : Bool}
set_option maxRecDepth 100000 in
theorem rd_ch {fuel : Nat} {cs : List Value} {x : DataW H × List MemPlace} (h : DataW.trod enc Try.prog w base spare held fuel 56 cs = some x) :
    ∃ X : Ch, cs = [.string X.nm, .int .i64 X.fr, .int .i64 X.to, .int .i64 X.tl, .int .i64 X.wo] ∧ X.nm.size ≤ maxLen := by
  obtain ⟨xs, n', _, hx, hlen, hl, hg⟩ := DataW.trod_struct Try.underlying56 h
  rw [kCh8] at hlen
  have g0 := hg 0 _ rfl
  have g1 := hg 1 _ rfl
  have g2 := hg 2 _ rfl
  have g3 := hg 3 _ rfl
  have g4 := hg 4 _ rfl
  match cs, hlen, xs, hl with
  | [c0, c1, c2, c3, c4], _, [y0, y1, y2, y3, y4], _ =>
    simp [kStr8, kInt8] at g0 g1 g2 g3 g4
    obtain ⟨s, h0, _, hs⟩ := DataW.trod_string Try.underlying9 g0
    obtain ⟨u1, h1, _⟩ := DataW.trod_int Try.underlying3 g1
    obtain ⟨u2, h2, _⟩ := DataW.trod_int Try.underlying3 g2
    obtain ⟨u3, h3, _⟩ := DataW.trod_int Try.underlying3 g3
    obtain ⟨u4, h4, _⟩ := DataW.trod_int Try.underlying3 g4
    simp only [List.cons.injEq, and_true] at h0 h1 h2 h3 h4
    subst h0 h1 h2 h3 h4
    exact ⟨⟨s, u1, u2, u3, u4⟩, rfl, hs⟩
set_option maxRecDepth 100000 in
theorem op_ch {r : Reach} {b0 : Nat} {v : Value} {d : DataW H} {p : List MemPlace} (hv : Value.okWide Try.prog w r b0 56 v) (h : DataW.Trod enc Try.prog w base spare held 56 v d p) :
    ∃ X : Ch, v = encC X ∧ X.nm.size ≤ maxLen := by
  obtain ⟨cs, rfl, hsz⟩ := okWide_struct Try.underlying56 hv
  obtain ⟨fuel, hf⟩ := h
  obtain ⟨X, h0, h1⟩ := rd_ch hf
  exact ⟨X, by simp [Value.cells] at h0; unfold encC; rw [← h0], h1⟩
set_option maxRecDepth 100000 in
theorem op_chs {r : Reach} {b0 : Nat} {v : Value} {d : DataW H} {p : List MemPlace} (hv : Value.okWide Try.prog w r b0 22 v) (h : DataW.Trod enc Try.prog w base spare held 22 v d p) :
    ∃ (A : Option Addr) (n c : Nat) (L : Nat → Ch), v = .slice A n c ∧ (n ≤ c ∧ c ≤ maxLen) ∧ (∀ j, j < n → (L j).nm.size ≤ maxLen) ∧ Chl w A n L := by
  obtain ⟨A, n, c, rfl⟩ := okWide_slice Try.underlying22 hv
  obtain ⟨fuel, hf⟩ := h
  rcases open_slice Try.underlying22 hf with ⟨hcs, _⟩ | ⟨a, len, cap, m, n', D, Pl, hcs, hb, hl, hm, hmm, hx, hi⟩
  · simp [Value.cells] at hcs
    obtain ⟨rfl, rfl, rfl⟩ := hcs
    exact ⟨none, 0, 0, fun _ => ⟨⟨#[]⟩, 0, 0, 0, 0⟩, rfl, ⟨by decide, by decide⟩, fun j hj => absurd hj (by omega), fun h => absurd h (by omega)⟩
  · simp [Value.cells] at hcs
    obtain ⟨rfl, rfl, rfl⟩ := hcs
    have hml : n ≤ m := by rw [hmm]; split <;> omega
    have key : ∀ i, ∃ x : Ch, i < n → (w.cell? ((a.add (i * 5)).add 0) = some (.string x.nm) ∧ w.cell? ((a.add (i * 5)).add 1) = some (.int .i64 x.fr) ∧ w.cell? ((a.add (i * 5)).add 2) = some (.int .i64 x.to) ∧ w.cell? ((a.add (i * 5)).add 3) = some (.int .i64 x.tl) ∧ w.cell? ((a.add (i * 5)).add 4) = some (.int .i64 x.wo)) ∧ x.nm.size ≤ maxLen := by
      intro i
      by_cases hin : i < n
      · obtain ⟨cs', hc, ht⟩ := hi i (by omega)
        rw [kCh8] at hc
        obtain ⟨_, _, hat⟩ := World.cells?_some hc
        obtain ⟨x, rfl, hx⟩ := rd_ch ht
        exact ⟨x, fun _ => ⟨⟨hat 0 (by omega), hat 1 (by omega), hat 2 (by omega), hat 3 (by omega), hat 4 (by omega)⟩, hx⟩⟩
      · exact ⟨⟨⟨#[]⟩, 0, 0, 0, 0⟩, fun h => absurd h hin⟩
    obtain ⟨T, hT⟩ := Classical.axiomOfChoice key
    refine ⟨some a, n, c, T, rfl, ⟨hl, hm⟩, fun j hj => (hT j hj).2, fun hn => ?_⟩
    obtain ⟨b, off, spot⟩ := a
    have hspot : spot = none := by simpa [Addr.add] using World.cell?_spot (hT 0 hn).1.1
    subst hspot
    refine ⟨b, off, rfl, ?_, fun j hj => ?_⟩
    · have := (hT 0 hn).1.1
      exact World.block_lt_of_cell? w _ (by rw [add_plain, add_plain] at this; exact this)
    · obtain ⟨h0, h1, h2, h3, h4⟩ := (hT j hj).1
      rw [add_plain, add_plain] at h0 h1 h2 h3 h4
      exact ⟨h0, h1, h2, h3, h4⟩
set_option maxRecDepth 100000 in
theorem rd_span8 {fuel : Nat} {cs : List Value} {x : DataW H × List MemPlace} (h : DataW.trod enc Try.prog w base spare held fuel 102 cs = some x) :
    ∃ s : Sp2, cs = [.int .i64 s.lo, .int .i64 s.hi] := by
  obtain ⟨xs, n', _, hx, hlen, hl, hg⟩ := DataW.trod_struct Try.underlying102 h
  rw [kSpan8] at hlen
  have g0 := hg 0 _ rfl
  have g1 := hg 1 _ rfl
  match cs, hlen, xs, hl with
  | [c0, c1], _, [y0, y1], _ =>
    simp [kInt8] at g0 g1
    obtain ⟨u0, h0, _⟩ := DataW.trod_int Try.underlying3 g0
    obtain ⟨u1, h1, _⟩ := DataW.trod_int Try.underlying3 g1
    simp only [List.cons.injEq, and_true] at h0 h1
    obtain rfl := h0
    obtain rfl := h1
    exact ⟨⟨u0, u1⟩, rfl⟩
set_option maxRecDepth 100000 in
theorem op_spans8 {r : Reach} {b0 : Nat} {v : Value} {d : DataW H} {p : List MemPlace} (hv : Value.okWide Try.prog w r b0 23 v) (h : DataW.Trod enc Try.prog w base spare held 23 v d p) :
    ∃ (A : Option Addr) (n c : Nat) (S : Nat → Sp2), v = .slice A n c ∧ n ≤ maxLen ∧ Spl w A n S := by
  obtain ⟨A, n, c, rfl⟩ := okWide_slice Try.underlying23 hv
  obtain ⟨fuel, hf⟩ := h
  rcases open_slice Try.underlying23 hf with ⟨hcs, _⟩ | ⟨a, len, cap, m, n', D, Pl, hcs, hb, hl, hm, hmm, hx, hi⟩
  · simp [Value.cells] at hcs
    obtain ⟨rfl, rfl, rfl⟩ := hcs
    exact ⟨none, 0, 0, fun _ => ⟨0, 0⟩, rfl, by decide, fun h => absurd h (by omega)⟩
  · simp [Value.cells] at hcs
    obtain ⟨rfl, rfl, rfl⟩ := hcs
    have hml : n ≤ m := by rw [hmm]; split <;> omega
    have key : ∀ i, ∃ x : Sp2, i < n → w.cell? ((a.add (i * 2)).add 0) = some (.int .i64 x.lo) ∧ w.cell? ((a.add (i * 2)).add 1) = some (.int .i64 x.hi) := by
      intro i
      by_cases hin : i < n
      · obtain ⟨cs', hc, ht⟩ := hi i (by omega)
        rw [kSpan8] at hc
        obtain ⟨_, _, hat⟩ := World.cells?_some hc
        obtain ⟨x, rfl⟩ := rd_span8 ht
        exact ⟨x, fun _ => ⟨hat 0 (by omega), hat 1 (by omega)⟩⟩
      · exact ⟨⟨0, 0⟩, fun h => absurd h hin⟩
    obtain ⟨T, hT⟩ := Classical.axiomOfChoice key
    refine ⟨some a, n, c, T, rfl, by omega, fun hn => ?_⟩
    obtain ⟨b, off, spot⟩ := a
    have hspot : spot = none := by simpa [Addr.add] using World.cell?_spot (hT 0 hn).1
    subst hspot
    refine ⟨b, off, rfl, ?_, fun j hj => ?_⟩
    · have := (hT 0 hn).1
      exact World.block_lt_of_cell? w _ (by rw [add_plain, add_plain] at this; exact this)
    · obtain ⟨h0, h1⟩ := hT j hj
      rw [add_plain, add_plain] at h0 h1
      exact ⟨h0, h1⟩
end
end Go.Proofs.Ytbmenpfpeadckaa
