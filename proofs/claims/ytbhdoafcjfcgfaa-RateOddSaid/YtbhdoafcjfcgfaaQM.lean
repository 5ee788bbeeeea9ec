/-
  How a span that came in reads.
-/
import Derived.Test.YtbhdoafcjfcgfaaRR
namespace Go.Proofs.Ytbhdoafcjfcgfaa
open Go.ChangeShapes Go.WideShapes Go.ChangeAt Go.RowKit Go.Deep
set_option linter.unusedSimpArgs false
set_option linter.unusedVariables false

section
variable {H : Type} {enc : TypeId × Value → H} {w : World} {base : Nat} {spare : Nat → Bool} {held : Bool}
set_option maxRecDepth 100000 in
theorem rd_span6 {fuel : Nat} {cs : List Value} {x : DataW H × List MemPlace} (h : DataW.trod enc Try.prog w base spare held fuel 54 cs = some x) :
    ∃ lo hi : Int, cs = [.int .i64 lo, .int .i64 hi] := by
  obtain ⟨xs, n', _, hx, hlen, hl, hg⟩ := DataW.trod_struct Try.underlying54 h
  rw [kSpan6] at hlen
  have g0 := hg 0 _ rfl
  have g1 := hg 1 _ rfl
  match cs, hlen, xs, hl with
  | [c0, c1], _, [y0, y1], _ =>
    simp [kInt6] at g0 g1
    obtain ⟨u0, h0, _⟩ := DataW.trod_int Try.underlying3 g0
    obtain ⟨u1, h1, _⟩ := DataW.trod_int Try.underlying3 g1
    simp only [List.cons.injEq, and_true] at h0 h1
    obtain rfl := h0
    obtain rfl := h1
    exact ⟨u0, u1, rfl⟩
set_option maxRecDepth 100000 in
theorem op_span6 {r : Reach} {b0 : Nat} {v : Value} {d : DataW H} {p : List MemPlace} (hv : Value.okWide Try.prog w r b0 54 v) (h : DataW.Trod enc Try.prog w base spare held 54 v d p) :
    ∃ lo hi : Int, v = .agg #[.int .i64 lo, .int .i64 hi] ∧ True := by
  obtain ⟨cs, rfl, hsz⟩ := okWide_struct Try.underlying54 hv
  obtain ⟨fuel, hf⟩ := h
  obtain ⟨lo, hi, h0⟩ := rd_span6 hf
  exact ⟨lo, hi, by simp [Value.cells] at h0; rw [← h0], trivial⟩
end
end Go.Proofs.Ytbhdoafcjfcgfaa
