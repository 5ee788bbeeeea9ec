/-
  How air, places, legs, boxes, shots and lists of them that came in read.
-/
import Derived.Test.YthemoomfbbccjaaGB
import Derived.ProofKit
import Derived.OpenShut
import Derived.ShutString
import Derived.ChangeOld
import Derived.Below
import Derived.ChangeSame
import Derived.ChangeSlices
import Derived.Deep.Slices
namespace Go.Proofs.Ythemoomfbbccjaa
open Go.ChangeShapes Go.WideShapes Go.ChangeAt Go.RowKit Go.Deep
set_option linter.unusedSimpArgs false
set_option linter.unusedVariables false

theorem kAir : Try.prog.cellsOf 23 = 2 := by kernel_rfl
theorem kPt : Try.prog.cellsOf 26 = 2 := by kernel_rfl
theorem kSp : Try.prog.cellsOf 42 = 2 := by kernel_rfl
theorem kShot : Try.prog.cellsOf 44 = 4 := by kernel_rfl
theorem kBox : Try.prog.cellsOf 28 = 5 := by kernel_rfl
theorem kIn : Try.prog.cellsOf 3 = 1 := by kernel_rfl
section
variable {H : Type} {enc : TypeId × Value → H} {w : World} {base : Nat} {spare : Nat → Bool} {held : Bool}
set_option maxRecDepth 100000 in
theorem rd_air {fuel : Nat} {cs : List Value} {x : DataW H × List MemPlace} (h : DataW.trod enc Try.prog w base spare held fuel 23 cs = some x) :
    ∃ M : Air, cs = [.int .i64 M.s, .int .i64 M.w] := by
  obtain ⟨xs, n', _, hx, hlen, hl, hg⟩ := DataW.trod_struct Try.underlying23 h
  rw [kAir] at hlen
  have g0 := hg 0 _ rfl
  have g1 := hg 1 _ rfl
  match cs, hlen, xs, hl with
  | [c0, c1], _, [y0, y1], _ =>
    simp [kIn, kPt, kSp] at g0 g1
    obtain ⟨u0, h0, _⟩ := DataW.trod_int Try.underlying3 g0
    obtain ⟨u1, h1, _⟩ := DataW.trod_int Try.underlying3 g1
    simp only [List.cons.injEq, and_true] at h0 h1
    obtain rfl := h0
    obtain rfl := h1
    exact ⟨⟨u0, u1⟩, rfl⟩
set_option maxRecDepth 100000 in
theorem op_air {r : Reach} {b0 : Nat} {v : Value} {d : DataW H} {p : List MemPlace} (hv : Value.okWide Try.prog w r b0 23 v) (h : DataW.Trod enc Try.prog w base spare held 23 v d p) :
    ∃ M : Air, v = .agg #[.int .i64 M.s, .int .i64 M.w] ∧ True := by
  obtain ⟨cs, rfl, hsz⟩ := okWide_struct Try.underlying23 hv
  obtain ⟨fuel, hf⟩ := h
  obtain ⟨M, h0⟩ := rd_air hf
  exact ⟨M, by simp [Value.cells] at h0; rw [← h0], trivial⟩
set_option maxRecDepth 100000 in
theorem rd_pt {fuel : Nat} {cs : List Value} {x : DataW H × List MemPlace} (h : DataW.trod enc Try.prog w base spare held fuel 26 cs = some x) :
    ∃ M : Pt, cs = [.int .i64 M.x, .int .i64 M.y] := by
  obtain ⟨xs, n', _, hx, hlen, hl, hg⟩ := DataW.trod_struct Try.underlying26 h
  rw [kPt] at hlen
  have g0 := hg 0 _ rfl
  have g1 := hg 1 _ rfl
  match cs, hlen, xs, hl with
  | [c0, c1], _, [y0, y1], _ =>
    simp [kIn, kPt, kSp] at g0 g1
    obtain ⟨u0, h0, _⟩ := DataW.trod_int Try.underlying3 g0
    obtain ⟨u1, h1, _⟩ := DataW.trod_int Try.underlying3 g1
    simp only [List.cons.injEq, and_true] at h0 h1
    obtain rfl := h0
    obtain rfl := h1
    exact ⟨⟨u0, u1⟩, rfl⟩
set_option maxRecDepth 100000 in
theorem op_pt {r : Reach} {b0 : Nat} {v : Value} {d : DataW H} {p : List MemPlace} (hv : Value.okWide Try.prog w r b0 26 v) (h : DataW.Trod enc Try.prog w base spare held 26 v d p) :
    ∃ M : Pt, v = .agg #[.int .i64 M.x, .int .i64 M.y] ∧ True := by
  obtain ⟨cs, rfl, hsz⟩ := okWide_struct Try.underlying26 hv
  obtain ⟨fuel, hf⟩ := h
  obtain ⟨M, h0⟩ := rd_pt hf
  exact ⟨M, by simp [Value.cells] at h0; rw [← h0], trivial⟩
set_option maxRecDepth 100000 in
theorem rd_spn {fuel : Nat} {cs : List Value} {x : DataW H × List MemPlace} (h : DataW.trod enc Try.prog w base spare held fuel 42 cs = some x) :
    ∃ M : Pt, cs = [.int .i64 M.x, .int .i64 M.y] := by
  obtain ⟨xs, n', _, hx, hlen, hl, hg⟩ := DataW.trod_struct Try.underlying42 h
  rw [kSp] at hlen
  have g0 := hg 0 _ rfl
  have g1 := hg 1 _ rfl
  match cs, hlen, xs, hl with
  | [c0, c1], _, [y0, y1], _ =>
    simp [kIn, kPt, kSp] at g0 g1
    obtain ⟨u0, h0, _⟩ := DataW.trod_int Try.underlying3 g0
    obtain ⟨u1, h1, _⟩ := DataW.trod_int Try.underlying3 g1
    simp only [List.cons.injEq, and_true] at h0 h1
    obtain rfl := h0
    obtain rfl := h1
    exact ⟨⟨u0, u1⟩, rfl⟩
set_option maxRecDepth 100000 in
theorem rd_shot {fuel : Nat} {cs : List Value} {x : DataW H × List MemPlace} (h : DataW.trod enc Try.prog w base spare held fuel 44 cs = some x) :
    ∃ M : Sho, cs = [.int .i64 M.p.x, .int .i64 M.p.y, .int .i64 M.lo, .int .i64 M.hi] := by
  obtain ⟨xs, n', _, hx, hlen, hl, hg⟩ := DataW.trod_struct Try.underlying44 h
  rw [kShot] at hlen
  have g0 := hg 0 _ rfl
  have g1 := hg 1 _ rfl
  match cs, hlen, xs, hl with
  | [c0, c1, c2, c3], _, [y0, y1], _ =>
    simp [kIn, kPt, kSp] at g0 g1
    obtain ⟨u0, h0⟩ := rd_pt g0
    obtain ⟨u1, h1⟩ := rd_spn g1
    simp only [List.cons.injEq, and_true] at h0 h1
    obtain ⟨rfl, rfl⟩ := h0
    obtain ⟨rfl, rfl⟩ := h1
    exact ⟨⟨u0, u1.x, u1.y⟩, rfl⟩
set_option maxRecDepth 100000 in
theorem op_shot {r : Reach} {b0 : Nat} {v : Value} {d : DataW H} {p : List MemPlace} (hv : Value.okWide Try.prog w r b0 44 v) (h : DataW.Trod enc Try.prog w base spare held 44 v d p) :
    ∃ M : Sho, v = .agg #[.int .i64 M.p.x, .int .i64 M.p.y, .int .i64 M.lo, .int .i64 M.hi] ∧ True := by
  obtain ⟨cs, rfl, hsz⟩ := okWide_struct Try.underlying44 hv
  obtain ⟨fuel, hf⟩ := h
  obtain ⟨M, h0⟩ := rd_shot hf
  exact ⟨M, by simp [Value.cells] at h0; rw [← h0], trivial⟩
set_option maxRecDepth 100000 in
theorem rd_box {fuel : Nat} {cs : List Value} {x : DataW H × List MemPlace} (h : DataW.trod enc Try.prog w base spare held fuel 28 cs = some x) :
    ∃ M : Box, cs = [.int .i64 M.lo.x, .int .i64 M.lo.y, .int .i64 M.hi.x, .int .i64 M.hi.y, .int .i64 M.st] := by
  obtain ⟨xs, n', _, hx, hlen, hl, hg⟩ := DataW.trod_struct Try.underlying28 h
  rw [kBox] at hlen
  have g0 := hg 0 _ rfl
  have g1 := hg 1 _ rfl
  have g2 := hg 2 _ rfl
  match cs, hlen, xs, hl with
  | [c0, c1, c2, c3, c4], _, [y0, y1, y2], _ =>
    simp [kIn, kPt, kSp] at g0 g1 g2
    obtain ⟨u0, h0⟩ := rd_pt g0
    obtain ⟨u1, h1⟩ := rd_pt g1
    obtain ⟨u2, h2, _⟩ := DataW.trod_int Try.underlying3 g2
    simp only [List.cons.injEq, and_true] at h0 h1 h2
    obtain ⟨rfl, rfl⟩ := h0
    obtain ⟨rfl, rfl⟩ := h1
    obtain rfl := h2
    exact ⟨⟨u0, u1, u2⟩, rfl⟩
set_option maxRecDepth 100000 in
theorem op_box {r : Reach} {b0 : Nat} {v : Value} {d : DataW H} {p : List MemPlace} (hv : Value.okWide Try.prog w r b0 28 v) (h : DataW.Trod enc Try.prog w base spare held 28 v d p) :
    ∃ M : Box, v = .agg #[.int .i64 M.lo.x, .int .i64 M.lo.y, .int .i64 M.hi.x, .int .i64 M.hi.y, .int .i64 M.st] ∧ True := by
  obtain ⟨cs, rfl, hsz⟩ := okWide_struct Try.underlying28 hv
  obtain ⟨fuel, hf⟩ := h
  obtain ⟨M, h0⟩ := rd_box hf
  exact ⟨M, by simp [Value.cells] at h0; rw [← h0], trivial⟩
set_option maxRecDepth 100000 in
theorem op_pts {r : Reach} {b0 : Nat} {v : Value} {d : DataW H} {p : List MemPlace} (hv : Value.okWide Try.prog w r b0 32 v) (h : DataW.Trod enc Try.prog w base spare held 32 v d p) :
    ∃ (A : Option Addr) (n c : Nat) (T : Nat → Pt), v = .slice A n c ∧ n ≤ maxLen ∧ (n ≤ c ∧ c ≤ maxLen) ∧ Pl w A n T := by
  obtain ⟨A, n, c, rfl⟩ := okWide_slice Try.underlying32 hv
  obtain ⟨fuel, hf⟩ := h
  rcases open_slice Try.underlying32 hf with ⟨hcs, _⟩ | ⟨a, len, cap, m, n', D, Pl, hcs, hb, hl, hm, hmm, hx, hi⟩
  · simp [Value.cells] at hcs
    obtain ⟨rfl, rfl, rfl⟩ := hcs
    exact ⟨none, 0, 0, fun _ => ⟨0, 0⟩, rfl, by decide, ⟨by decide, by decide⟩, fun h => absurd h (by omega)⟩
  · simp [Value.cells] at hcs
    obtain ⟨rfl, rfl, rfl⟩ := hcs
    have hml : n ≤ m := by rw [hmm]; split <;> omega
    have key : ∀ i, ∃ x : Pt, i < n → w.cell? ((a.add (i * 2)).add 0) = some (.int .i64 x.x) ∧ w.cell? ((a.add (i * 2)).add 1) = some (.int .i64 x.y) := by
      intro i
      by_cases hin : i < n
      · obtain ⟨cs', hc, ht⟩ := hi i (by omega)
        rw [kPt] at hc
        obtain ⟨_, _, hat⟩ := World.cells?_some hc
        obtain ⟨x, rfl⟩ := rd_pt ht
        exact ⟨x, fun _ => ⟨hat 0 (by omega), hat 1 (by omega)⟩⟩
      · exact ⟨⟨0, 0⟩, fun h => absurd h hin⟩
    obtain ⟨T, hT⟩ := Classical.axiomOfChoice key
    refine ⟨some a, n, c, T, rfl, by omega, ⟨hl, hm⟩, fun hn => ?_⟩
    obtain ⟨b, off, spot⟩ := a
    have hspot : spot = none := by simpa [Addr.add] using World.cell?_spot (hT 0 hn).1
    subst hspot
    refine ⟨b, off, rfl, ?_, fun j hj => ?_⟩
    · have := (hT 0 hn).1
      exact World.block_lt_of_cell? w _ (by rw [add_plain, add_plain] at this; exact this)
    · obtain ⟨h0, h1⟩ := hT j hj
      rw [add_plain, add_plain] at h0 h1
      exact ⟨h0, h1⟩
set_option maxRecDepth 100000 in
theorem op_shots {r : Reach} {b0 : Nat} {v : Value} {d : DataW H} {p : List MemPlace} (hv : Value.okWide Try.prog w r b0 24 v) (h : DataW.Trod enc Try.prog w base spare held 24 v d p) :
    ∃ (A : Option Addr) (n c : Nat) (T : Nat → Sho), v = .slice A n c ∧ n ≤ maxLen ∧ (n ≤ c ∧ c ≤ maxLen) ∧ Shl w A n T := by
  obtain ⟨A, n, c, rfl⟩ := okWide_slice Try.underlying24 hv
  obtain ⟨fuel, hf⟩ := h
  rcases open_slice Try.underlying24 hf with ⟨hcs, _⟩ | ⟨a, len, cap, m, n', D, Pl, hcs, hb, hl, hm, hmm, hx, hi⟩
  · simp [Value.cells] at hcs
    obtain ⟨rfl, rfl, rfl⟩ := hcs
    exact ⟨none, 0, 0, fun _ => ⟨⟨0, 0⟩, 0, 0⟩, rfl, by decide, ⟨by decide, by decide⟩, fun h => absurd h (by omega)⟩
  · simp [Value.cells] at hcs
    obtain ⟨rfl, rfl, rfl⟩ := hcs
    have hml : n ≤ m := by rw [hmm]; split <;> omega
    have key : ∀ i, ∃ x : Sho, i < n → w.cell? ((a.add (i * 4)).add 0) = some (.int .i64 x.p.x) ∧ w.cell? ((a.add (i * 4)).add 1) = some (.int .i64 x.p.y) ∧ w.cell? ((a.add (i * 4)).add 2) = some (.int .i64 x.lo) ∧ w.cell? ((a.add (i * 4)).add 3) = some (.int .i64 x.hi) := by
      intro i
      by_cases hin : i < n
      · obtain ⟨cs', hc, ht⟩ := hi i (by omega)
        rw [kShot] at hc
        obtain ⟨_, _, hat⟩ := World.cells?_some hc
        obtain ⟨x, rfl⟩ := rd_shot ht
        exact ⟨x, fun _ => ⟨hat 0 (by omega), hat 1 (by omega), hat 2 (by omega), hat 3 (by omega)⟩⟩
      · exact ⟨⟨⟨0, 0⟩, 0, 0⟩, fun h => absurd h hin⟩
    obtain ⟨T, hT⟩ := Classical.axiomOfChoice key
    refine ⟨some a, n, c, T, rfl, by omega, ⟨hl, hm⟩, fun hn => ?_⟩
    obtain ⟨b, off, spot⟩ := a
    have hspot : spot = none := by simpa [Addr.add] using World.cell?_spot (hT 0 hn).1
    subst hspot
    refine ⟨b, off, rfl, ?_, fun j hj => ?_⟩
    · have := (hT 0 hn).1
      exact World.block_lt_of_cell? w _ (by rw [add_plain, add_plain] at this; exact this)
    · obtain ⟨h0, h1, h2, h3⟩ := hT j hj
      rw [add_plain, add_plain] at h0 h1 h2 h3
      exact ⟨h0, h1, h2, h3⟩
end
end Go.Proofs.Ythemoomfbbccjaa
