/-
  How masts, states, events and relays that came in read.
-/
import Derived.Test.YtoigbppnfjmojaaBP
import Derived.ProofKit
import Derived.OpenShut
import Derived.ShutString
import Derived.ChangeOld
import Derived.Below
import Derived.ChangeSame
import Derived.ChangeSlices
import Derived.Deep.Slices
namespace Go.Proofs.Ytoigbppnfjmojaa
open Go.ChangeShapes Go.WideShapes Go.ChangeAt Go.RowKit Go.Deep
set_option linter.unusedSimpArgs false
set_option linter.unusedVariables false

theorem cMast : Try.prog.cellsOf 23 = 6 := by kernel_rfl
theorem cBall : Try.prog.cellsOf 34 = 4 := by kernel_rfl
theorem cEvent : Try.prog.cellsOf 42 = 3 := by kernel_rfl
theorem cRelay : Try.prog.cellsOf 54 = 2 := by kernel_rfl
theorem cIn : Try.prog.cellsOf 3 = 1 := by kernel_rfl
theorem cBo : Try.prog.cellsOf 4 = 1 := by kernel_rfl

section
variable {H : Type} {enc : TypeId × Value → H} {w : World} {base : Nat} {spare : Nat → Bool} {held : Bool}
set_option maxRecDepth 100000 in
theorem rd_mast {fuel : Nat} {cs : List Value} {x : DataW H × List MemPlace} (h : DataW.trod enc Try.prog w base spare held fuel 23 cs = some x) :
    ∃ M : Mst, cs = [.int .i64 M.no, .int .i64 M.hf, .int .i64 M.fu, .int .i64 M.la, .int .i64 M.ag, .int .i64 M.wi] := by
  obtain ⟨xs, n', _, hx, hlen, hl, hg⟩ := DataW.trod_struct Try.underlying23 h
  rw [cMast] at hlen
  have g0 := hg 0 _ rfl
  have g1 := hg 1 _ rfl
  have g2 := hg 2 _ rfl
  have g3 := hg 3 _ rfl
  have g4 := hg 4 _ rfl
  have g5 := hg 5 _ rfl
  match cs, hlen, xs, hl with
  | [c0, c1, c2, c3, c4, c5], _, [y0, y1, y2, y3, y4, y5], _ =>
    simp [cIn, cBo] at g0 g1 g2 g3 g4 g5
    obtain ⟨u0, h0, _⟩ := DataW.trod_int Try.underlying3 g0
    obtain ⟨u1, h1, _⟩ := DataW.trod_int Try.underlying3 g1
    obtain ⟨u2, h2, _⟩ := DataW.trod_int Try.underlying3 g2
    obtain ⟨u3, h3, _⟩ := DataW.trod_int Try.underlying3 g3
    obtain ⟨u4, h4, _⟩ := DataW.trod_int Try.underlying3 g4
    obtain ⟨u5, h5, _⟩ := DataW.trod_int Try.underlying3 g5
    simp only [List.cons.injEq, and_true] at h0 h1 h2 h3 h4 h5
    subst h0 h1 h2 h3 h4 h5
    exact ⟨⟨u0, u1, u2, u3, u4, u5⟩, rfl⟩
set_option maxRecDepth 100000 in
theorem op_mast {r : Reach} {b0 : Nat} {v : Value} {d : DataW H} {p : List MemPlace} (hv : Value.okWide Try.prog w r b0 23 v) (h : DataW.Trod enc Try.prog w base spare held 23 v d p) :
    ∃ M : Mst, v = encM M ∧ True := by
  obtain ⟨cs, rfl, hsz⟩ := okWide_struct Try.underlying23 hv
  obtain ⟨fuel, hf⟩ := h
  obtain ⟨M, h0⟩ := rd_mast hf
  exact ⟨M, by simp [Value.cells] at h0; unfold encM; rw [← h0], trivial⟩
set_option maxRecDepth 100000 in
theorem rd_ball {fuel : Nat} {cs : List Value} {x : DataW H × List MemPlace} (h : DataW.trod enc Try.prog w base spare held fuel 34 cs = some x) :
    ∃ M : Bal, cs = [.int .i64 M.pl, .int .i64 M.wi, .bool M.fl, .int .i64 M.t] := by
  obtain ⟨xs, n', _, hx, hlen, hl, hg⟩ := DataW.trod_struct Try.underlying34 h
  rw [cBall] at hlen
  have g0 := hg 0 _ rfl
  have g1 := hg 1 _ rfl
  have g2 := hg 2 _ rfl
  have g3 := hg 3 _ rfl
  match cs, hlen, xs, hl with
  | [c0, c1, c2, c3], _, [y0, y1, y2, y3], _ =>
    simp [cIn, cBo] at g0 g1 g2 g3
    obtain ⟨u0, h0, _⟩ := DataW.trod_int Try.underlying3 g0
    obtain ⟨u1, h1, _⟩ := DataW.trod_int Try.underlying3 g1
    obtain ⟨u2, h2, _⟩ := DataW.trod_bool Try.underlying4 g2
    obtain ⟨u3, h3, _⟩ := DataW.trod_int Try.underlying3 g3
    simp only [List.cons.injEq, and_true] at h0 h1 h2 h3
    subst h0 h1 h2 h3
    exact ⟨⟨u0, u1, u2, u3⟩, rfl⟩
set_option maxRecDepth 100000 in
theorem op_ball {r : Reach} {b0 : Nat} {v : Value} {d : DataW H} {p : List MemPlace} (hv : Value.okWide Try.prog w r b0 34 v) (h : DataW.Trod enc Try.prog w base spare held 34 v d p) :
    ∃ M : Bal, v = encB M ∧ True := by
  obtain ⟨cs, rfl, hsz⟩ := okWide_struct Try.underlying34 hv
  obtain ⟨fuel, hf⟩ := h
  obtain ⟨M, h0⟩ := rd_ball hf
  exact ⟨M, by simp [Value.cells] at h0; unfold encB; rw [← h0], trivial⟩
set_option maxRecDepth 100000 in
theorem rd_event {fuel : Nat} {cs : List Value} {x : DataW H × List MemPlace} (h : DataW.trod enc Try.prog w base spare held fuel 42 cs = some x) :
    ∃ M : Evt, cs = [.int .i64 M.t, .int .i64 M.ki, .int .i64 M.n] := by
  obtain ⟨xs, n', _, hx, hlen, hl, hg⟩ := DataW.trod_struct Try.underlying42 h
  rw [cEvent] at hlen
  have g0 := hg 0 _ rfl
  have g1 := hg 1 _ rfl
  have g2 := hg 2 _ rfl
  match cs, hlen, xs, hl with
  | [c0, c1, c2], _, [y0, y1, y2], _ =>
    simp [cIn, cBo] at g0 g1 g2
    obtain ⟨u0, h0, _⟩ := DataW.trod_int Try.underlying3 g0
    obtain ⟨u1, h1, _⟩ := DataW.trod_int Try.underlying3 g1
    obtain ⟨u2, h2, _⟩ := DataW.trod_int Try.underlying3 g2
    simp only [List.cons.injEq, and_true] at h0 h1 h2
    subst h0 h1 h2
    exact ⟨⟨u0, u1, u2⟩, rfl⟩
set_option maxRecDepth 100000 in
theorem op_event {r : Reach} {b0 : Nat} {v : Value} {d : DataW H} {p : List MemPlace} (hv : Value.okWide Try.prog w r b0 42 v) (h : DataW.Trod enc Try.prog w base spare held 42 v d p) :
    ∃ M : Evt, v = encE M ∧ True := by
  obtain ⟨cs, rfl, hsz⟩ := okWide_struct Try.underlying42 hv
  obtain ⟨fuel, hf⟩ := h
  obtain ⟨M, h0⟩ := rd_event hf
  exact ⟨M, by simp [Value.cells] at h0; unfold encE; rw [← h0], trivial⟩
set_option maxRecDepth 100000 in
theorem rd_relay {fuel : Nat} {cs : List Value} {x : DataW H × List MemPlace} (h : DataW.trod enc Try.prog w base spare held fuel 54 cs = some x) :
    ∃ M : Rly, cs = [.int .i64 M.lag, .int .i64 M.spr] := by
  obtain ⟨xs, n', _, hx, hlen, hl, hg⟩ := DataW.trod_struct Try.underlying54 h
  rw [cRelay] at hlen
  have g0 := hg 0 _ rfl
  have g1 := hg 1 _ rfl
  match cs, hlen, xs, hl with
  | [c0, c1], _, [y0, y1], _ =>
    simp [cIn, cBo] at g0 g1
    obtain ⟨u0, h0, _⟩ := DataW.trod_int Try.underlying3 g0
    obtain ⟨u1, h1, _⟩ := DataW.trod_int Try.underlying3 g1
    simp only [List.cons.injEq, and_true] at h0 h1
    subst h0 h1
    exact ⟨⟨u0, u1⟩, rfl⟩
set_option maxRecDepth 100000 in
theorem op_relay {r : Reach} {b0 : Nat} {v : Value} {d : DataW H} {p : List MemPlace} (hv : Value.okWide Try.prog w r b0 54 v) (h : DataW.Trod enc Try.prog w base spare held 54 v d p) :
    ∃ M : Rly, v = .agg #[.int .i64 M.lag, .int .i64 M.spr] ∧ True := by
  obtain ⟨cs, rfl, hsz⟩ := okWide_struct Try.underlying54 hv
  obtain ⟨fuel, hf⟩ := h
  obtain ⟨M, h0⟩ := rd_relay hf
  exact ⟨M, by simp [Value.cells] at h0; rw [← h0], trivial⟩
set_option maxRecDepth 100000 in
theorem op_events {r : Reach} {b0 : Nat} {v : Value} {d : DataW H} {p : List MemPlace} (hv : Value.okWide Try.prog w r b0 24 v) (h : DataW.Trod enc Try.prog w base spare held 24 v d p) :
    ∃ (A : Option Addr) (n c : Nat) (T : Nat → Evt), v = .slice A n c ∧ n ≤ maxLen ∧ (n ≤ c ∧ c ≤ maxLen) ∧ El w A n T := by
  obtain ⟨A, n, c, rfl⟩ := okWide_slice Try.underlying24 hv
  obtain ⟨fuel, hf⟩ := h
  rcases open_slice Try.underlying24 hf with ⟨hcs, _⟩ | ⟨a, len, cap, m, n', D, Pl, hcs, hb, hl, hm, hmm, hx, hi⟩
  · simp [Value.cells] at hcs
    obtain ⟨rfl, rfl, rfl⟩ := hcs
    exact ⟨none, 0, 0, fun _ => ⟨0, 0, 0⟩, rfl, by decide, ⟨by decide, by decide⟩, fun h => absurd h (by omega)⟩
  · simp [Value.cells] at hcs
    obtain ⟨rfl, rfl, rfl⟩ := hcs
    have hml : n ≤ m := by rw [hmm]; split <;> omega
    have key : ∀ i, ∃ x : Evt, i < n → w.cell? ((a.add (i * 3)).add 0) = some (.int .i64 x.t) ∧ w.cell? ((a.add (i * 3)).add 1) = some (.int .i64 x.ki) ∧ w.cell? ((a.add (i * 3)).add 2) = some (.int .i64 x.n) := by
      intro i
      by_cases hin : i < n
      · obtain ⟨cs', hc, ht⟩ := hi i (by omega)
        rw [cEvent] at hc
        obtain ⟨_, _, hat⟩ := World.cells?_some hc
        obtain ⟨x, rfl⟩ := rd_event ht
        exact ⟨x, fun _ => ⟨hat 0 (by omega), hat 1 (by omega), hat 2 (by omega)⟩⟩
      · exact ⟨⟨0, 0, 0⟩, fun h => absurd h hin⟩
    obtain ⟨T, hT⟩ := Classical.axiomOfChoice key
    refine ⟨some a, n, c, T, rfl, by omega, ⟨hl, hm⟩, fun hn => ?_⟩
    obtain ⟨b, off, spot⟩ := a
    have hspot : spot = none := by simpa [Addr.add] using World.cell?_spot (hT 0 hn).1
    subst hspot
    refine ⟨b, off, rfl, ?_, fun j hj => ?_⟩
    · have := (hT 0 hn).1
      exact World.block_lt_of_cell? w _ (by rw [add_plain, add_plain] at this; exact this)
    · obtain ⟨h0, h1, h2⟩ := hT j hj
      rw [add_plain, add_plain] at h0 h1 h2
      exact ⟨h0, h1, h2⟩
set_option maxRecDepth 100000 in
theorem op_relays {r : Reach} {b0 : Nat} {v : Value} {d : DataW H} {p : List MemPlace} (hv : Value.okWide Try.prog w r b0 55 v) (h : DataW.Trod enc Try.prog w base spare held 55 v d p) :
    ∃ (A : Option Addr) (n c : Nat) (T : Nat → Rly), v = .slice A n c ∧ n ≤ maxLen ∧ (n ≤ c ∧ c ≤ maxLen) ∧ Rl w A n T := by
  obtain ⟨A, n, c, rfl⟩ := okWide_slice Try.underlying55 hv
  obtain ⟨fuel, hf⟩ := h
  rcases open_slice Try.underlying55 hf with ⟨hcs, _⟩ | ⟨a, len, cap, m, n', D, Pl, hcs, hb, hl, hm, hmm, hx, hi⟩
  · simp [Value.cells] at hcs
    obtain ⟨rfl, rfl, rfl⟩ := hcs
    exact ⟨none, 0, 0, fun _ => ⟨0, 0⟩, rfl, by decide, ⟨by decide, by decide⟩, fun h => absurd h (by omega)⟩
  · simp [Value.cells] at hcs
    obtain ⟨rfl, rfl, rfl⟩ := hcs
    have hml : n ≤ m := by rw [hmm]; split <;> omega
    have key : ∀ i, ∃ x : Rly, i < n → w.cell? ((a.add (i * 2)).add 0) = some (.int .i64 x.lag) ∧ w.cell? ((a.add (i * 2)).add 1) = some (.int .i64 x.spr) := by
      intro i
      by_cases hin : i < n
      · obtain ⟨cs', hc, ht⟩ := hi i (by omega)
        rw [cRelay] at hc
        obtain ⟨_, _, hat⟩ := World.cells?_some hc
        obtain ⟨x, rfl⟩ := rd_relay ht
        exact ⟨x, fun _ => ⟨hat 0 (by omega), hat 1 (by omega)⟩⟩
      · exact ⟨⟨0, 0⟩, fun h => absurd h hin⟩
    obtain ⟨T, hT⟩ := Classical.axiomOfChoice key
    refine ⟨some a, n, c, T, rfl, by omega, ⟨hl, hm⟩, fun hn => ?_⟩
    obtain ⟨b, off, spot⟩ := a
    have hspot : spot = none := by simpa [Addr.add] using World.cell?_spot (hT 0 hn).1
    subst hspot
    refine ⟨b, off, rfl, ?_, fun j hj => ?_⟩
    · have := (hT 0 hn).1
      exact World.block_lt_of_cell? w _ (by rw [add_plain, add_plain] at this; exact this)
    · obtain ⟨h0, h1⟩ := hT j hj
      rw [add_plain, add_plain] at h0 h1
      exact ⟨h0, h1⟩
end
end Go.Proofs.Ytoigbppnfjmojaa
