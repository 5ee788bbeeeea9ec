/-
  How entries and lists of entries that came in read.
-/
import Derived.Test.YtbmenpfpeadckaaLB
import Derived.ProofKit
import Derived.OpenShut
import Derived.ShutString
import Derived.ChangeOld
import Derived.Below
import Derived.ChangeSame
import Derived.ChangeSlices
import Derived.Deep.Slices
namespace Go.Proofs.Ytbmenpfpeadckaa
open Go.ChangeShapes Go.WideShapes Go.ChangeAt Go.RowKit Go.Deep
set_option linter.unusedSimpArgs false
set_option linter.unusedVariables false

theorem kEn : Try.prog.cellsOf 78 = 3 := by kernel_rfl
theorem kIntL : Try.prog.cellsOf 3 = 1 := by kernel_rfl
theorem kBoolL : Try.prog.cellsOf 4 = 1 := by kernel_rfl
theorem rng_wf {x : Int} (h : (Lit.int .i64 x).wf = true) : rng x := by simp only [Lit.wf, Bool.and_eq_true, decide_eq_true_eq] at h; exact h
theorem rng0 : rng 0 := by unfold rng; omega
section
variable {H : Type} {enc : TypeId × Value → H} {w : World} {base : Nat} {spare : Nat → Bool} {held : Bool}
set_option maxRecDepth 100000 in
theorem rd_en {fuel : Nat} {cs : List Value} {x : DataW H × List MemPlace} (h : DataW.trod enc Try.prog w base spare held fuel 78 cs = some x) :
    ∃ X : En, cs = [.int .i64 X.day, .bool X.fo, .int .i64 X.er] ∧ rng X.day ∧ rng X.er := by
  obtain ⟨xs, n', _, hx, hlen, hl, hg⟩ := DataW.trod_struct Try.underlying78 h
  rw [kEn] at hlen
  have g0 := hg 0 _ rfl
  have g1 := hg 1 _ rfl
  have g2 := hg 2 _ rfl
  match cs, hlen, xs, hl with
  | [c0, c1, c2], _, [y0, y1, y2], _ =>
    simp [kBoolL, kIntL] at g0 g1 g2
    obtain ⟨u0, h0, _, r0⟩ := DataW.trod_int Try.underlying3 g0
    obtain ⟨u1, h1, _⟩ := DataW.trod_bool Try.underlying4 g1
    obtain ⟨u2, h2, _, r2⟩ := DataW.trod_int Try.underlying3 g2
    simp only [List.cons.injEq, and_true] at h0 h1 h2
    subst h0 h1 h2
    exact ⟨⟨u0, u1, u2⟩, rfl, rng_wf r0, rng_wf r2⟩
set_option maxRecDepth 100000 in
theorem op_en {r : Reach} {b0 : Nat} {v : Value} {d : DataW H} {p : List MemPlace} (hv : Value.okWide Try.prog w r b0 78 v) (h : DataW.Trod enc Try.prog w base spare held 78 v d p) :
    ∃ X : En, v = encE X ∧ rng X.day ∧ rng X.er := by
  obtain ⟨cs, rfl, hsz⟩ := okWide_struct Try.underlying78 hv
  obtain ⟨fuel, hf⟩ := h
  obtain ⟨X, h0, h1⟩ := rd_en hf
  exact ⟨X, by simp [Value.cells] at h0; unfold encE; rw [← h0], h1⟩
set_option maxRecDepth 100000 in
theorem op_els {r : Reach} {b0 : Nat} {v : Value} {d : DataW H} {p : List MemPlace} (hv : Value.okWide Try.prog w r b0 38 v) (h : DataW.Trod enc Try.prog w base spare held 38 v d p) :
    ∃ (A : Option Addr) (n c : Nat) (L : Nat → En), v = .slice A n c ∧ (n ≤ c ∧ c ≤ maxLen) ∧ (∀ j, rng (L j).day ∧ rng (L j).er) ∧ El w A n L := by
  obtain ⟨A, n, c, rfl⟩ := okWide_slice Try.underlying38 hv
  obtain ⟨fuel, hf⟩ := h
  rcases open_slice Try.underlying38 hf with ⟨hcs, _⟩ | ⟨a, len, cap, m, n', D, Pl, hcs, hb, hl, hm, hmm, hx, hi⟩
  · simp [Value.cells] at hcs
    obtain ⟨rfl, rfl, rfl⟩ := hcs
    exact ⟨none, 0, 0, fun _ => ⟨0, false, 0⟩, rfl, ⟨by decide, by decide⟩, fun j => ⟨rng0, rng0⟩, fun h => absurd h (by omega)⟩
  · simp [Value.cells] at hcs
    obtain ⟨rfl, rfl, rfl⟩ := hcs
    have hml : n ≤ m := by rw [hmm]; split <;> omega
    have key : ∀ i, ∃ x : En, (i < n → (w.cell? ((a.add (i * 3)).add 0) = some (.int .i64 x.day) ∧ w.cell? ((a.add (i * 3)).add 1) = some (.bool x.fo) ∧ w.cell? ((a.add (i * 3)).add 2) = some (.int .i64 x.er))) ∧ rng x.day ∧ rng x.er := by
      intro i
      by_cases hin : i < n
      · obtain ⟨cs', hc, ht⟩ := hi i (by omega)
        rw [kEn] at hc
        obtain ⟨_, _, hat⟩ := World.cells?_some hc
        obtain ⟨x, rfl, hx⟩ := rd_en ht
        exact ⟨x, fun _ => ⟨hat 0 (by omega), hat 1 (by omega), hat 2 (by omega)⟩, hx⟩
      · exact ⟨⟨0, false, 0⟩, fun h => absurd h hin, rng0, rng0⟩
    obtain ⟨T, hT⟩ := Classical.axiomOfChoice key
    refine ⟨some a, n, c, T, rfl, ⟨hl, hm⟩, fun j => (hT j).2, fun hn => ?_⟩
    obtain ⟨b, off, spot⟩ := a
    have hspot : spot = none := by simpa [Addr.add] using World.cell?_spot ((hT 0).1 hn).1
    subst hspot
    refine ⟨b, off, rfl, ?_, fun j hj => ?_⟩
    · have := ((hT 0).1 hn).1
      exact World.block_lt_of_cell? w _ (by rw [add_plain, add_plain] at this; exact this)
    · obtain ⟨h0, h1, h2⟩ := (hT j).1 hj
      rw [add_plain, add_plain] at h0 h1 h2
      exact ⟨h0, h1, h2⟩
end
end Go.Proofs.Ytbmenpfpeadckaa
