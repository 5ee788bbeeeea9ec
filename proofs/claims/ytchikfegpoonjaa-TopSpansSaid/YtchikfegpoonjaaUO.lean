/-
  How nets, sights, lists of numbers and small arrays that came in read.
-/
import Derived.Test.YtchikfegpoonjaaPD
import Derived.Test.YtchikfegpoonjaaPG
import Derived.ProofKit
import Derived.OpenShut
import Derived.ShutString
import Derived.ChangeOld
import Derived.Below
import Derived.ChangeSame
import Derived.ChangeSlices
import Derived.Deep.Slices
namespace Go.Proofs.Ytchikfegpoonjaa
open Go.ChangeShapes Go.WideShapes Go.ChangeAt Go.RowKit Go.Deep
set_option linter.unusedSimpArgs false
set_option linter.unusedVariables false

theorem kSight2 : Try.prog.cellsOf 23 = 5 := by kernel_rfl
theorem kNet2 : Try.prog.cellsOf 27 = 2 := by kernel_rfl
theorem kInt2 : Try.prog.cellsOf 3 = 1 := by kernel_rfl
theorem kInts2 : Try.prog.cellsOf 24 = 1 := by kernel_rfl
theorem kSights2 : Try.prog.cellsOf 25 = 1 := by kernel_rfl
theorem wf_rngS {x : Int} (h : (Lit.int .i64 x).wf = true) : rngS x := by
  simp only [Lit.wf, Bool.and_eq_true, decide_eq_true_eq] at h
  exact h
/-- A sight whose numbers are ints. -/
def rngG (x : Sgt) : Prop := rngS x.tm ∧ rngS x.ca ∧ rngS x.cb ∧ rngS x.lo ∧ rngS x.hi
section
variable {H : Type} {enc : TypeId × Value → H} {w : World} {base : Nat} {spare : Nat → Bool} {held : Bool}
set_option maxRecDepth 100000 in
theorem rd_ints2 {fuel : Nat} {cs : List Value} {x : DataW H × List MemPlace} (h : DataW.trod enc Try.prog w base spare held fuel 24 cs = some x) :
    ∃ (A : Option Addr) (n c : Nat) (f : Nat → Int), cs = [.slice A n c] ∧ (n ≤ c ∧ c ≤ maxLen) ∧ Sl w A n f ∧ ∀ j, rngS (f j) := by
  rcases open_ints Try.underlying24 Try.underlying3 kInt2 h with ⟨hcs, _⟩ | ⟨a, len, cap, zs, hcs, _, hl, hm, hz, _, hcell, hwf⟩
  · exact ⟨none, 0, 0, fun _ => 0, hcs, by decide, fun h => absurd h (by omega), fun _ => ⟨by simp, by simp⟩⟩
  · refine ⟨some a, len, cap, fun j => zs.getD j 0, hcs, ⟨by omega, by omega⟩, fun hn => ?_, fun j => ?_⟩
    · have hzl : len ≤ zs.length := by rw [hz]; split <;> omega
      obtain ⟨b, off, spot⟩ := a
      have hspot : spot = none := by simpa [Addr.add] using World.cell?_spot (hcell 0 (by omega))
      subst hspot
      refine ⟨b, off, rfl, ?_, fun j hj => by rw [← add_plain]; exact hcell j (by omega)⟩
      have := hcell 0 (by omega)
      exact World.block_lt_of_cell? w _ (by rw [add_plain] at this; exact this)
    · by_cases hj : j < zs.length
      · have := hwf (zs[j]) (List.getElem_mem hj)
        simp only [List.getD_eq_getElem?_getD, List.getElem?_eq_getElem hj, Option.getD_some]
        exact wf_rngS this
      · simp [List.getD, hj]
        unfold rngS; omega
set_option maxRecDepth 100000 in
theorem op_ints2 {r : Reach} {b0 : Nat} {v : Value} {d : DataW H} {p : List MemPlace} (hv : Value.okWide Try.prog w r b0 24 v) (h : DataW.Trod enc Try.prog w base spare held 24 v d p) :
    ∃ (A : Option Addr) (n c : Nat) (f : Nat → Int), v = .slice A n c ∧ (n ≤ c ∧ c ≤ maxLen) ∧ Sl w A n f ∧ ∀ j, rngS (f j) := by
  obtain ⟨A, n, c, rfl⟩ := okWide_slice Try.underlying24 hv
  obtain ⟨fuel, hf⟩ := h
  obtain ⟨A', n', c', f, h0, h1, h2, h3⟩ := rd_ints2 hf
  simp [Value.cells] at h0
  obtain ⟨rfl, rfl, rfl⟩ := h0
  exact ⟨_, _, _, f, rfl, h1, h2, h3⟩
set_option maxRecDepth 100000 in
theorem rd_sg {fuel : Nat} {cs : List Value} {x : DataW H × List MemPlace} (h : DataW.trod enc Try.prog w base spare held fuel 23 cs = some x) :
    ∃ X : Sgt, cs = [.int .i64 X.tm, .int .i64 X.ca, .int .i64 X.cb, .int .i64 X.lo, .int .i64 X.hi] ∧ rngG X := by
  obtain ⟨xs, n', _, hx, hlen, hl, hg⟩ := DataW.trod_struct Try.underlying23 h
  rw [kSight2] at hlen
  have g0 := hg 0 _ rfl
  have g1 := hg 1 _ rfl
  have g2 := hg 2 _ rfl
  have g3 := hg 3 _ rfl
  have g4 := hg 4 _ rfl
  match cs, hlen, xs, hl with
  | [c0, c1, c2, c3, c4], _, [y0, y1, y2, y3, y4], _ =>
    simp [kInt2] at g0 g1 g2 g3 g4
    obtain ⟨u0, h0, _, r0⟩ := DataW.trod_int Try.underlying3 g0
    obtain ⟨u1, h1, _, r1⟩ := DataW.trod_int Try.underlying3 g1
    obtain ⟨u2, h2, _, r2⟩ := DataW.trod_int Try.underlying3 g2
    obtain ⟨u3, h3, _, r3⟩ := DataW.trod_int Try.underlying3 g3
    obtain ⟨u4, h4, _, r4⟩ := DataW.trod_int Try.underlying3 g4
    simp only [List.cons.injEq, and_true] at h0 h1 h2 h3 h4
    subst h0 h1 h2 h3 h4
    exact ⟨⟨u0, u1, u2, u3, u4⟩, rfl, wf_rngS r0, wf_rngS r1, wf_rngS r2, wf_rngS r3, wf_rngS r4⟩
set_option maxRecDepth 100000 in
theorem op_sg {r : Reach} {b0 : Nat} {v : Value} {d : DataW H} {p : List MemPlace} (hv : Value.okWide Try.prog w r b0 23 v) (h : DataW.Trod enc Try.prog w base spare held 23 v d p) :
    ∃ X : Sgt, v = encG X ∧ rngG X := by
  obtain ⟨cs, rfl, hsz⟩ := okWide_struct Try.underlying23 hv
  obtain ⟨fuel, hf⟩ := h
  obtain ⟨X, h0, h1⟩ := rd_sg hf
  obtain ⟨cs⟩ := cs
  simp [Value.cells] at h0
  subst h0
  exact ⟨X, rfl, h1⟩
set_option maxRecDepth 100000 in
theorem rd_sgs {fuel : Nat} {cs : List Value} {x : DataW H × List MemPlace} (h : DataW.trod enc Try.prog w base spare held fuel 25 cs = some x) :
    ∃ (A : Option Addr) (n c : Nat) (S : Nat → Sgt), cs = [.slice A n c] ∧ (n ≤ c ∧ c ≤ maxLen) ∧ Sgl w A n S ∧ ∀ j, rngG (S j) := by
  rcases open_slice Try.underlying25 h with ⟨hcs, _⟩ | ⟨a, len, cap, m, n', D, Pl, hcs, hb, hl, hm, hmm, hx, hi⟩
  · exact ⟨none, 0, 0, fun _ => ⟨0, 0, 0, 0, 0⟩, hcs, ⟨by decide, by decide⟩, fun h => absurd h (by omega), fun _ => by simp [rngG, rngS]⟩
  · have hml : len ≤ m := by rw [hmm]; split <;> omega
    have key : ∀ i, ∃ x : Sgt, (i < len → (w.cell? ((a.add (i * 5)).add 0) = some (.int .i64 x.tm) ∧ w.cell? ((a.add (i * 5)).add 1) = some (.int .i64 x.ca) ∧ w.cell? ((a.add (i * 5)).add 2) = some (.int .i64 x.cb) ∧ w.cell? ((a.add (i * 5)).add 3) = some (.int .i64 x.lo) ∧ w.cell? ((a.add (i * 5)).add 4) = some (.int .i64 x.hi))) ∧ rngG x := by
      intro i
      by_cases hin : i < len
      · obtain ⟨cs', hc, ht⟩ := hi i (by omega)
        rw [kSight2] at hc
        obtain ⟨_, _, hat⟩ := World.cells?_some hc
        obtain ⟨x, rfl, hx⟩ := rd_sg ht
        exact ⟨x, fun _ => ⟨hat 0 (by omega), hat 1 (by omega), hat 2 (by omega), hat 3 (by omega), hat 4 (by omega)⟩, hx⟩
      · exact ⟨⟨0, 0, 0, 0, 0⟩, fun h => absurd h hin, by simp [rngG, rngS]⟩
    obtain ⟨T, hT⟩ := Classical.axiomOfChoice key
    refine ⟨some a, len, cap, T, hcs, ⟨hl, hm⟩, fun hn => ?_, fun j => (hT j).2⟩
    obtain ⟨b, off, spot⟩ := a
    have hspot : spot = none := by simpa [Addr.add] using World.cell?_spot ((hT 0).1 hn).1
    subst hspot
    refine ⟨b, off, rfl, ?_, fun j hj => ?_⟩
    · have := ((hT 0).1 hn).1
      exact World.block_lt_of_cell? w _ (by rw [add_plain, add_plain] at this; exact this)
    · obtain ⟨h0, h1, h2, h3, h4⟩ := (hT j).1 hj
      rw [add_plain, add_plain] at h0 h1 h2 h3 h4
      exact ⟨h0, h1, h2, h3, h4⟩
set_option maxRecDepth 100000 in
theorem op_net {r : Reach} {b0 : Nat} {v : Value} {d : DataW H} {p : List MemPlace} (hv : Value.okWide Try.prog w r b0 27 v) (h : DataW.Trod enc Try.prog w base spare held 27 v d p) :
    ∃ (A : Option Addr) (n c : Nat) (R : Nat → Int) (B : Option Addr) (m d : Nat) (S : Nat → Sgt), v = encN A n c B m d ∧ (n ≤ c ∧ c ≤ maxLen) ∧ Sl w A n R ∧ (∀ j, rngS (R j)) ∧ (m ≤ d ∧ d ≤ maxLen) ∧ Sgl w B m S ∧ ∀ j, rngG (S j) := by
  obtain ⟨cs, rfl, hsz⟩ := okWide_struct Try.underlying27 hv
  obtain ⟨fuel, hf⟩ := h
  obtain ⟨xs, n', _, hx, hlen, hl, hg⟩ := DataW.trod_struct Try.underlying27 hf
  rw [kNet2] at hlen
  have g0 := hg 0 _ rfl
  have g1 := hg 1 _ rfl
  obtain ⟨cs⟩ := cs
  match cs, hlen, xs, hl with
  | [c0, c1], _, [y0, y1], _ =>
    simp [Value.cells, kInts2, kSights2] at g0 g1
    obtain ⟨A, n, c, f, h0, h1, h2, h3⟩ := rd_ints2 g0
    obtain ⟨B, m, d, S, h4, h5, h6, h7⟩ := rd_sgs g1
    simp only [List.cons.injEq, and_true] at h0 h4
    subst h0 h4
    exact ⟨A, n, c, f, B, m, d, S, rfl, h1, h2, h3, h5, h6, h7⟩