/-
  How tubes, stars and transits that came in read.
-/
import Derived.Test.YtlpbmcnojkhdcaaDoorTG
import Derived.ProofKit
import Derived.OpenShut
import Derived.ShutString
import Derived.ChangeOld
import Derived.Below
import Derived.ChangeSame
import Derived.ChangeSlices
namespace Go.Proofs.YtlpbmcnojkhdcaaDoor
open Go.ChangeShapes Go.WideShapes Go.ChangeAt Go.RowKit
set_option linter.unusedSimpArgs false
set_option linter.unusedVariables false

theorem cTube : Tryd.prog.cellsOf 34 = 2 := by kernel_rfl
theorem cStar : Tryd.prog.cellsOf 25 = 4 := by kernel_rfl
theorem cTransit : Tryd.prog.cellsOf 38 = 5 := by kernel_rfl
theorem cInts : Tryd.prog.cellsOf 32 = 1 := by kernel_rfl
theorem cIn : Tryd.prog.cellsOf 3 = 1 := by kernel_rfl
theorem cStr : Tryd.prog.cellsOf 9 = 1 := by kernel_rfl

section
variable {H : Type} {enc : TypeId × Value → H} {w : World} {base : Nat} {spare : Nat → Bool} {held : Bool}
set_option maxRecDepth 100000 in
theorem rd_ints {fuel : Nat} {cs : List Value} {x : DataW H × List MemPlace} (h : DataW.trod enc Tryd.prog w base spare held fuel 32 cs = some x) :
    ∃ (A : Option Addr) (n c : Nat) (f : Nat → Int), cs = [.slice A n c] ∧ n ≤ maxLen ∧ Sl w A n f ∧ n * 8 ≤ 140737488355328 + n * 8 := by
  rcases open_ints Tryd.underlying32 Tryd.underlying3 cIn h with ⟨hcs, _⟩ | ⟨a, len, cap, zs, hcs, _, hl, hm, hz, _, hcell, _⟩
  · exact ⟨none, 0, 0, fun _ => 0, hcs, by decide, fun h => absurd h (by omega), by omega⟩
  · refine ⟨some a, len, cap, fun j => zs.getD j 0, hcs, by omega, fun hn => ?_, by omega⟩
    have hzl : len ≤ zs.length := by rw [hz]; split <;> omega
    obtain ⟨b, off, spot⟩ := a
    have hspot : spot = none := by simpa [Addr.add] using World.cell?_spot (hcell 0 (by omega))
    subst hspot
    refine ⟨b, off, rfl, ?_, fun j hj => by rw [← add_plain]; exact hcell j (by omega)⟩
    have := hcell 0 (by omega)
    exact World.block_lt_of_cell? w _ (by rw [add_plain] at this; exact this)
set_option maxRecDepth 100000 in
theorem rd_tube {fuel : Nat} {cs : List Value} {x : DataW H × List MemPlace} (h : DataW.trod enc Tryd.prog w base spare held fuel 34 cs = some x) :
    ∃ (A : Option Addr) (n c : Nat) (f : Nat → Int) (e : Int), cs = [.slice A n c, .int .i64 e] ∧ n ≤ maxLen ∧ Sl w A n f := by
  obtain ⟨xs, n', _, hx, hlen, hl, hg⟩ := DataW.trod_struct Tryd.underlying34 h
  rw [cTube] at hlen
  have g0 := hg 0 _ rfl
  have g1 := hg 1 _ rfl
  match cs, hlen, xs, hl with
  | [c0, c1], _, [y0, y1], _ =>
    simp [cInts, cIn] at g0 g1
    obtain ⟨A, n, c, f, h0, h1, h2, _⟩ := rd_ints g0
    obtain ⟨e, h3, _⟩ := DataW.trod_int Tryd.underlying3 g1
    simp only [List.cons.injEq, and_true] at h0 h3
    subst h0 h3
    exact ⟨A, n, c, f, e, rfl, h1, h2⟩
set_option maxRecDepth 100000 in
theorem rd_star {fuel : Nat} {cs : List Value} {x : DataW H × List MemPlace} (h : DataW.trod enc Tryd.prog w base spare held fuel 25 cs = some x) :
    ∃ (s : ByteArray) (a h l : Int), cs = [.string s, .int .i64 a, .int .i64 h, .int .i64 l] ∧ s.size ≤ maxLen := by
  obtain ⟨xs, n', _, hx, hlen, hl, hg⟩ := DataW.trod_struct Tryd.underlying25 h
  rw [cStar] at hlen
  have g0 := hg 0 _ rfl
  have g1 := hg 1 _ rfl
  have g2 := hg 2 _ rfl
  have g3 := hg 3 _ rfl
  match cs, hlen, xs, hl with
  | [c0, c1, c2, c3], _, [y0, y1, y2, y3], _ =>
    simp [cStr, cIn] at g0 g1 g2 g3
    obtain ⟨s, h0, _, hs⟩ := DataW.trod_string Tryd.underlying9 g0
    obtain ⟨a, h1, _⟩ := DataW.trod_int Tryd.underlying3 g1
    obtain ⟨hh, h2, _⟩ := DataW.trod_int Tryd.underlying3 g2
    obtain ⟨l, h3, _⟩ := DataW.trod_int Tryd.underlying3 g3
    simp only [List.cons.injEq, and_true] at h0 h1 h2 h3
    subst h0 h1 h2 h3
    exact ⟨s, a, hh, l, rfl, hs⟩
set_option maxRecDepth 100000 in
theorem rd_transit {fuel : Nat} {cs : List Value} {x : DataW H × List MemPlace} (h : DataW.trod enc Tryd.prog w base spare held fuel 38 cs = some x) :
    ∃ (s : ByteArray) (a h l : Int) (B : Option Addr) (m d : Nat) (g : Nat → Int), cs = [.string s, .int .i64 a, .int .i64 h, .int .i64 l, .slice B m d] ∧ s.size ≤ maxLen ∧ m ≤ maxLen ∧ Sl w B m g := by
  obtain ⟨xs, n', _, hx, hlen, hl, hg⟩ := DataW.trod_struct Tryd.underlying38 h
  rw [cTransit] at hlen
  have g0 := hg 0 _ rfl
  have g1 := hg 1 _ rfl
  match cs, hlen, xs, hl with
  | [c0, c1, c2, c3, c4], _, [y0, y1], _ =>
    simp [cStar, cInts] at g0 g1
    obtain ⟨s, a, hh, l, h0, hs⟩ := rd_star g0
    obtain ⟨B, m, d, g, h1, hm, hsl, _⟩ := rd_ints g1
    simp only [List.cons.injEq, and_true] at h0 h1
    obtain ⟨rfl, rfl, rfl, rfl⟩ := h0
    subst h1
    exact ⟨s, a, hh, l, B, m, d, g, rfl, hs, hm, hsl⟩
set_option maxRecDepth 100000 in
theorem op_tube {r : Reach} {b0 : Nat} {v : Value} {d : DataW H} {p : List MemPlace} (hv : Value.okWide Tryd.prog w r b0 34 v) (h : DataW.Trod enc Tryd.prog w base spare held 34 v d p) :
    ∃ (A : Option Addr) (n c : Nat) (f : Nat → Int) (e : Int), v = .agg #[.slice A n c, .int .i64 e] ∧ n ≤ maxLen ∧ Sl w A n f := by
  obtain ⟨cs, rfl, hsz⟩ := okWide_struct Tryd.underlying34 hv
  obtain ⟨fuel, hf⟩ := h
  obtain ⟨A, n, c, f, e, h0, h1, h2⟩ := rd_tube hf
  exact ⟨A, n, c, f, e, by simp [Value.cells] at h0; rw [← h0], h1, h2⟩
set_option maxRecDepth 100000 in
theorem op_star {r : Reach} {b0 : Nat} {v : Value} {d : DataW H} {p : List MemPlace} (hv : Value.okWide Tryd.prog w r b0 25 v) (h : DataW.Trod enc Tryd.prog w base spare held 25 v d p) :
    ∃ (s : ByteArray) (a h l : Int), v = .agg #[.string s, .int .i64 a, .int .i64 h, .int .i64 l] ∧ s.size ≤ maxLen := by
  obtain ⟨cs, rfl, hsz⟩ := okWide_struct Tryd.underlying25 hv
  obtain ⟨fuel, hf⟩ := h
  obtain ⟨s, a, h, l, h0, h1⟩ := rd_star hf
  exact ⟨s, a, h, l, by simp [Value.cells] at h0; rw [← h0], h1⟩
set_option maxRecDepth 100000 in
theorem op_transit {r : Reach} {b0 : Nat} {v : Value} {d : DataW H} {p : List MemPlace} (hv : Value.okWide Tryd.prog w r b0 38 v) (h : DataW.Trod enc Tryd.prog w base spare held 38 v d p) :
    ∃ (s : ByteArray) (a h l : Int) (B : Option Addr) (m d : Nat) (g : Nat → Int), v = .agg #[.string s, .int .i64 a, .int .i64 h, .int .i64 l, .slice B m d] ∧ s.size ≤ maxLen ∧ m ≤ maxLen ∧ Sl w B m g := by
  obtain ⟨cs, rfl, hsz⟩ := okWide_struct Tryd.underlying38 hv
  obtain ⟨fuel, hf⟩ := h
  obtain ⟨s, a, h, l, B, m, d, g, h0, h1, h2, h3⟩ := rd_transit hf
  exact ⟨s, a, h, l, B, m, d, g, by simp [Value.cells] at h0; rw [← h0], h1, h2, h3⟩
end
end Go.Proofs.YtlpbmcnojkhdcaaDoor
