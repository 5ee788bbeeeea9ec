/-
  How a list of numbers that came in reads.
-/
import Derived.Test.YtlidpojdaadecaaNT
import Derived.Test.YtlidpojdaadecaaNZW
namespace Go.Proofs.Ytlidpojdaadecaa
open Go.ChangeShapes Go.WideShapes Go.ChangeAt Go.RowKit Go.Deep
set_option linter.unusedSimpArgs false
set_option linter.unusedVariables false

section
variable {H : Type} {enc : TypeId × Value → H} {w : World} {base : Nat} {spare : Nat → Bool} {held : Bool}
set_option maxRecDepth 100000 in
theorem rd_ints8 {fuel : Nat} {cs : List Value} {x : DataW H × List MemPlace} (h : DataW.trod enc Try.prog w base spare held fuel 24 cs = some x) :
    ∃ (A : Option Addr) (n c : Nat) (f : Nat → Int), cs = [.slice A n c] ∧ (n ≤ c ∧ c ≤ maxLen) ∧ Sl w A n f := by
  rcases open_ints Try.underlying24 Try.underlying3 kInt8 h with ⟨hcs, _⟩ | ⟨a, len, cap, zs, hcs, _, hl, hm, hz, _, hcell, _⟩
  · exact ⟨none, 0, 0, fun _ => 0, hcs, by decide, fun h => absurd h (by omega)⟩
  · refine ⟨some a, len, cap, fun j => zs.getD j 0, hcs, ⟨by omega, by omega⟩, fun hn => ?_⟩
    have hzl : len ≤ zs.length := by rw [hz]; split <;> omega
    obtain ⟨b, off, spot⟩ := a
    have hspot : spot = none := by simpa [Addr.add] using World.cell?_spot (hcell 0 (by omega))
    subst hspot
    refine ⟨b, off, rfl, ?_, fun j hj => by rw [← add_plain]; exact hcell j (by omega)⟩
    have := hcell 0 (by omega)
    exact World.block_lt_of_cell? w _ (by rw [add_plain] at this; exact this)
set_option maxRecDepth 100000 in
theorem op_ints8 {r : Reach} {b0 : Nat} {v : Value} {d : DataW H} {p : List MemPlace} (hv : Value.okWide Try.prog w r b0 24 v) (h : DataW.Trod enc Try.prog w base spare held 24 v d p) :
    ∃ (A : Option Addr) (n c : Nat) (f : Nat → Int), v = .slice A n c ∧ (n ≤ c ∧ c ≤ maxLen) ∧ Sl w A n f := by
  obtain ⟨A, n, c, rfl⟩ := okWide_slice Try.underlying24 hv
  obtain ⟨fuel, hf⟩ := h
  obtain ⟨A', n', c', f, h0, h1, h2⟩ := rd_ints8 hf
  simp [Value.cells] at h0
  obtain ⟨rfl, rfl, rfl⟩ := h0
  exact ⟨_, _, _, f, rfl, h1, h2⟩
set_option maxRecDepth 100000 in
theorem op_list8 {r : Reach} {b0 : Nat} {v : Value} {d : DataW H} {p : List MemPlace} (hv : Value.okWide Try.prog w r b0 24 v) (h : DataW.Trod enc Try.prog w base spare held 24 v d p) :
    ∃ (A : Option Addr) (n c : Nat) (l : List Int), v = .slice A n c ∧ IsL w 0 (.slice A n c) l ∧ n = l.length ∧ n ≤ maxLen := by
  obtain ⟨A, n, c, f, rfl, ⟨h1, h2⟩, hs⟩ := op_ints8 hv h
  have hl : ((List.range n).map f).length = n := by simp
  refine ⟨A, n, c, (List.range n).map f, rfl, ⟨A, c, by rw [hl], by rw [hl]; exact h1, h2, ?_, fun _ _ => Nat.zero_le _⟩, hl.symm, Nat.le_trans h1 h2⟩
  rw [hl]
  intro h0
  obtain ⟨b, off, e, hb, hc⟩ := hs h0
  refine ⟨b, off, e, hb, fun j hj => ?_⟩
  rw [hc j hj]
  simp [List.getD, hj]
end
end Go.Proofs.Ytlidpojdaadecaa
