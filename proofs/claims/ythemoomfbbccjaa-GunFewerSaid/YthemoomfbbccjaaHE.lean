/-
  Contracts of the reference of package gun: Where.
-/
import Derived.Test.YthemoomfbbccjaaHD
import Derived.Test.YthemoomfbbccjaaGX
namespace Go.Proofs.Ythemoomfbbccjaa
open Go.RowKit
set_option linter.unusedSimpArgs false
set_option linter.unusedVariables false

theorem point_info : (Try.prog.info? 26).map (fun i => (i.zero, i.size, i.bytes)) = some (some (.agg #[.int .i64 0, .int .i64 0]), 2, 16) := by kernel_rfl
def ptC : List Pt → List Value
  | [] => []
  | p :: l => .int .i64 p.x :: .int .i64 p.y :: ptC l
theorem ptC_snoc (l : List Pt) (p : Pt) : ptC (l ++ [p]) = ptC l ++ [.int .i64 p.x, .int .i64 p.y] := by
  induction l with
  | nil => rfl
  | cons q l ih => simp [ptC, ih]
theorem ptC_len (l : List Pt) : (ptC l).length = l.length * 2 := by
  induction l with
  | nil => rfl
  | cons q l ih => simp [ptC, ih]; omega
theorem ptC_at (l : List Pt) : ∀ j, j < l.length → (ptC l)[j * 2]? = some (.int .i64 (l.getD j ⟨0, 0⟩).x) ∧ (ptC l)[j * 2 + 1]? = some (.int .i64 (l.getD j ⟨0, 0⟩).y) := by
  induction l with
  | nil => intro j hj; simp at hj
  | cons q l ih =>
    intro j hj
    match j with
    | 0 => exact ⟨rfl, rfl⟩
    | j + 1 =>
      have h := ih j (by simpa using hj)
      rw [show (j + 1) * 2 = j * 2 + 1 + 1 by omega, show j * 2 + 1 + 1 + 1 = (j * 2 + 1) + 1 + 1 by omega]
      simpa [ptC] using h
theorem pl_of_own {w : World} {base : Nat} {e : TypeId} {v : Value} {l : List Pt} (h : w.ownsRow base e 2 v l.length (ptC l)) : ∃ A cap, v = .slice A l.length cap ∧ l.length ≤ cap ∧ cap ≤ maxLen ∧ Pl w A l.length (fun j => l.getD j ⟨0, 0⟩) := by
  rcases h.2 with ⟨rfl, h0⟩ | ⟨g, cap, cur, rfl, hb, hg, hnc, hcm, _⟩
  · exact ⟨none, 0, by rw [h0], by omega, by decide, fun h => absurd h (by omega)⟩
  · refine ⟨some ⟨g, 0, none⟩, cap, rfl, hnc, hcm, fun hn => ⟨g, 0, rfl, (Array.getElem?_eq_some_iff.1 hg).1, fun j hj => ?_⟩⟩
    obtain ⟨h1, h2⟩ := ptC_at l j hj
    have k1 := h.cellAt (j * 2) (by omega)
    have k2 := h.cellAt (j * 2 + 1) (by omega)
    rw [Nat.zero_add]
    exact ⟨k1.trans h1, k2.trans h2⟩
theorem rowL_len (P : Pt → Bool) (x0 y st : Int) (c : Nat) : (rowL P x0 y st c).length ≤ c := by
  induction c with
  | zero => exact Nat.le_refl _
  | succ c ih =>
    rw [rowL, List.length_append]
    split <;> simp <;> omega
theorem gridL_len (P : Pt → Bool) (lo : Pt) (st : Int) (cols r : Nat) : (gridL P lo st cols r).length ≤ r * cols := by
  induction r with
  | zero => simp [gridL]
  | succ r ih =>
    rw [gridL, List.length_append, Nat.succ_mul]
    have := rowL_len P lo.x (lo.y + (r : Int) * st) st cols
    omega
theorem part_len {r rows c cols : Nat} (hr : r < rows) (hc : c < cols) (h : rows * cols ≤ 10000) : r * cols + c < 10000 := by
  have h1 : (r + 1) * cols ≤ rows * cols := Nat.mul_le_mul_right _ (by omega)
  rw [Nat.succ_mul] at h1
  omega
theorem cnt_nat {lo hi : Pt} {st : Int} (hb : boxOk lo hi) (hs : stOk st) (h : ¬ cntF lo hi st > 10000) : colsN lo.y hi.y st * colsN lo.x hi.x st ≤ 10000 := by
  have h1 := (cols_bd hs.1 hb.2.2.1).1
  have h2 := (cols_bd hs.1 hb.2.2.2).1
  unfold cntF at h
  have e1 : ((colsN lo.x hi.x st : Nat) : Int) = (hi.x - lo.x) / st + 1 := by unfold colsN; omega
  have e2 : ((colsN lo.y hi.y st : Nat) : Int) = (hi.y - lo.y) / st + 1 := by unfold colsN; omega
  rw [← e1, ← e2] at h
  have : (((colsN lo.y hi.y st * colsN lo.x hi.x st : Nat)) : Int) ≤ 10000 := by
    rw [Int.natCast_mul, Int.mul_comm]; omega
  omega
theorem Eo.below {w X X' : World} {a : Air} {lo hi : Pt} {b : Nat} (h : Eo w a lo hi X) (hb : Below b X X') (hl : w.heap.size + 1 + 1 < b) : Eo w a lo hi X' := by
  obtain ⟨h0, h1, h2, h3, h4, h5⟩ := h
  exact ⟨(hb.cell (p := ⟨_, _, none⟩) (show w.heap.size < b by omega)).trans h0, (hb.cell (p := ⟨_, _, none⟩) (show w.heap.size < b by omega)).trans h1, (hb.cell (p := ⟨_, _, none⟩) (show w.heap.size + 1 < b by omega)).trans h2, (hb.cell (p := ⟨_, _, none⟩) (show w.heap.size + 1 < b by omega)).trans h3, (hb.cell (p := ⟨_, _, none⟩) hl).trans h4, (hb.cell (p := ⟨_, _, none⟩) hl).trans h5⟩
/-- What Where returns. -/
def WhPost (a : Air) (S : Nat → Sho) (n : Nat) (lo hi : Pt) (st : Int) (w : World) (e : Ending) (w' : World) : Prop :=
  (∃ A cap, e = .returned (.tuple #[.slice A (whL a S n lo hi st).length cap, .int .i64 (whE a S n lo hi st)]) ∧ (whL a S n lo hi st).length ≤ cap ∧ cap ≤ maxLen ∧ Pl w' A (whL a S n lo hi st).length (fun j => (whL a S n lo hi st).getD j ⟨0, 0⟩)) ∧ Bl w w'
theorem wh_bad {a : Air} {S : Nat → Sho} {n : Nat} {lo hi : Pt} {st : Int} {w w' : World} {x : Int} (h : whE a S n lo hi st = x) (hx : x ≠ 0) (hb : Bl w w') : WhPost a S n lo hi st w (.returned (.tuple #[.slice none 0 0, .int .i64 x])) w' := by
  have e : whL a S n lo hi st = [] := by unfold whL; rw [if_neg (by rw [h]; exact hx)]
  refine ⟨⟨none, 0, ?_, ?_, by decide, fun g => ?_⟩, hb⟩
  · rw [e, h]; rfl
  · rw [e]; exact Nat.le_refl _
  · rw [e] at g; simp at g
theorem wh_good {a : Air} {S : Nat → Sho} {n : Nat} {lo hi : Pt} {st : Int} {w w' : World} {base : Nat} {v : Value} (h : whE a S n lo hi st = 0) (ho : w'.ownsRow base 26 2 v (gridL (whP a S n) lo st (colsN lo.x hi.x st) (colsN lo.y hi.y st)).length (ptC (gridL (whP a S n) lo st (colsN lo.x hi.x st) (colsN lo.y hi.y st)))) (hb : Bl w w') : WhPost a S n lo hi st w (.returned (.tuple #[v, .int .i64 0])) w' := by
  have e : whL a S n lo hi st = gridL (whP a S n) lo st (colsN lo.x hi.x st) (colsN lo.y hi.y st) := by unfold whL; rw [if_pos h]
  obtain ⟨A, cap, rfl, h1, h2, h3⟩ := pl_of_own ho
  refine ⟨⟨A, cap, ?_, ?_, h2, ?_⟩, hb⟩
  · rw [e, h]
  · rw [e]; exact h1
  · rw [e]; exact h3
end Go.Proofs.Ythemoomfbbccjaa
