/-
  The count of a grid; its iterator as a sequence of places.
-/
import Derived.Test.YthemoomfbbccjaaHG
import Derived.RangeFuncWrites
import Derived.RangeFuncKeeps
namespace Go.Proofs.Ythemoomfbbccjaa
open Go.RowKit Go.Shelf
set_option linter.unusedSimpArgs false
set_option linter.unusedVariables false

theorem rowL_filter (P : Pt → Bool) (x0 y st : Int) (c : Nat) : rowL P x0 y st c = (rowL allP1 x0 y st c).filter P := by
  induction c with
  | zero => rfl
  | succ c ih =>
    rw [rowL, rowL, List.filter_append, ← ih, if_pos rfl]
    cases h : P ⟨x0 + (c : Int) * st, y⟩ <;> simp [h]
theorem gridL_filter (P : Pt → Bool) (lo : Pt) (st : Int) (cols r : Nat) : gridL P lo st cols r = (gridL allP1 lo st cols r).filter P := by
  induction r with
  | zero => rfl
  | succ r ih => rw [gridL, gridL, List.filter_append, ← ih, ← rowL_filter]
/-- Places that have a valid form. -/
abbrev Pv := { p : Pt // isP p }
def encV (x : Pv) : Array Value := encQ x.1
theorem grid_seq {bx bs : Nat} {lo hi : Pt} {st : Int} {w' : World} (hb : boxOk lo hi) (hs : stOk st) (hcnt : colsN lo.y hi.y st * colsN lo.x hi.x st ≤ 10000) (hG : GB w' bx bs lo hi st) :
    SeqStopsK Fence.wide 2 Try.prog 39 #[.pointer (some ⟨bx, 0, none⟩), .pointer (some ⟨bs, 0, none⟩)] encV (Kg bx bs) (fun ys => ys.map Subtype.val = gridL allP1 lo st (colsN lo.x hi.x st) (colsN lo.y hi.y st)) (fun _ => True) 10000 w' := by
  intro l J Jx W hW _ _ hY h0
  have hG' : GB W bx bs lo hi st := ⟨kcb hW hG.b0, kcb hW hG.b1, kcb hW hG.b2, kcb hW hG.b3, kcb hW hG.s0⟩
  refine (grid_in 2 l bx bs lo hi st (by omega) hb hs hcnt (fun q X => ∃ q' : List Pv, q'.map Subtype.val = q ∧ J q' X) (fun q X => ∃ q' : List Pv, q'.map Subtype.val = q ∧ Jx q' X) W ?_ hG' ⟨[], rfl, h0⟩).mono ?_
  · rintro pre x W1 hx ⟨q', rfl, hJ⟩ hl
    obtain ⟨fn, tmps, assign, body, hyy, hR⟩ := hY q' ⟨x, hx⟩ W1 hJ (by simpa using hl)
    refine ⟨fn, tmps, assign, body, hyy, hR.mono ?_⟩
    rintro e W' (⟨he, h1, h2⟩ | ⟨he, h1⟩)
    · exact .inl ⟨he, ⟨q' ++ [⟨x, hx⟩], by simp, h1⟩, h2⟩
    · exact .inr ⟨he, ⟨q' ++ [⟨x, hx⟩], by simp, h1⟩⟩
  · rintro e W' ⟨hv, ⟨xs, rfl, q', hq, hJ⟩ | ⟨pre, _, q', hq, hJ⟩⟩
    · exact ⟨hv, .inl ⟨q', hq, hJ⟩⟩
    · exact ⟨hv, .inr ⟨q', trivial, hJ⟩⟩
set_option maxHeartbeats 1600000 in
theorem count_any (lo hi : Pt) (st : Int) (w : World) (hb : boxOk lo hi) (hs : stOk st) :
    Calls Try.prog 20 #[.agg #[.int .i64 lo.x, .int .i64 lo.y, .int .i64 hi.x, .int .i64 hi.y], .int .i64 st] w fun e w' => e = .returned (.int .i64 (cntF lo hi st)) ∧ Bl w w' := by
  obtain ⟨s1, s2⟩ := hs
  obtain ⟨qx, hqx⟩ : ∃ q, q = (hi.x - lo.x) / st := ⟨_, rfl⟩
  obtain ⟨qy, hqy⟩ : ∃ q, q = (hi.y - lo.y) / st := ⟨_, rfl⟩
  obtain ⟨dx, hdx⟩ : ∃ q, q = hi.x - lo.x := ⟨_, rfl⟩
  obtain ⟨dy, hdy⟩ : ∃ q, q = hi.y - lo.y := ⟨_, rfl⟩
  have bx := cols_bd (st := st) s1 hb.2.2.1
  have by_ := cols_bd (st := st) s1 hb.2.2.2
  have lx := hb.1.1.1
  have lx' := hb.1.1.2
  have ly := hb.1.2.1
  have ly' := hb.1.2.2
  have hx := hb.2.1.1.1
  have hx' := hb.2.1.1.2
  have hy := hb.2.1.2.1
  have hy' := hb.2.1.2.2
  have ox := hb.2.2.1
  have oy := hb.2.2.2
  rw [← hqx] at bx
  rw [← hqy] at by_
  obtain ⟨bx1, bx2⟩ := bx
  obtain ⟨by1, by2⟩ := by_
  rw [← hdx] at hqx bx2
  rw [← hdy] at hqy by2
  have tx : dx.tdiv st = qx := by rw [hqx]; exact Int.tdiv_eq_ediv_of_nonneg (by omega)
  have ty : dy.tdiv st = qy := by rw [hqy]; exact Int.tdiv_eq_ediv_of_nonneg (by omega)
  obtain ⟨m, hm⟩ : ∃ m, (qx + 1) * (qy + 1) = m := ⟨_, rfl⟩
  have hm0 : 0 ≤ m := by rw [← hm]; exact Int.mul_nonneg (by omega) (by omega)
  have hm1 : m ≤ 100001 * 100001 := by rw [← hm]; exact Int.mul_le_mul (by omega) (by omega) (by omega) (by omega)
  have HC := Lib.hid (show cntF lo hi st = m by unfold cntF; rw [← hdx, ← hdy, ← hqx, ← hqy]; exact hm)
  have e1 : IntKind.i64.wrap (hi.x - lo.x) = dx := by rw [hdx]; exact IntWalk.i64_in _ (by omega)
  have e2 : IntKind.i64.wrap (hi.y - lo.y) = dy := by rw [hdy]; exact IntWalk.i64_in _ (by omega)
  have e3 : IntKind.i64.wrap (dx.tdiv st) = qx := by rw [tx]; exact IntWalk.i64_in _ (by omega)
  have e4 : IntKind.i64.wrap (dy.tdiv st) = qy := by rw [ty]; exact IntWalk.i64_in _ (by omega)
  have e5 : IntKind.i64.wrap (qx + 1) = qx + 1 := IntWalk.i64_in _ (by omega)
  have e6 : IntKind.i64.wrap (qy + 1) = qy + 1 := IntWalk.i64_in _ (by omega)
  have e7 : IntKind.i64.wrap ((qx + 1) * (qy + 1)) = m := by rw [hm]; exact IntWalk.i64_in _ (by omega)
  have e8 : (st == 0) = false := by simp; omega
  have e9 : st ≠ 0 := by omega
  have e10 : IntKind.i64.wrap qx = qx := IntWalk.i64_in _ (by omega)
  have e11 : IntKind.i64.wrap qy = qy := IntWalk.i64_in _ (by omega)
  have e12 : dx / st = qx := hqx.symm
  have e13 : dy / st = qy := hqy.symm
  clear hb hdx hdy hqx hqy hm lx lx' ly ly' hx hx' hy hy' ox oy
  go_enter Try.func20, Try.ntmps20
  go_wp2_with fail
  go_quiet (fail)
  go_wp2_with fail
  go_ret
  exact ⟨by rw [HC.out]; rfl, Bl.tr (by go_grown) (Bl.dr _ _)⟩
theorem grid_any (lo hi : Pt) (st : Int) (w : World) :
    Calls Try.prog 21 #[.agg #[.int .i64 lo.x, .int .i64 lo.y, .int .i64 hi.x, .int .i64 hi.y], .int .i64 st] w fun e w' => e = .returned (.func (.func 39) #[] #[.pointer (some ⟨w.heap.size, 0, none⟩), .pointer (some ⟨w.heap.size + 1, 0, none⟩)]) ∧ Bl w w' ∧ GB w' w.heap.size (w.heap.size + 1) lo hi st ∧ w'.heap.size = w.heap.size + 2 := by
  go_enter Try.func21, Try.ntmps21
  go_wp2_with fail
  go_ret
  exact ⟨by simp, by go_grown, ⟨by go_cell, by go_cell, by go_cell, by go_cell, by go_cell⟩, by simp⟩
end Go.Proofs.Ythemoomfbbccjaa
