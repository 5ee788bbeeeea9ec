/-
  The iterator over the places of a grid.
-/
import Derived.Test.YthemoomfbbccjaaHF
import Derived.RangeFuncNested
import Derived.RangeFuncBound
import Derived.RangeFuncCalls
import Derived.RangeFuncLeaves
import Derived.RangeFuncFrom
import Derived.RangeFuncBox
import Derived.Shelf.Abstract
import Derived.WalkKit
import Derived.OwnWalkIn
import Derived.TacticsInMore
import Derived.LoopNIn
import Derived.LoopIn
namespace Go.Proofs.Ythemoomfbbccjaa
open Go.RowKit Go.Shelf
set_option linter.unusedSimpArgs false
set_option linter.unusedVariables false
attribute [local go_sem] Oper.semAt_some

def encQ (p : Pt) : Array Value := #[.agg #[.int .i64 p.x, .int .i64 p.y]]
/-- The captured boxes are kept. -/
def Kg (bx bs : Nat) (W W' : World) : Prop := (∀ o v, W.cell? ⟨bx, o, none⟩ = some v → W'.cell? ⟨bx, o, none⟩ = some v) ∧ ∀ o v, W.cell? ⟨bs, o, none⟩ = some v → W'.cell? ⟨bs, o, none⟩ = some v
theorem Kg.t {bx bs : Nat} {A B C : World} (h : Kg bx bs A B) (k : Kg bx bs B C) : Kg bx bs A C := ⟨fun o v hv => k.1 o v (h.1 o v hv), fun o v hv => k.2 o v (h.2 o v hv)⟩
/-- The captured boxes. -/
structure GB (X : World) (bx bs : Nat) (lo hi : Pt) (st : Int) : Prop where
  b0 : X.cell? ⟨bx, 0, none⟩ = some (.int .i64 lo.x)
  b1 : X.cell? ⟨bx, 1, none⟩ = some (.int .i64 lo.y)
  b2 : X.cell? ⟨bx, 2, none⟩ = some (.int .i64 hi.x)
  b3 : X.cell? ⟨bx, 3, none⟩ = some (.int .i64 hi.y)
  s0 : X.cell? ⟨bs, 0, none⟩ = some (.int .i64 st)
theorem GB.k {X X' : World} {bx bs : Nat} {lo hi : Pt} {st : Int} (h : GB X bx bs lo hi st) (hk : Kg bx bs X X') : GB X' bx bs lo hi st :=
  ⟨hk.1 _ _ h.b0, hk.1 _ _ h.b1, hk.1 _ _ h.b2, hk.1 _ _ h.b3, hk.2 _ _ h.s0⟩
abbrev allP1 : Pt → Bool := fun _ => true
theorem all_row (x0 y st : Int) (k : Nat) : rowL allP1 x0 y st (k + 1) = rowL allP1 x0 y st k ++ [⟨x0 + (k : Int) * st, y⟩] := by rw [rowL, if_pos rfl]

set_option maxRecDepth 100000 in
set_option maxHeartbeats 3200000 in
theorem grid_in (m l bx bs : Nat) (lo hi : Pt) (st : Int) (hm : 1 ≤ m) (hb : boxOk lo hi) (hs : stOk st) (hcnt : colsN lo.y hi.y st * colsN lo.x hi.x st ≤ 10000) (J Jx : List Pt → World → Prop) (W : World)
    (hY : ∀ pre x W1, isP x → J pre W1 → pre.length < 10000 → YieldAt Fence.wide (m - 1) Try.prog l (encQ x) W1 fun e W' =>
      (e = .returned (.bool true) ∧ J (pre ++ [x]) W' ∧ Kg bx bs W1 W') ∨ (e = .returned (.bool false) ∧ Jx (pre ++ [x]) W'))
    (hG : GB W bx bs lo hi st) (h0 : J [] W) :
    CallsIn Fence.wide m Try.prog 39 #[.func (.yield l) #[] #[], .pointer (some ⟨bx, 0, none⟩), .pointer (some ⟨bs, 0, none⟩)] W fun e W' => (∃ v, e = .returned v) ∧
      ((∃ xs, xs = gridL allP1 lo st (colsN lo.x hi.x st) (colsN lo.y hi.y st) ∧ J xs W') ∨ (∃ pre, True ∧ Jx pre W')) := by
  obtain ⟨cols, hcols⟩ : ∃ q, q = colsN lo.x hi.x st := ⟨_, rfl⟩
  obtain ⟨rows, hrows⟩ : ∃ q, q = colsN lo.y hi.y st := ⟨_, rfl⟩
  have LX : Hid (∀ c : Nat, lo.x + (c : Int) * st ≤ hi.x ↔ c < cols) := Lib.hid (fun c => by rw [hcols]; exact cols_lt hs.1 hb.2.2.1 c)
  have LY : Hid (∀ c : Nat, lo.y + (c : Int) * st ≤ hi.y ↔ c < rows) := Lib.hid (fun c => by rw [hrows]; exact cols_lt hs.1 hb.2.2.2 c)
  rw [← hcols, ← hrows] at hcnt ⊢
  have HC := Lib.hid hcnt
  have HYY := Lib.hid hY
  obtain ⟨s1, s2⟩ := hs
  obtain ⟨⟨⟨lx, lx'⟩, ly, ly'⟩, ⟨⟨hx, hx'⟩, hy, hy'⟩, ox, oy⟩ := hb
  have HG := Lib.hid hG
  obtain ⟨c0, c1, c2, c3, c4⟩ := hG
  clear hcols hrows hcnt hY
  refine callsIn_of_wp Try.func39 rfl trivial ?_ rfl
  simp only [Try.ntmps39, List.size_toArray, List.length_cons, List.length_nil, Nat.reduceAdd, Nat.reduceSub, Array.replicate_succ, Array.replicate_zero, List.push_toArray, List.append_toArray, List.nil_append, List.cons_append]
  gi_wp2_with fail
  clear c0 c1 c2 c3 c4
  gi_loopw [4] (fun i wr => ∃ (r : Nat) (y : Int), i = .int .i64 y ∧ Hid (y = lo.y + (r : Int) * st) ∧ r ≤ rows ∧ -50000 ≤ y ∧ y ≤ 60000 ∧ J (gridL allP1 lo st cols r) wr ∧ Hid (GB wr bx bs lo hi st)) (fun i _ => (60001 - RowKit.intOf i).toNat)
  case atStart => exact ⟨0, lo.y, rfl, Lib.hid (by simp), Nat.zero_le _, by omega, by omega, h0, HG⟩
  case round =>
    obtain ⟨r, y, rfl, HYr, hr, y0, y1, hJs, HGr⟩ := hrel
    obtain ⟨Wo, hWo⟩ : ∃ Wo, Wo = wr := ⟨_, rfl⟩
    subst hWo
    obtain ⟨c0, c1, c2, c3, c4⟩ := HGr.out
    by_cases hlt : y ≤ hi.y
    · have rlt : r < rows := (LY.out r).1 (by rw [← HYr.out]; exact hlt)
      gi_wp2_with fail
      clear c0 c1 c2 c3 c4
      gi_loopw [5] (fun i wr => ∃ (k : Nat) (x : Int), i = .int .i64 x ∧ Hid (x = lo.x + (k : Int) * st) ∧ k ≤ cols ∧ -50000 ≤ x ∧ x ≤ 60000 ∧ J (gridL allP1 lo st cols r ++ rowL allP1 lo.x y st k) wr ∧ Hid (GB wr bx bs lo hi st)) (fun i _ => (60001 - RowKit.intOf i).toNat)
      case atStart => exact ⟨0, lo.x, rfl, Lib.hid (by simp), Nat.zero_le _, by omega, by omega, by rw [rowL, List.append_nil]; exact hJs, HGr⟩
      case round =>
        obtain ⟨k, x, rfl, HX, hk, x0, x1, jJ, HGk⟩ := hrel
        obtain ⟨c0, c1, c2, c3, c4⟩ := HGk.out
        by_cases hxt : x ≤ hi.x
        · have klt : k < cols := (LX.out k).1 (by rw [← HX.out]; exact hxt)
          have len : (gridL allP1 lo st cols r ++ rowL allP1 lo.x y st k).length < 10000 := by
            have h1 := gridL_len allP1 lo st cols r
            have h2 := rowL_len allP1 lo.x y st k
            have h3 := part_len rlt klt HC.out
            rw [List.length_append]; omega
          have HX1 : Hid (x + st = lo.x + ((k + 1 : Nat) : Int) * st) := Lib.hid (by have := HX.out; rw [Int.natCast_add, Int.add_mul]; simp; omega)
          have Y := Lib.hid (HYY.out (gridL allP1 lo st cols r ++ rowL allP1 lo.x y st k) ⟨x, y⟩ wr ⟨(show -50000 ≤ x ∧ x ≤ 50000 from ⟨by omega, by omega⟩), (show -50000 ≤ y ∧ y ≤ 50000 from ⟨by omega, by omega⟩)⟩ jJ len)
          obtain ⟨fn, tmps, assign, body, hyy, hR⟩ := Y.out
          simp only [encQ] at hyy
          gi_wp2_with fail
          clear c0 c1 c2 c3 c4
          refine hR.mono ?_
          rintro e W3 (⟨rfl, hJ3, hk3⟩ | ⟨rfl, hJx3⟩)
          · have HG3 := Lib.hid (HGk.out.k hk3)
            obtain ⟨c0, c1, c2, c3, c4⟩ := HG3.out
            gi_wp2_with fail
            go_roundw
            case rel => exact ⟨k + 1, x + st, by go_num, HX1, by omega, by omega, by omega, by rw [all_row, ← HX.out, ← List.append_assoc]; exact hJ3, HG3⟩
            case measure => simp [RowKit.intOf]; omega
          · gi_wp2
            refine bodyPost_ret (results_none rfl _ _ _) rfl ?_
            exact ⟨⟨_, rfl⟩, .inr ⟨_, trivial, hJx3⟩⟩
        · have kc : k = cols := by
            have h1 := (LX.out k).2
            have h2 := HX.out
            refine Nat.le_antisymm hk (Nat.not_lt.1 fun g => ?_)
            have := h1 g
            omega
          have HGe := Lib.hid (show gridL allP1 lo st cols (r + 1) = gridL allP1 lo st cols r ++ rowL allP1 lo.x y st k by rw [gridL, ← HYr.out, ← kc])
          have HY1 : Hid (y + st = lo.y + ((r + 1 : Nat) : Int) * st) := Lib.hid (by have := HYr.out; rw [Int.natCast_add, Int.add_mul]; simp; omega)
          gi_wp2_with fail
          go_roundw
          case rel => exact ⟨r + 1, y + st, by go_num, HY1, by omega, by omega, by omega, by rw [HGe.out]; exact jJ, HGk⟩
          case measure => simp [RowKit.intOf]; omega
    · have rc : r = rows := by
        have h1 := (LY.out r).2
        have h2 := HYr.out
        refine Nat.le_antisymm hr (Nat.not_lt.1 fun g => ?_)
        have := h1 g
        omega
      gi_wp2
      go_end0
      exact ⟨⟨_, rfl⟩, .inl (by rw [← rc]; exact hJs)⟩
end Go.Proofs.Ythemoomfbbccjaa
