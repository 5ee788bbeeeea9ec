/-
  The iterator over a year's months with their first days, and the date of a day.
-/
import Derived.RangeFuncNested
import Derived.RangeFuncBound
import Derived.RangeFuncCalls
import Derived.RangeFuncLeaves
import Derived.RangeFuncFrom
import Derived.RangeFuncBox
import Derived.Shelf.Abstract
import Derived.WalkKit
import Derived.OwnWalkIn
import Derived.TacticsInMore
import Derived.LoopNIn
import Derived.LoopIn
import Derived.Test.YtdelgijalnmehaaDoorN
namespace Go.Proofs.YtdelgijalnmehaaDoor
open Go.RowKit Go.Shelf Cal
set_option linter.unusedSimpArgs false
set_option linter.unusedVariables false
attribute [local go_sem] Oper.semAt_some

/-- A month and its first day. -/
abbrev MF := { x : Int × Int // 1 ≤ x.1 ∧ x.1 ≤ 12 ∧ 0 ≤ x.2 ∧ x.2 ≤ 200000 }
def encMF (x : MF) : Array Value := #[.int .i64 x.1.1, .int .i64 x.1.2]
theorem mf_ok {y : Int} (h1 : 1700 ≤ y) (h2 : y ≤ 2200) {j : Nat} (hj : j < 12) : 1 ≤ ((j : Int) + 1) ∧ ((j : Int) + 1) ≤ 12 ∧ 0 ≤ ny y + cum y (j + 1) ∧ ny y + cum y (j + 1) ≤ 200000 := by
  have := ny_bd y h1 (by omega)
  have := cum_bd y (j + 1)
  omega
def mf (y : Int) (h1 : 1700 ≤ y) (h2 : y ≤ 2200) (j : Nat) : MF := if hj : j < 12 then ⟨((j : Int) + 1, ny y + cum y (j + 1)), mf_ok h1 h2 hj⟩ else ⟨(1, 0), by omega⟩
theorem mf_at {y : Int} {h1 : 1700 ≤ y} {h2 : y ≤ 2200} {j : Nat} (hj : j < 12) : (mf y h1 h2 j).1 = ((j : Int) + 1, ny y + cum y (j + 1)) := by rw [mf, dif_pos hj]
def upto {α : Type} (f : Nat → α) (k : Nat) : List α := (List.range k).map f
theorem upto_succ {α : Type} (f : Nat → α) (k : Nat) : upto f (k + 1) = upto f k ++ [f k] := by simp [upto, List.range_succ]
theorem upto_length {α : Type} (f : Nat → α) (k : Nat) : (upto f k).length = k := by simp [upto]

/-- What a round keeps: the year's cell, and whatever lay below. -/
def Kc (yb n₀ : Nat) (W W' : World) : Prop := (∀ v, W.cell? ⟨yb, 0, none⟩ = some v → W'.cell? ⟨yb, 0, none⟩ = some v) ∧ Below n₀ W W'
theorem Kc.t {yb n₀ : Nat} {A B C : World} (h : Kc yb n₀ A B) (k : Kc yb n₀ B C) : Kc yb n₀ A C := ⟨fun v hv => k.1 v (h.1 v hv), h.2.trans k.2⟩
theorem Kc.b {yb n₀ : Nat} {w : World} (hn : n₀ ≤ w.heap.size) (W : World) (l : Nat) (o o' : Obj) (hl : w.heap.size ≤ l) (h : W.heap[l]? = some o) (ho : o.isCells = false) (hw : o.isWalk = false) : Kc yb n₀ W (W.putObj l o') :=
  ⟨fun v hv => cell_kept hv (grownBy_putObj' _ l o') (fun r e => by cases e; exact ⟨_, h, ho⟩), belowK_b hn W l o o' hl h ho hw⟩
theorem Mo.at {n₀ : Nat} {w w' : World} (h : Mo w) (hg : 2 < n₀) (hb : Below n₀ w w') : Mo w' :=
  ⟨fun i hi => (hb.cell (p := ⟨_, i, none⟩) hg).trans (h.1 i hi), Nat.lt_of_lt_of_le h.2 hb.size⟩

set_option maxRecDepth 100000 in
set_option maxHeartbeats 2000000 in
theorem fd1_in (n l yb n₀ : Nat) (y : Int) (h1 : 1700 ≤ y) (h2 : y ≤ 2200) (hn : 1 ≤ n) (hg : 2 < n₀) (J Jx : List MF → World → Prop)
    (hY : ∀ pre x W, J pre W → pre.length < 12 → YieldAt Fence.wide (n - 1) Tryd.prog l (encMF x) W fun e W' =>
      (e = .returned (.bool true) ∧ J (pre ++ [x]) W' ∧ Kc yb n₀ W W') ∨ (e = .returned (.bool false) ∧ Jx (pre ++ [x]) W'))
    (W : World) (hM : Mo W) (hyc : W.cell? ⟨yb, 0, none⟩ = some (.int .i64 y)) (h0 : J [] W) :
    CallsIn Fence.wide n Tryd.prog 46 #[.func (.yield l) #[] #[], .pointer (some ⟨yb, 0, none⟩)] W fun e W' => (∃ v, e = .returned v) ∧
      ((∃ ys, ys = upto (mf y h1 h2) 12 ∧ J ys W') ∨ (∃ pre, (∃ k, k ≤ 12 ∧ pre = upto (mf y h1 h2) k) ∧ Jx pre W')) := by
  refine callsIn_of_wp Tryd.func46 rfl trivial ?_ rfl
  simp only [Tryd.ntmps46, List.size_toArray, List.length_cons, List.length_nil, Nat.reduceAdd, Nat.reduceSub, Array.replicate_succ, Array.replicate_zero, List.push_toArray, List.append_toArray, List.nil_append, List.cons_append]
  gi_wp2_with (refine ⟨trivial, ?_⟩; gi_at_call 47; refine (callsIn_wide.2 (newYear_any y _ h1 (by omega))).mono ?_; rintro e w' ⟨rfl, hw⟩; obtain rfl := hw.symm)
  gi_loopw [3, 4] (fun v i wr => ∃ k : Nat, k ≤ 12 ∧ v = .int .i64 (ny y + cum y (k + 1)) ∧ i = .int .i64 ((k : Int) + 1) ∧ J (upto (mf y h1 h2) k) wr ∧ wr.cell? ⟨yb, 0, none⟩ = some (.int .i64 y) ∧ Below n₀ W wr) (fun _ i _ => 13 - (intOf i).toNat)
  case atStart => exact ⟨0, Nat.zero_le _, by simp [cum], rfl, h0, hyc, Below.refl _ _⟩
  case round =>
    obtain ⟨k, hk, rfl, rfl, hJs, hcy, hnx⟩ := hrel
    have hMr : Hid (Mo wr) := hM.at hg hnx
    by_cases hlt : k < 12
    · have nb := ny_bd y h1 (by omega)
      have cb := cum_bd y (k + 1)
      have cs := cum_succ y (k + 1) (by omega) (by omega)
      have mb := mon_bd y (k + 1)
      have CS := Lib.hid cs
      clear cs
      obtain ⟨fn, tmps, assign, body, hy, hR⟩ := hY _ (mf y h1 h2 k) wr hJs (by rw [upto_length]; exact hlt)
      simp only [encMF, mf_at hlt] at hy
      gi_wp2_with fail
      refine hR.mono ?_
      rintro e W3 (⟨rfl, hJ3, hk3⟩ | ⟨rfl, hJx3⟩)
      · have hM3 : Hid (Mo W3) := hMr.out.at hg hk3.2
        have hcy3 := hk3.1 _ hcy
        gi_wp2_with (refine ⟨trivial, ?_⟩; gi_at_call 45; refine (callsIn_wide.2 (daysIn_any y ((k : Int) + 1) _ hM3.out (by omega) (by omega))).mono ?_; rintro e w' ⟨rfl, hw⟩; obtain rfl := hw.symm; clear hw)
        go_roundw
        case rel => exact ⟨k + 1, by omega, by rw [show (((k + 1 : Nat) : Int) + 1) = (k : Int) + 1 + 1 by omega, CS.out]; congr 1; omega, by congr 1, by rw [upto_succ]; exact hJ3, hcy3, hnx.trans hk3.2⟩
        case measure => simp [intOf]; omega
      · gi_wp2
        refine bodyPost_ret (results_none rfl _ _ _) rfl ?_
        exact ⟨⟨_, rfl⟩, .inr ⟨_, ⟨k + 1, by omega, (upto_succ _ _).symm⟩, hJx3⟩⟩
    · obtain rfl : k = 12 := by omega
      gi_wp2
      go_end0
      exact ⟨⟨_, rfl⟩, .inl ⟨_, rfl, hJs⟩⟩
end Go.Proofs.YtdelgijalnmehaaDoor
