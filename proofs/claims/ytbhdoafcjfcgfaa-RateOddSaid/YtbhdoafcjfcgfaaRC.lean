/-
  The iterators of package rate over differences, and slices.Values: their contracts; slices.Collect over any of them.
-/
import Derived.Test.YtbhdoafcjfcgfaaRA
import Derived.RangeFuncNested
import Derived.RangeFuncBound
import Derived.RangeFuncCalls
import Derived.RangeFuncLeaves
import Derived.RangeFuncFrom
import Derived.RangeFuncBox
import Derived.Shelf.Abstract
import Derived.WalkKit
import Derived.OwnWalkIn
import Derived.TacticsInMore
import Derived.LoopNIn
import Derived.LoopIn
import Derived.Maps.AppendAt
namespace Go.Proofs.Ytbhdoafcjfcgfaa
open Go.RowKit Go.Shelf
set_option linter.unusedSimpArgs false
set_option linter.unusedVariables false
attribute [local go_sem] Oper.semAt_some

/-- A number far from the ends of the machine's. -/
abbrev Ib := { x : Int // -1000000000000000 ≤ x ∧ x ≤ 1000000000000000 }
def encI (x : Ib) : Array Value := #[.int .i64 x.1]
def toIb (x : Int) : Ib := if h : -1000000000000000 ≤ x ∧ x ≤ 1000000000000000 then ⟨x, h⟩ else ⟨0, by omega⟩
theorem toIb_at {x : Int} (h : -1000000000000000 ≤ x ∧ x ≤ 1000000000000000) : (toIb x).1 = x := by rw [toIb, dif_pos h]
def upI (f : Nat → Int) (k : Nat) : List Ib := (List.range k).map (fun j => toIb (f j))
theorem upI_succ (f : Nat → Int) (k : Nat) : upI f (k + 1) = upI f k ++ [toIb (f k)] := by simp [upI, List.range_succ]
theorem upI_length (f : Nat → Int) (k : Nat) : (upI f k).length = k := by simp [upI]
/-- A slice below n₀ reads as a function. -/
def Sn (n₀ : Nat) (w : World) (A : Option Addr) (n : Nat) (f : Nat → Int) : Prop :=
  0 < n → ∃ b off, A = some ⟨b, off, none⟩ ∧ b < n₀ ∧ ∀ j, j < n → w.cell? ⟨b, off + j, none⟩ = some (.int .i64 (f j))
theorem Sn.below {n₀ : Nat} {w w' : World} {A : Option Addr} {n : Nat} {f : Nat → Int} (h : Sn n₀ w A n f) (hb : Below n₀ w w') : Sn n₀ w' A n f := fun hn => by
  obtain ⟨b, off, e, hlt, hc⟩ := h hn
  exact ⟨b, off, e, hlt, fun j hj => (hb.cell (p := ⟨b, off + j, none⟩) hlt).trans (hc j hj)⟩
theorem Sl.sn {w : World} {A : Option Addr} {n : Nat} {f : Nat → Int} (h : Sl w A n f) {n₀ : Nat} (hn : w.heap.size ≤ n₀) : Sn n₀ w A n f := fun h0 => by
  obtain ⟨b, off, e, hlt, hc⟩ := h h0
  exact ⟨b, off, e, Nat.lt_of_lt_of_le hlt hn, hc⟩
def bdI (f : Nat → Int) (n : Nat) : Prop := ∀ j, j < n → -1000000000000000 ≤ f j ∧ f j ≤ 1000000000000000

set_option maxRecDepth 100000 in
set_option maxHeartbeats 2000000 in
theorem diff1_in (m l B1 B2 n₀ : Nat) (A A' : Option Addr) (len cap len' cap' : Nat) (f g : Nat → Int) (hm : 1 ≤ m) (hl : len ≤ len') (hmax : len' ≤ maxLen) (hB2 : B2 < n₀)
    (hbd : bdI (fun j => f j - g j) len) (J Jx : List Ib → World → Prop)
    (hY : ∀ pre x W, J pre W → pre.length < len → YieldAt Fence.wide (m - 1) Try.prog l (encI x) W fun e W' =>
      (e = .returned (.bool true) ∧ J (pre ++ [x]) W' ∧ Below n₀ W W') ∨ (e = .returned (.bool false) ∧ Jx (pre ++ [x]) W'))
    (W : World) (h1 : W.cell? ⟨B1, 0, none⟩ = some (.slice A len cap)) (h2 : W.cell? ⟨B2, 0, none⟩ = some (.slice A' len' cap')) (hA : Sn n₀ W A len f) (hA' : Sn n₀ W A' len' g) (h0 : J [] W) :
    CallsIn Fence.wide m Try.prog 78 #[.func (.yield l) #[] #[], .pointer (some ⟨B1, 0, none⟩), .pointer (some ⟨B2, 0, none⟩)] W fun e W' => (∃ v, e = .returned v) ∧
      ((∃ ys, ys = upI (fun j => f j - g j) len ∧ J ys W') ∨ (∃ pre, (∃ k, k ≤ len ∧ pre = upI (fun j => f j - g j) k) ∧ Jx pre W')) := by
  unfold maxLen at hmax
  have HYY := Lib.hid hY
  have HA := Lib.hid hA
  have HA' := Lib.hid hA'
  clear hY hA hA'
  refine callsIn_of_wp Try.func78 rfl trivial ?_ rfl
  simp only [Try.ntmps78, List.size_toArray, List.length_cons, List.length_nil, Nat.reduceAdd, Nat.reduceSub, Array.replicate_succ, Array.replicate_zero, List.push_toArray, List.append_toArray, List.nil_append, List.cons_append]
  gi_wp2_with fail
  gi_loopw [8] (fun i wr => ∃ k : Nat, k ≤ len ∧ i = .int .i64 k ∧ J (upI (fun j => f j - g j) k) wr ∧ Below n₀ W wr) (fun i _ => len - (intOf i).toNat)
  case atStart => exact ⟨0, Nat.zero_le _, rfl, h0, Below.refl _ _⟩
  case round =>
    obtain ⟨k, hk, rfl, hJs, hnx⟩ := hrel
    by_cases hlt : k < len
    · obtain ⟨b, off, eA, hb, hc⟩ := HA.out (by omega)
      obtain ⟨b', off', eA', hb', hc'⟩ := HA'.out (by omega)
      subst eA eA'
      have c1 := (hnx.cell (p := ⟨b, off + k, none⟩) hb).trans (hc k hlt)
      have c2 := (hnx.cell (p := ⟨b', off' + k, none⟩) hb').trans (hc' k (by omega))
      have c3 := (hnx.cell (p := ⟨B2, 0, none⟩) hB2).trans h2
      clear hc hc'
      have bd : -1000000000000000 ≤ f k - g k ∧ f k - g k ≤ 1000000000000000 := hbd k hlt
      have k' : k < len' := by omega
      obtain ⟨fn, tmps, assign, body, hy, hR⟩ := HYY.out _ (toIb (f k - g k)) wr hJs (by rw [upI_length]; exact hlt)
      simp only [encI, toIb_at bd] at hy
      obtain ⟨bd1, bd2⟩ := bd
      gi_wp2_with fail
      refine hR.mono ?_
      rintro e W3 (⟨rfl, hJ3, hk3⟩ | ⟨rfl, hJx3⟩)
      · gi_wp2_with fail
        go_roundw
        case rel => exact ⟨k + 1, by omega, by go_num, by rw [upI_succ]; exact hJ3, hnx.trans hk3⟩
        case measure => simp [intOf]; omega
      · gi_wp2
        refine bodyPost_ret (results_none rfl _ _ _) rfl ?_
        exact ⟨⟨_, rfl⟩, .inr ⟨_, ⟨k + 1, by omega, (upI_succ _ _).symm⟩, hJx3⟩⟩
    · obtain rfl : k = len := by omega
      gi_wp2
      go_end0
      exact ⟨⟨_, rfl⟩, .inl ⟨_, rfl, hJs⟩⟩

set_option maxRecDepth 100000 in
set_option maxHeartbeats 2000000 in
theorem values1_in (m l B1 n₀ : Nat) (A : Option Addr) (len cap : Nat) (f : Nat → Int) (hm : 1 ≤ m) (hmax : len ≤ maxLen)
    (hbd : bdI f len) (J Jx : List Ib → World → Prop)
    (hY : ∀ pre x W, J pre W → pre.length < len → YieldAt Fence.wide (m - 1) Try.prog l (encI x) W fun e W' =>
      (e = .returned (.bool true) ∧ J (pre ++ [x]) W' ∧ Below n₀ W W') ∨ (e = .returned (.bool false) ∧ Jx (pre ++ [x]) W'))
    (W : World) (h1 : W.cell? ⟨B1, 0, none⟩ = some (.slice A len cap)) (hA : Sn n₀ W A len f) (h0 : J [] W) :
    CallsIn Fence.wide m Try.prog 69 #[.func (.yield l) #[] #[], .pointer (some ⟨B1, 0, none⟩)] W fun e W' => (∃ v, e = .returned v) ∧
      ((∃ ys, ys = upI f len ∧ J ys W') ∨ (∃ pre, (∃ k, k ≤ len ∧ pre = upI f k) ∧ Jx pre W')) := by
  unfold maxLen at hmax
  have HYY := Lib.hid hY
  have HA := Lib.hid hA
  clear hY hA
  refine callsIn_of_wp Try.func69 rfl trivial ?_ rfl
  simp only [Try.ntmps69, List.size_toArray, List.length_cons, List.length_nil, Nat.reduceAdd, Nat.reduceSub, Array.replicate_succ, Array.replicate_zero, List.push_toArray, List.append_toArray, List.nil_append, List.cons_append]
  gi_wp2_with fail
  gi_loopw [7] (fun i wr => ∃ k : Nat, k ≤ len ∧ i = .int .i64 k ∧ J (upI f k) wr ∧ Below n₀ W wr) (fun i _ => len - (intOf i).toNat)
  case atStart => exact ⟨0, Nat.zero_le _, rfl, h0, Below.refl _ _⟩
  case round =>
    obtain ⟨k, hk, rfl, hJs, hnx⟩ := hrel
    by_cases hlt : k < len
    · obtain ⟨b, off, eA, hb, hc⟩ := HA.out (by omega)
      subst eA
      have c1 := (hnx.cell (p := ⟨b, off + k, none⟩) hb).trans (hc k hlt)
      clear hc
      have bd := hbd k hlt
      obtain ⟨fn, tmps, assign, body, hy, hR⟩ := HYY.out _ (toIb (f k)) wr hJs (by rw [upI_length]; exact hlt)
      simp only [encI, toIb_at bd] at hy
      gi_wp2_with fail
      refine hR.mono ?_
      rintro e W3 (⟨rfl, hJ3, hk3⟩ | ⟨rfl, hJx3⟩)
      · gi_wp2_with fail
        go_roundw
        case rel => exact ⟨k + 1, by omega, by go_num, by rw [upI_succ]; exact hJ3, hnx.trans hk3⟩
        case measure => simp [intOf]; omega
      · gi_wp2
        refine bodyPost_ret (results_none rfl _ _ _) rfl ?_
        exact ⟨⟨_, rfl⟩, .inr ⟨_, ⟨k + 1, by omega, (upI_succ _ _).symm⟩, hJx3⟩⟩
    · obtain rfl : k = len := by omega
      gi_wp2
      go_end0
      exact ⟨⟨_, rfl⟩, .inl ⟨_, rfl, hJs⟩⟩

/-- A function value is an iterator over the first k numbers of f. -/
structure ItI (gf : Nat) (lb : Array Value) (f : Nat → Int) (k : Nat) (w : World) : Prop where
  enters : ∀ args W, (callFunc gf args).run Try.prog W = .ok (.enter gf args) W
  max : k ≤ maxLen
  bound : bdI f k
  seq : SeqStopsK Fence.wide 2 Try.prog gf lb encI (Below w.heap.size) (fun ys => ys = upI f k) (fun pre => ∃ j, j ≤ k ∧ pre = upI f j) k w

theorem diff_it {w : World} {B1 B2 : Nat} {A A' : Option Addr} {len cap len' cap' : Nat} {f g : Nat → Int} (hl : len ≤ len') (hmax : len' ≤ maxLen) (hbd : bdI (fun j => f j - g j) len)
    (h1 : w.cell? ⟨B1, 0, none⟩ = some (.slice A len cap)) (h2 : w.cell? ⟨B2, 0, none⟩ = some (.slice A' len' cap')) (hA : Sl w A len f) (hA' : Sl w A' len' g) :
    ItI 78 #[.pointer (some ⟨B1, 0, none⟩), .pointer (some ⟨B2, 0, none⟩)] (fun j => f j - g j) len w :=
  ⟨enters_of Try.func78 (by kernel_rfl) rfl, Nat.le_trans hl hmax, hbd, fun l J Jx W hW _ _ hY h0 =>
    diff1_in 2 l B1 B2 w.heap.size A A' len cap len' cap' f g (by omega) hl hmax (ltb h2) hbd J Jx hY W (kcb hW h1) (kcb hW h2) ((hA.sn (Nat.le_refl _)).below hW) ((hA'.sn (Nat.le_refl _)).below hW) h0⟩
theorem values_it {w : World} {B1 : Nat} {A : Option Addr} {len cap : Nat} {f : Nat → Int} (hmax : len ≤ maxLen) (hbd : bdI f len)
    (h1 : w.cell? ⟨B1, 0, none⟩ = some (.slice A len cap)) (hA : Sl w A len f) :
    ItI 69 #[.pointer (some ⟨B1, 0, none⟩)] f len w :=
  ⟨enters_of Try.func69 (by kernel_rfl) rfl, hmax, hbd, fun l J Jx W hW _ _ hY h0 =>
    values1_in 2 l B1 w.heap.size A len cap f (by omega) hmax hbd J Jx hY W (kcb hW h1) ((hA.sn (Nat.le_refl _)).below hW) h0⟩
end Go.Proofs.Ytbhdoafcjfcgfaa
