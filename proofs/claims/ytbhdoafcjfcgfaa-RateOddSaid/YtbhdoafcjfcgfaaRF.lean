/-
  differences, steps, slices.Values as calls; weekByWeek; the reference's Least and Greatest.
-/
import Derived.Test.YtbhdoafcjfcgfaaRD
import Derived.Deep.OwnRows
import Derived.Deep.AppendLies
namespace Go.Proofs.Ytbhdoafcjfcgfaa
open Go.RowKit
set_option linter.unusedSimpArgs false
set_option linter.unusedVariables false

theorem own_b6 {w w' : World} {base : Nat} {e : TypeId} {size : Nat} {v : Value} {n : Nat} {xs : List Value} (h : w.ownsRow base e size v n xs) (hb : Bl w w') : w'.ownsRow base e size v n xs := by
  have hg : w.grownBy w' none := ⟨hb.os, hb.tape, hb.output, hb.size, fun i hi _ => hb.block i hi⟩
  refine h.kept hg ?_
  cases hv : v.ownBlock with
  | none => exact .inl rfl
  | some k => exact .inr (by simp)
theorem own_mono6 {w : World} {base base' : Nat} {e : TypeId} {size : Nat} {v : Value} {n : Nat} {xs : List Value} (h : w.ownsRow base e size v n xs) (hb : base' ≤ base) : w.ownsRow base' e size v n xs := by
  obtain ⟨h1, h2 | ⟨g, cap, cur, e1, e2, rest⟩⟩ := h
  · exact ⟨h1, .inl h2⟩
  · exact ⟨h1, .inr ⟨g, cap, cur, e1, Nat.le_trans hb e2, rest⟩⟩

set_option maxRecDepth 100000 in
set_option maxHeartbeats 1000000 in
theorem differences_any (A A' : Option Addr) (n c n' c' : Nat) (w : World) :
    Calls Try.prog 66 #[.slice A n c, .slice A' n' c'] w fun e w' => e = .returned (.func (.func 78) #[] #[.pointer (some ⟨w.heap.size, 0, none⟩), .pointer (some ⟨w.heap.size + 1, 0, none⟩)]) ∧
      w' = (w.alloc (.cells #[.slice A n c] 22)).alloc (.cells #[.slice A' n' c'] 22) := by
  go_enter Try.func66, Try.ntmps66
  go_wp2_with fail
  go_ret
  exact ⟨rfl, rfl⟩
/-- A function value that is an iterator has been returned. -/
def RetIt (f : Nat → Int) (k : Nat) (w : World) (e : Ending) (w' : World) : Prop :=
  Bl w w' ∧ ∃ gf lb, e = .returned (.func (.func gf) #[] lb) ∧ ItI gf lb f k w'
theorem diffs_any (A A' : Option Addr) (n c n' c' : Nat) (f g : Nat → Int) (w : World) (hA : Sl w A n f) (hA' : Sl w A' n' g) (hn : n ≤ n') (hmax : n' ≤ maxLen) (hbd : bdI (fun j => f j - g j) n) :
    Calls Try.prog 66 #[.slice A n c, .slice A' n' c'] w (RetIt (fun j => f j - g j) n w) := by
  refine (differences_any A A' n c n' c' w).mono ?_
  rintro e w' ⟨rfl, hw⟩
  have hB : Bl w w' := by rw [hw]; go_grown
  refine ⟨hB, _, _, rfl, diff_it hn hmax hbd (cap := c) (A := A) (A' := A') (len' := n') (cap' := c') (by rw [hw]; go_cell) (by rw [hw]; go_cell) (hA.below hB) (hA'.below hB)⟩
set_option maxRecDepth 100000 in
set_option maxHeartbeats 1000000 in
theorem valuesI_any (A : Option Addr) (n c : Nat) (f : Nat → Int) (w : World) (hA : Sl w A n f) (hmax : n ≤ maxLen) (hbd : bdI f n) :
    Calls Try.prog 47 #[.slice A n c] w (RetIt f n w) := by
  go_enter Try.func47, Try.ntmps47
  go_wp2_with fail
  go_ret
  have hB : Bl w (w.alloc (.cells #[.slice A n c] 22)) := by go_grown
  exact ⟨hB, _, _, rfl, values_it hmax hbd (cap := c) (A := A) (by go_cell) (hA.below hB)⟩
theorem Sl.tail {w : World} {b off n : Nat} {f : Nat → Int} (h : Sl w (some ⟨b, off, none⟩) n f) (k : Nat) (hk : k ≤ n) : Sl w (some ⟨b, off + k, none⟩) (n - k) (fun j => f (j + k)) := fun hn => by
  obtain ⟨b', off', e, hl, hc⟩ := h (by omega)
  cases e
  exact ⟨b, off + k, rfl, hl, fun j hj => by rw [show off + k + j = off + (j + k) by omega]; exact hc (j + k) (by omega)⟩
def stF (f : Nat → Int) (j : Nat) : Int := f (j + 1) - f j
set_option maxRecDepth 100000 in
set_option maxHeartbeats 1000000 in
theorem steps_any (A : Option Addr) (n c : Nat) (f : Nat → Int) (w : World) (hA : Sl w A n f) (h1 : 1 ≤ n) (hc : n ≤ c) (hmax : c ≤ maxLen) (hbd : bdI (stF f) (n - 1)) :
    Calls Try.prog 37 #[.slice A n c] w (RetIt (stF f) (n - 1) w) := by
  obtain ⟨b, off, rfl, hb, _⟩ := hA h1
  have HT := Lib.hid (hA.tail 1 h1)
  have HA := Lib.hid hA
  have HM := Lib.hid hmax
  clear hA
  unfold maxLen at hmax
  go_enter Try.func37, Try.ntmps37
  go_wp2_with fail
  · have hn1 : n = 1 := by omega
    refine (diffs_any (some ⟨b, off, none⟩) (some ⟨b, off, none⟩) (n - 1) 0 n 1 (fun j => f (j + 1)) f _ (fun h0 => absurd h0 (by omega)) HA.out (by omega) (by have := HM.out; omega) hbd).mono ?_
    rintro e w1 ⟨hB, gf, lb, rfl, hit⟩
    go_wp2_with fail
    go_ret
    exact ⟨hB, gf, lb, rfl, hit⟩
  · refine (diffs_any (some ⟨b, off + 1, none⟩) (some ⟨b, off, none⟩) (n - 1) (c - 1) n c (fun j => f (j + 1)) f _ HT.out HA.out (by omega) (by have := HM.out; omega) hbd).mono ?_
    rintro e w1 ⟨hB, gf, lb, rfl, hit⟩
    go_wp2_with fail
    go_ret
    exact ⟨hB, gf, lb, rfl, hit⟩

def wkF (E : Nat → Int) (j : Nat) : Int := E (7 * j)
set_option maxRecDepth 100000 in
set_option maxHeartbeats 3200000 in
theorem week_any (A : Option Addr) (n c : Nat) (E : Nat → Int) (w : World) (hA : Sl w A n E) (hn : n ≤ 400) :
    Calls Try.prog 39 #[.slice A n c] w (OwnS w.heap.size (wkF E) ((n + 6) / 7) w) := by
  obtain ⟨i0, hi0, hz0, hz1, hz2⟩ := info_parts6 int_info
  have HI := Lib.hid (And.intro hi0 (And.intro hz0 (And.intro hz1 hz2)))
  clear hi0 hz0 hz1 hz2
  have HA := Lib.hid hA
  clear hA
  go_enter Try.func39, Try.ntmps39
  go_wp2_with fail
  have NV : World.ownsRow w w.heap.size 3 1 (.slice none 0 0) 0 [] := World.ownsRow_nil _ _ _ _
  go_loopw [3, 4] (fun v i wr => ∃ k d : Nat, Hid (d = 7 * k) ∧ d ≤ n + 6 ∧ i = .int .i64 d ∧ Hid (wr.ownsRow w.heap.size 3 1 v k (inC (wkF E) k)) ∧ Bl w wr) (fun _ i _ => n + 6 - (RowKit.intOf i).toNat)
  case atStart => exact ⟨0, 0, Lib.hid rfl, by omega, rfl, NV, Bl.rf _⟩
  case round =>
    obtain ⟨k, d, HD, hd, rfl, HO, hB⟩ := hrel
    have zB := hB.size
    by_cases hlt : d < n
    · obtain ⟨b, off, rfl, hbb, hc⟩ := (HA.out.below hB) (by omega)
      have c0 := hc d hlt
      clear hc
      have HL := Lib.hid (show inC (wkF E) (k + 1) = inC (wkF E) k ++ [.int .i64 (E d)] by rw [inC, wkF, ← HD.out])
      have len := inC_len (wkF E) k
      have HK := Lib.hid (show k ≤ 400 by have := HD.out; omega)
      have hnew := Lib.hid (show (wr.alloc (.cells #[.int .i64 (E d)] 3)).heap[wr.heap.size]? = some (.cells #[.int .i64 (E d)] 3 (0, 0)) from heap_alloc_new wr _)
      go_wp2_with (at_builtin; refine wpList_append_lies _ rfl _ _ _ rfl w.heap.size 3 i0 _ 1 8 Try.underlying22 HI.out.1 HI.out.2.1 HI.out.2.2.1 HI.out.2.2.2 rfl (by omega) _ k (inC (wkF E) k) rfl (HO.out.alloc _) ⟨wr.heap.size, 0, none⟩ 1 1 [.int .i64 (E d)] rfl rfl (World.news_of_block hnew.out) (by simp [Value.oneCell']) (by omega) (by have := HK.out; unfold maxLen; omega) (by have := HK.out; omega) (by (try simp only [World.size_alloc]); omega) _ rfl ?_; intro gg cap w9 hown1 hgrow hat hlt9)
      have HO9 := Lib.hid (show w9.ownsRow w.heap.size 3 1 (.slice (some ⟨gg, 0, none⟩) (k + 1) cap) (k + 1) (inC (wkF E) (k + 1)) by
        rw [HL.out]; exact hown1)
      have hl := HO.out.lt
      have X9 : Below w.heap.size wr w9 := Below.grown (w := wr.alloc (.cells #[.int .i64 (E d)] 3)) (by go_grown) hgrow (by (try simp only [World.size_alloc]); omega) (fun j hj => (hl j hj).1)
      go_roundw
      case rel => exact ⟨k + 1, d + 7, Lib.hid (by have := HD.out; omega), by omega, by go_num, HO9.out, Below.trans hB X9⟩
      case measure => simp [RowKit.intOf]; omega
    · have HE := Lib.hid (show (n + 6) / 7 = k by have := HD.out; omega)
      go_wp2_with fail
      go_ret
      exact ⟨hB, _, rfl, by rw [HE.out]; exact HO.out⟩

set_option maxRecDepth 100000 in
set_option maxHeartbeats 1600000 in
theorem least_any (A : Option Addr) (n c : Nat) (f : Nat → Int) (w : World) (hA : Sl w A n f) (h1 : 1 ≤ n) (hmax : n ≤ maxLen) :
    Calls Try.prog 49 #[.slice A n c] w fun e w' => e = .returned (.int .i64 (mnF f n)) ∧ w = w' := by
  unfold maxLen at hmax
  obtain ⟨b, off, rfl, hb, hc⟩ := hA h1
  have c0 : w.cell? ⟨b, off, none⟩ = some (.int .i64 (f 0)) := hc 0 h1
  have HC := Lib.hid hc
  clear hc
  go_enter Try.func49, Try.ntmps49
  go_wp2_with fail
  go_loop [3, 11] (fun m i => ∃ k : Nat, k ≤ n ∧ m = .int .i64 (mnF f k) ∧ i = .int .i64 k) (fun _ i => n - (intOf i).toNat)
  case atStart => exact ⟨0, Nat.zero_le _, rfl, rfl⟩
  case round =>
    obtain ⟨k, hk, rfl, rfl⟩ := hrel
    by_cases hlt : k < n
    · have c1 := HC.out k hlt
      have HM := Lib.hid (show mnF f (k + 1) = min (mnF f k) (f k) from rfl)
      go_wp2_with fail
      go_round
      case rel => exact ⟨k + 1, by omega, by rw [HM.out], by go_num⟩
      case measure => simp [intOf]; omega
    · obtain rfl : k = n := by omega
      go_wp2_with fail
      go_ret
      exact ⟨rfl, rfl⟩
set_option maxRecDepth 100000 in
set_option maxHeartbeats 1600000 in
theorem greatest_any (A : Option Addr) (n c : Nat) (f : Nat → Int) (w : World) (hA : Sl w A n f) (h1 : 1 ≤ n) (hmax : n ≤ maxLen) :
    Calls Try.prog 50 #[.slice A n c] w fun e w' => e = .returned (.int .i64 (mxF f n)) ∧ w = w' := by
  unfold maxLen at hmax
  obtain ⟨b, off, rfl, hb, hc⟩ := hA h1
  have c0 : w.cell? ⟨b, off, none⟩ = some (.int .i64 (f 0)) := hc 0 h1
  have HC := Lib.hid hc
  clear hc
  go_enter Try.func50, Try.ntmps50
  go_wp2_with fail
  go_loop [3, 11] (fun m i => ∃ k : Nat, k ≤ n ∧ m = .int .i64 (mxF f k) ∧ i = .int .i64 k) (fun _ i => n - (intOf i).toNat)
  case atStart => exact ⟨0, Nat.zero_le _, rfl, rfl⟩
  case round =>
    obtain ⟨k, hk, rfl, rfl⟩ := hrel
    by_cases hlt : k < n
    · have c1 := HC.out k hlt
      have HM := Lib.hid (show mxF f (k + 1) = max (mxF f k) (f k) from rfl)
      go_wp2_with fail
      go_round
      case rel => exact ⟨k + 1, by omega, by rw [HM.out], by go_num⟩
      case measure => simp [intOf]; omega
    · obtain rfl : k = n := by omega
      go_wp2_with fail
      go_ret
      exact ⟨rfl, rfl⟩
end Go.Proofs.Ytbhdoafcjfcgfaa
