/-
  Contracts of the reference's Run, and of slices.IndexFunc and ContainsFunc, firstDrop, told, inTime.
-/
import Derived.Test.YtajlfflbphbjnaaDoorBH
namespace Go.Proofs.YtajlfflbphbjnaaDoor
open Go.RowKit Go.Shelf
set_option linter.unusedSimpArgs false
set_option linter.unusedVariables false

set_option maxHeartbeats 400000 in
theorem isOf_any (k : Int) (w : World) : Calls Tryd.prog 24 #[.int .i64 k] w fun e w' => e = .returned (.func (.func 33) #[] #[.pointer (some ⟨w.heap.size, 0, none⟩)]) ∧ w' = w.alloc (.cells #[.int .i64 k] 3) := by
  go_enter Tryd.func24, Tryd.ntmps24
  go_wp2
  go_ret
  exact ⟨rfl, rfl⟩
set_option maxHeartbeats 400000 in
theorem isOf1_any (t ki n p : Int) (b : Nat) (w : World) (hp : w.cell? ⟨b, 0, none⟩ = some (.int .i64 p)) : Calls Tryd.prog 33 #[.agg #[.int .i64 t, .int .i64 ki, .int .i64 n], .pointer (some ⟨b, 0, none⟩)] w fun e w' => e = .returned (.bool (decide (ki = p))) ∧ Bl w w' := by
  have lb := ltb hp
  go_enter Tryd.func33, Tryd.ntmps33
  go_wp2
  go_ret
  exact ⟨ret_bool (by rw [Bool.eq_iff_iff]; simp), by go_grown⟩
def idxV (o : Option Nat) : Int := match o with
  | some k => (k : Int)
  | none => -1
theorem idx_keep {E : Nat → Evt} {ki : Int} {k n : Nat} (h : idxF E ki (k + 1) = some k) (hn : k < n) : idxF E ki n = some k := by
  have := idxF_some.1 h
  exact idxF_some.2 ⟨hn, this.2⟩
set_option maxHeartbeats 1600000 in
theorem index_any (A : Option Addr) (n c : Nat) (E : Nat → Evt) (ki : Int) (b : Nat) (w : World) (hA : El w A n E) (hn : n ≤ maxLen) (hp : w.cell? ⟨b, 0, none⟩ = some (.int .i64 ki)) :
    Calls Tryd.prog 31 #[.slice A n c, .func (.func 33) #[] #[.pointer (some ⟨b, 0, none⟩)]] w fun e w' => e = .returned (.int .i64 (idxV (idxF E ki n))) ∧ Bl w w' := by
  have HA := Lib.hid hA
  clear hA
  unfold maxLen at hn
  go_enter Tryd.func31, Tryd.ntmps31
  go_wp2_with fail
  go_loopw [8] (fun i wr => ∃ k : Nat, k ≤ n ∧ i = .int .i64 k ∧ Hid (idxF E ki k = none) ∧ Bl w wr) (fun i _ => n - (RowKit.intOf i).toNat)
  case atStart => exact ⟨0, Nat.zero_le _, rfl, rfl, Bl.rf _⟩
  case round =>
    obtain ⟨k, hk, rfl, HN, hB⟩ := hrel
    by_cases hlt : k < n
    · obtain ⟨b', off, rfl, hbb, hc⟩ := (HA.out.below hB) (by omega)
      obtain ⟨c0, c1, c2⟩ := hc k hlt
      clear hc
      obtain ⟨y, hy⟩ : ∃ y, y = E k := ⟨_, rfl⟩
      rw [← hy] at c0 c1 c2
      have hpw := kcb hB hp
      by_cases q : y.ki = ki
      · have HI := Lib.hid (show idxF E ki n = some k from idx_keep (by rw [idxF, HN.out]; simp only [← hy, if_pos q]) hlt)
        have Q := Lib.hid (show decide (y.ki = ki) = true from decide_eq_true q)
        clear q hy
        go_wp2_with fail
        refine (isOf1_any y.t y.ki y.n ki b _ hpw).mono ?_
        rintro e w1 ⟨rfl, hb⟩
        have B1 : Bl w w1 := hB.tr hb
        clear hb
        rw [Q.out]
        go_wp2_with fail
        go_ret
        exact ⟨by rw [HI.out]; rfl, B1⟩
      · have HI := Lib.hid (show idxF E ki (k + 1) = none by rw [idxF, HN.out]; simp only [← hy, if_neg q])
        have Q := Lib.hid (show decide (y.ki = ki) = false from decide_eq_false q)
        clear q hy
        go_wp2_with fail
        refine (isOf1_any y.t y.ki y.n ki b _ hpw).mono ?_
        rintro e w1 ⟨rfl, hb⟩
        have B1 : Bl w w1 := hB.tr hb
        clear hb
        rw [Q.out]
        go_wp2_with fail
        go_roundw
        case rel => exact ⟨k + 1, by omega, by go_num, HI.out, B1⟩
        case measure => simp [RowKit.intOf]; omega
    · obtain rfl : n = k := by omega
      go_wp2_with fail
      go_ret
      exact ⟨by rw [HN.out]; rfl, hB⟩
end Go.Proofs.YtajlfflbphbjnaaDoor
