/-
  The walk of BallWords.
-/
import Derived.Test.YtajlfflbphbjnaaDoorBZ
import Derived.Test.YtajlfflbphbjnaaDoorBP
import Derived.ChangeKeysEq
namespace Go.Proofs.YtajlfflbphbjnaaDoor
open Go.RowKit
set_option linter.unusedSimpArgs false
set_option linter.unusedVariables false

theorem eqCounts (c0 c1 c2 c3 c4 c5 : Int) (w : World) : (Op.equalIn 10000 24 (.agg #[.int .i64 c0, .int .i64 c1, .int .i64 c2, .int .i64 c3, .int .i64 c4, .int .i64 c5]) (.agg #[.int .i64 c0, .int .i64 c1, .int .i64 c2, .int .i64 c3, .int .i64 c4, .int .i64 c5])).run Tryd.prog w = .ok true w := by
  have hi : ∃ i, Tryd.prog.info? 3 = some i := Option.isSome_iff_exists.1 (by kernel_rfl)
  obtain ⟨i, hi⟩ := hi
  have hc : Tryd.prog.cellsOf 3 = 1 := by kernel_rfl
  have hp : Tryd.prog.plainKey 3 = true := by kernel_rfl
  have he : ∀ a : Int, (Op.equalIn 9999 3 (.int .i64 a) (.int .i64 a)).run Tryd.prog w = .ok true w := fun a => by rw [show (9999 : Nat) = 9998 + 1 from rfl, run_equalIn_int w 9998 3 .i64 _ a a Tryd.underlying3]; simp
  have r : List.range 6 = [0, 1, 2, 3, 4, 5] := by decide
  have p0 := run_part_plain (w := w) hp (xs := #[.int .i64 c0, .int .i64 c1, .int .i64 c2, .int .i64 c3, .int .i64 c4, .int .i64 c5]) (off := 0) (v := .int .i64 c0) rfl
  have p1 := run_part_plain (w := w) hp (xs := #[.int .i64 c0, .int .i64 c1, .int .i64 c2, .int .i64 c3, .int .i64 c4, .int .i64 c5]) (off := 1) (v := .int .i64 c1) rfl
  have p2 := run_part_plain (w := w) hp (xs := #[.int .i64 c0, .int .i64 c1, .int .i64 c2, .int .i64 c3, .int .i64 c4, .int .i64 c5]) (off := 2) (v := .int .i64 c2) rfl
  have p3 := run_part_plain (w := w) hp (xs := #[.int .i64 c0, .int .i64 c1, .int .i64 c2, .int .i64 c3, .int .i64 c4, .int .i64 c5]) (off := 3) (v := .int .i64 c3) rfl
  have p4 := run_part_plain (w := w) hp (xs := #[.int .i64 c0, .int .i64 c1, .int .i64 c2, .int .i64 c3, .int .i64 c4, .int .i64 c5]) (off := 4) (v := .int .i64 c4) rfl
  have p5 := run_part_plain (w := w) hp (xs := #[.int .i64 c0, .int .i64 c1, .int .i64 c2, .int .i64 c3, .int .i64 c4, .int .i64 c5]) (off := 5) (v := .int .i64 c5) rfl
  rw [show (10000 : Nat) = 9999 + 1 from rfl, run_equalIn_array w 9999 _ _ Tryd.underlying24 hi, hc, r]
  simp only [Op.eqItems, Sem.run_bind, Nat.mul_one, Nat.zero_mul, p0, p1, p2, p3, p4, p5, Result.andThen_ok, he, Bool.not_true, Bool.false_eq_true, if_false, Sem.run_pure]
theorem cntR_form (f : Nat → Int) (n : Nat) : ∃ c0 c1 c2 c3 c4 c5 e : Int, cntR f n = .tuple #[.agg #[.int .i64 c0, .int .i64 c1, .int .i64 c2, .int .i64 c3, .int .i64 c4, .int .i64 c5], .int .i64 e] := by
  unfold cntR
  split
  · exact ⟨_, _, _, _, _, _, _, rfl⟩
  · exact ⟨_, _, _, _, _, _, _, rfl⟩
set_option maxRecDepth 100000 in
set_option maxHeartbeats 3200000 in
theorem words_walk (v : Int) (A : Option Addr) (n c : Nat) (f : Nat → Int) (w : World) (hA : Sn w A n f) (hn : n ≤ maxLen) (hW : Wd w) :
    Calls Tryd.prog 3 #[.int .i64 v, .slice A n c] w fun e' w' => e' = .returned (.bool true) ∧ Bl w w' := by
  have HA := Lib.hid hA
  have HW := Lib.hid hW
  clear hA hW
  unfold maxLen at hn
  by_cases h : 1000 < n
  · go_enter Tryd.func3, Tryd.ntmps3
    go_wp2_with fail
    refine (awakeB_any _).mono ?_
    rintro q2 w2 ⟨rfl, hb⟩
    go_wp2_with fail
    go_ret
    exact ⟨rfl, hb⟩
  · have hn' : n ≤ 1000 := by omega
    clear h
    obtain ⟨c0, c1, c2, c3, c4, c5, er, hR⟩ := cntR_form f n
    have HR := Lib.hid hR
    obtain ⟨s, hs⟩ : ∃ s, s = wordR v := ⟨_, rfl⟩
    have HS := Lib.hid hs
    have HSS : (s.toList == s.toList) = true := by simp
    obtain ⟨fb, hf⟩ : ∃ fb, fb = decide (fltF v) := ⟨_, rfl⟩
    have HF := Lib.hid hf
    have HFF : (fb == fb) = true := by simp
    have e0 : (c0 == c0) = true := by simp
    have e1 : (c1 == c1) = true := by simp
    have e2 : (c2 == c2) = true := by simp
    have e3 : (c3 == c3) = true := by simp
    have e4 : (c4 == c4) = true := by simp
    have e5 : (c5 == c5) = true := by simp
    have e6 : (er == er) = true := by simp
    have EQ := eqCounts c0 c1 c2 c3 c4 c5
    clear hR hs hf
    go_enter Tryd.func3, Tryd.ntmps3
    go_wp2_with fail
    refine (count_anyB A n c f _ HA.out hn').mono ?_
    rintro q1 w1 ⟨rfl, hb⟩
    rw [HR.out]
    have B1 := hb
    have z1 := B1.size
    clear hb
    go_wp2_with fail
    refine (rcount_anyB A n c f _ (HA.out.below (B1.tr (by go_grown))) hn').mono ?_
    rintro q2 w2 ⟨rfl, hb⟩
    rw [HR.out]
    have k0 := kcb hb (b := w1.heap.size) (o := 0) (v := .int .i64 c0) (by go_cell)
    have k1 := kcb hb (b := w1.heap.size) (o := 1) (v := .int .i64 c1) (by go_cell)
    have k2 := kcb hb (b := w1.heap.size) (o := 2) (v := .int .i64 c2) (by go_cell)
    have k3 := kcb hb (b := w1.heap.size) (o := 3) (v := .int .i64 c3) (by go_cell)
    have k4 := kcb hb (b := w1.heap.size) (o := 4) (v := .int .i64 c4) (by go_cell)
    have k5 := kcb hb (b := w1.heap.size) (o := 5) (v := .int .i64 c5) (by go_cell)
    have B2 : Bl w w2 := Bl.tr (B1.tr (by go_grown)) hb
    have l2 := ltb k0
    have z2 := B2.size
    clear hb
    go_wp2_with fail
    refine (fault_any v _).mono ?_
    rintro q3 w3 ⟨rfl, rfl⟩
    rw [← HF.out]
    go_wp2_with fail
    refine (rfault_any v _).mono ?_
    rintro q4 w4 ⟨rfl, rfl⟩
    rw [← HF.out]
    go_wp2_with fail
    refine (word_any v _ (HW.out.below (B2.tr (by go_grown)))).mono ?_
    rintro q5 w5 ⟨rfl, rfl⟩
    rw [← HS.out]
    go_wp2_with fail
    refine (rword_any v _).mono ?_
    rintro q6 w6 ⟨rfl, rfl⟩
    rw [← HS.out]
    go_wp2_with fail
    refine (awakeB_any _).mono ?_
    rintro q9 w9 ⟨rfl, hb⟩
    go_wp2_with fail
    go_ret
    exact ⟨rfl, Bl.tr (B2.tr (by go_grown)) hb⟩
end Go.Proofs.YtajlfflbphbjnaaDoor
