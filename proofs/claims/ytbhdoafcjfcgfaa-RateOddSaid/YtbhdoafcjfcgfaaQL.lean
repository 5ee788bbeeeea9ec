/-
  The walk of RateOdd.
-/
import Derived.Test.YtbhdoafcjfcgfaaQK
import Derived.Test.YtbhdoafcjfcgfaaQI
namespace Go.Proofs.Ytbhdoafcjfcgfaa
open Go.RowKit
set_option linter.unusedSimpArgs false
set_option linter.unusedVariables false

theorem arcR_form (m : Int) : ∃ a b e, arcR m = .tuple #[.int .i64 a, .int .i64 b, .int .i64 e] := by
  unfold arcR
  split
  · exact ⟨_, _, _, rfl⟩
  · exact ⟨_, _, _, rfl⟩
set_option maxRecDepth 100000 in
set_option maxHeartbeats 3200000 in
theorem rodd_walk (A : Option Addr) (n c : Nat) (R : Nat → Bx) (m lo hi x : Int) (w : World) (hn : n ≤ c ∧ c ≤ maxLen) (hR : ∀ j, j < n → BxOk w (R j)) (hA : Bxl w A n R) :
    Calls Try.prog 6 #[.slice A n c, .int .i64 m, .agg #[.int .i64 lo, .int .i64 hi], .int .i64 x] w fun e' w' => e' = .returned (.bool true) ∧ Bl w w' := by
  have HA := Lib.hid hA
  have HR := Lib.hid hR
  have HN := Lib.hid hn
  clear hA hR hn
  cases hf : ftF R n with
  | false =>
    have HF := Lib.hid hf
    clear hf
    go_enter Try.func6, Try.ntmps6
    go_wp2_with fail
    refine (fit_any A n c R _ (HA.out.below (by go_grown)) (fun j hj => (HR.out j hj).below (by go_grown)) (Nat.le_trans HN.out.1 HN.out.2)).mono ?_
    rintro q1 w1 ⟨rfl, hb⟩
    rw [HF.out]
    have B1 := Lib.hid (Below.trans (show Bl w _ from by go_grown) (hb.mono (by (try simp only [World.size_alloc]); omega)))
    clear hb
    go_wp2_with fail
    refine (awakeR_any _).mono ?_
    rintro q2 w2 ⟨rfl, hb⟩
    go_wp2_with fail
    go_ret
    exact ⟨rfl, Bl.tr B1.out hb⟩
  | true =>
    have HF := Lib.hid hf
    clear hf
    obtain ⟨o1, o2, ho⟩ : ∃ a b, oddR R n = (a, b) := ⟨_, _, rfl⟩
    have HO := Lib.hid ho
    obtain ⟨a1, a2, a3, har⟩ := arcR_form m
    have HAR := Lib.hid har
    obtain ⟨d1, d2, hd⟩ : ∃ a b, dyR lo hi x = (a, b) := ⟨_, _, rfl⟩
    have HD := Lib.hid hd
    clear ho har hd
    have e1 : (o1 == o1) = true := by simp
    have e2 : (o2 == o2) = true := by simp
    have e3 : (a1 == a1) = true := by simp
    have e4 : (a2 == a2) = true := by simp
    have e5 : (a3 == a3) = true := by simp
    have e6 : (d1 == d1) = true := by simp
    have e7 : (d2 == d2) = true := by simp
    go_enter Try.func6, Try.ntmps6
    go_wp2_with fail
    refine (fit_any A n c R _ (HA.out.below (by go_grown)) (fun j hj => (HR.out j hj).below (by go_grown)) (Nat.le_trans HN.out.1 HN.out.2)).mono ?_
    rintro q1 w1 ⟨rfl, hb⟩
    have x0 := kcb hb (b := w.heap.size) (o := 0) (v := .int .i64 lo) (by first | assumption | (refine cellUp ?_; assumption) | go_cell)
    have x1 := kcb hb (b := w.heap.size) (o := 1) (v := .int .i64 hi) (by first | assumption | (refine cellUp ?_; assumption) | go_cell)
    have B1 : Bl w w1 := Below.trans (by go_grown) (hb.mono (by (try simp only [World.size_alloc]); omega))
    have l1 := ltb x0
    have zz1 := B1.size
    clear hb
    rw [HF.out]
    go_wp2_with fail
    refine (odd_any A n c R _ (HA.out.below (B1)) (fun j hj => (HR.out j hj).below (B1)) HN.out.1 HN.out.2).mono ?_
    rintro q2 w2 ⟨rfl, hb⟩
    have x0 := kcb hb (b := w.heap.size) (o := 0) (v := .int .i64 lo) (by first | assumption | (refine cellUp ?_; assumption) | go_cell)
    have x1 := kcb hb (b := w.heap.size) (o := 1) (v := .int .i64 hi) (by first | assumption | (refine cellUp ?_; assumption) | go_cell)
    have B2 : Bl w w2 := Below.trans (by first | exact B1 | exact B1.tr (by go_grown)) (hb.mono (by (try simp only [World.size_alloc]); omega))
    have l2 := ltb x0
    have zz2 := B2.size
    clear hb
    rw [HO.out]
    go_wp2_with fail
    refine (rodd_any A n c R _ (HA.out.below (B2)) (fun j hj => (HR.out j hj).below (B2)) HN.out.1 HN.out.2).mono ?_
    rintro q3 w3 ⟨rfl, hb⟩
    have x0 := kcb hb (b := w.heap.size) (o := 0) (v := .int .i64 lo) (by first | assumption | (refine cellUp ?_; assumption) | go_cell)
    have x1 := kcb hb (b := w.heap.size) (o := 1) (v := .int .i64 hi) (by first | assumption | (refine cellUp ?_; assumption) | go_cell)
    have B3 : Bl w w3 := Below.trans (by first | exact B2 | exact B2.tr (by go_grown)) (hb.mono (by (try simp only [World.size_alloc]); omega))
    have l3 := ltb x0
    have zz3 := B3.size
    clear hb
    rw [HO.out]
    go_wp2_with fail
    refine (arcs_any m _).mono ?_
    rintro q4 w4 ⟨rfl, rfl⟩
    rw [HAR.out]
    go_wp2_with fail
    refine (rarcs_any m _).mono ?_
    rintro q5 w5 ⟨rfl, rfl⟩
    rw [HAR.out]
    go_wp2_with fail
    refine (daysR_any lo hi x _).mono ?_
    rintro q4 w4 ⟨rfl, hb⟩
    have x0 := kcb hb (b := w.heap.size) (o := 0) (v := .int .i64 lo) (by first | assumption | (refine cellUp ?_; assumption) | go_cell)
    have x1 := kcb hb (b := w.heap.size) (o := 1) (v := .int .i64 hi) (by first | assumption | (refine cellUp ?_; assumption) | go_cell)
    have B4 : Bl w w4 := Below.trans (by first | exact B3 | exact B3.tr (by go_grown)) (hb.mono (by (try simp only [World.size_alloc]); omega))
    have l4 := ltb x0
    have zz4 := B4.size
    clear hb
    rw [HD.out]
    go_wp2_with fail
    refine (rdaysR_any lo hi x _).mono ?_
    rintro q5 w5 ⟨rfl, hb⟩
    have x0 := kcb hb (b := w.heap.size) (o := 0) (v := .int .i64 lo) (by first | assumption | (refine cellUp ?_; assumption) | go_cell)
    have x1 := kcb hb (b := w.heap.size) (o := 1) (v := .int .i64 hi) (by first | assumption | (refine cellUp ?_; assumption) | go_cell)
    have B5 : Bl w w5 := Below.trans (by first | exact B4 | exact B4.tr (by go_grown)) (hb.mono (by (try simp only [World.size_alloc]); omega))
    have l5 := ltb x0
    have zz5 := B5.size
    clear hb
    rw [HD.out]
    go_wp2_with fail
    refine (awakeR_any _).mono ?_
    rintro q9 w9 ⟨rfl, hb⟩
    go_wp2_with fail
    go_ret
    exact ⟨rfl, Bl.tr B5 hb⟩
end Go.Proofs.Ytbhdoafcjfcgfaa
