/-
  Contracts of package gun and of its reference: shots.
-/
import Derived.Test.YthemoomfbbccjaaGG
namespace Go.Proofs.Ythemoomfbbccjaa
open Go.RowKit
set_option linter.unusedSimpArgs false
set_option linter.unusedVariables false

theorem meet_err {a b c d : Int} (h1 : vS a b = true) (h2 : vS c d = true) : ∃ x y z, meetF a b c d = (x, y, z) ∧ (z == 0) = decide (mt a b c d) := by
  unfold meetF
  rw [h1, h2]
  have a1 := vS_iff.1 h1
  have a2 := vS_iff.1 h2
  by_cases h : max a c > min b d
  · refine ⟨0, 0, 8, by simp only [Bool.and_self, if_true]; rw [if_pos h], ?_⟩
    show false = _
    symm
    rw [decide_eq_false_iff_not]
    unfold mt
    omega
  · refine ⟨max a c, min b d, 0, by simp only [Bool.and_self, if_true]; rw [if_neg h], ?_⟩
    show true = _
    symm
    rw [decide_eq_true_eq]
    unfold mt
    omega
set_option maxRecDepth 100000 in
set_option maxHeartbeats 1600000 in
theorem overlap_any (a b c d : Int) (w : World) (h1 : vS a b = true) (h2 : vS c d = true) :
    Calls Try.prog 29 #[.agg #[.int .i64 a, .int .i64 b], .agg #[.int .i64 c, .int .i64 d]] w fun e w' => e = .returned (.bool (decide (mt a b c d))) ∧ Bl w w' := by
  obtain ⟨x, y, z, hm, hz⟩ := meet_err h1 h2
  have HM := Lib.hid hm
  rw [← hz]
  clear hm hz h1 h2
  go_enter Try.func29, Try.ntmps29
  go_wp2_with fail
  refine (meet_any a b c d _).mono ?_
  rintro q1 w1 ⟨rfl, hb⟩
  have xa0 := kcb hb (b := w.heap.size) (o := 0) (v := .int .i64 a) (by first | assumption | (refine cellUp ?_; assumption) | go_cell)
  have xa1 := kcb hb (b := w.heap.size) (o := 1) (v := .int .i64 b) (by first | assumption | (refine cellUp ?_; assumption) | go_cell)
  have xc0 := kcb hb (b := w.heap.size + 1) (o := 0) (v := .int .i64 c) (by first | assumption | (refine cellUp ?_; assumption) | go_cell)
  have xc1 := kcb hb (b := w.heap.size + 1) (o := 1) (v := .int .i64 d) (by first | assumption | (refine cellUp ?_; assumption) | go_cell)
  have B1 : Bl w w1 := Below.trans (by go_grown) (hb.mono (by (try simp only [World.size_alloc, World.size_setCell]); omega))
  have l1 := ltb xc1
  have l1_1 := ltb xa1
  have zz1 := B1.size
  clear hb
  rw [HM.out]
  unfold rS
  go_wp2_with fail
  go_ret
  exact ⟨rfl, by go_grown⟩
set_option maxRecDepth 100000 in
set_option maxHeartbeats 1600000 in
theorem meet5_any (a b c d : Int) (w : World) :
    Calls Try.prog 32 #[.agg #[.int .i64 a, .int .i64 b], .agg #[.int .i64 c, .int .i64 d]] w fun e w' => e = .returned (.bool (decide (mt a b c d))) ∧ Bl w w' := by
  go_enter Try.func32, Try.ntmps32
  go_wp2
  all_goals (go_ret; exact ⟨ret_bool (by rw [Bool.eq_iff_iff, decide_eq_true_eq (p := mt a b c d)]; first | (simp [mt] at *; done) | (simp [mt] at *; omega)), by go_grown⟩)

theorem lagSp {lo hi : Int} (h0 : 0 ≤ lo) (h1 : lo ≤ hi) (h2 : hi ≤ 1000000) : vS lo hi = true := by simp [vS]; omega
set_option maxRecDepth 100000 in
set_option maxHeartbeats 3200000 in
theorem isShot_any (y : Sho) (w : World) :
    Calls Try.prog 38 #[encS y] w fun e w' => e = .returned (.bool (decide (vSh y))) ∧ Bl w w' := by
  by_cases h0 : isP y.p
  rotate_left
  · have Q0 := Lib.hid (show decide (allP (fun _ => y.p) 1) = false from decide_eq_false (fun g => h0 (allP_one.1 g)))
    have HI := Lib.hid (show decide (vSh y) = false from decide_eq_false (fun g => h0 g.1))
    clear h0
    go_enter Try.func38, Try.ntmps38
    go_wp2_with fail
    refine (arePl_any _ 1 1 (fun _ => y.p) _ (pl_one (by go_cell) (by go_cell)) (by unfold maxLen; omega)).mono ?_
    rintro q1 w1 ⟨rfl, hb⟩
    have x0 := kcb hb (b := w.heap.size) (o := 0) (v := .int .i64 y.p.x) (by first | assumption | (refine cellUp ?_; assumption) | go_cell)
    have x1 := kcb hb (b := w.heap.size) (o := 1) (v := .int .i64 y.p.y) (by first | assumption | (refine cellUp ?_; assumption) | go_cell)
    have x2 := kcb hb (b := w.heap.size) (o := 2) (v := .int .i64 y.lo) (by first | assumption | (refine cellUp ?_; assumption) | go_cell)
    have x3 := kcb hb (b := w.heap.size) (o := 3) (v := .int .i64 y.hi) (by first | assumption | (refine cellUp ?_; assumption) | go_cell)
    have B1 : Bl w w1 := Below.trans (by go_grown) (hb.mono (by (try simp only [World.size_alloc, World.size_setCell]); omega))
    have l1 := ltb x3
    have zz1 := B1.size
    clear hb
    rw [Q0.out]
    go_wp2_with fail
    go_ret
    exact ⟨ret_bool (by rw [HI.out]), by go_grown⟩
  have Q0 := Lib.hid (show decide (allP (fun _ => y.p) 1) = true from decide_eq_true (allP_one.2 h0))
  by_cases h1 : vS y.lo y.hi = true
  rotate_left
  · have Q1 := Lib.hid (show vS y.lo y.hi = false from by simpa using h1)
    have HI := Lib.hid (show decide (vSh y) = false from decide_eq_false (fun g => h1 (lagSp g.2.1 g.2.2.1 g.2.2.2)))
    clear h0 h1
    go_enter Try.func38, Try.ntmps38
    go_wp2_with fail
    refine (arePl_any _ 1 1 (fun _ => y.p) _ (pl_one (by go_cell) (by go_cell)) (by unfold maxLen; omega)).mono ?_
    rintro q1 w1 ⟨rfl, hb⟩
    have x0 := kcb hb (b := w.heap.size) (o := 0) (v := .int .i64 y.p.x) (by first | assumption | (refine cellUp ?_; assumption) | go_cell)
    have x1 := kcb hb (b := w.heap.size) (o := 1) (v := .int .i64 y.p.y) (by first | assumption | (refine cellUp ?_; assumption) | go_cell)
    have x2 := kcb hb (b := w.heap.size) (o := 2) (v := .int .i64 y.lo) (by first | assumption | (refine cellUp ?_; assumption) | go_cell)
    have x3 := kcb hb (b := w.heap.size) (o := 3) (v := .int .i64 y.hi) (by first | assumption | (refine cellUp ?_; assumption) | go_cell)
    have B1 : Bl w w1 := Below.trans (by go_grown) (hb.mono (by (try simp only [World.size_alloc, World.size_setCell]); omega))
    have l1 := ltb x3
    have zz1 := B1.size
    clear hb
    rw [Q0.out]
    go_wp2_with fail
    refine (validSpan_any y.lo y.hi _).mono ?_
    rintro q2 w2 ⟨rfl, hb⟩
    have x0 := kcb hb (b := w.heap.size) (o := 0) (v := .int .i64 y.p.x) (by first | assumption | (refine cellUp ?_; assumption) | go_cell)
    have x1 := kcb hb (b := w.heap.size) (o := 1) (v := .int .i64 y.p.y) (by first | assumption | (refine cellUp ?_; assumption) | go_cell)
    have x2 := kcb hb (b := w.heap.size) (o := 2) (v := .int .i64 y.lo) (by first | assumption | (refine cellUp ?_; assumption) | go_cell)
    have x3 := kcb hb (b := w.heap.size) (o := 3) (v := .int .i64 y.hi) (by first | assumption | (refine cellUp ?_; assumption) | go_cell)
    have B2 : Bl w w2 := Below.trans (by go_grown) (hb.mono (by (try simp only [World.size_alloc, World.size_setCell]); omega))
    have l2 := ltb x3
    have zz2 := B2.size
    clear hb
    rw [Q1.out]
    go_wp2_with fail
    go_ret
    exact ⟨ret_bool (by rw [HI.out]), by go_grown⟩
  have Q1 := Lib.hid (show vS y.lo y.hi = true from h1)
  by_cases h2 : 0 ≤ y.lo ∧ y.lo ≤ 1000000
  rotate_left
  · have Q2 := Lib.hid (show decide (0 ≤ y.lo ∧ y.lo ≤ 1000000) = false from decide_eq_false h2)
    have HI := Lib.hid (show decide (vSh y) = false from decide_eq_false (fun g => h2 ⟨g.2.1, by have := g.2.2; omega⟩))
    clear h0 h1 h2
    go_enter Try.func38, Try.ntmps38
    go_wp2_with fail
    refine (arePl_any _ 1 1 (fun _ => y.p) _ (pl_one (by go_cell) (by go_cell)) (by unfold maxLen; omega)).mono ?_
    rintro q1 w1 ⟨rfl, hb⟩
    have x0 := kcb hb (b := w.heap.size) (o := 0) (v := .int .i64 y.p.x) (by first | assumption | (refine cellUp ?_; assumption) | go_cell)
    have x1 := kcb hb (b := w.heap.size) (o := 1) (v := .int .i64 y.p.y) (by first | assumption | (refine cellUp ?_; assumption) | go_cell)
    have x2 := kcb hb (b := w.heap.size) (o := 2) (v := .int .i64 y.lo) (by first | assumption | (refine cellUp ?_; assumption) | go_cell)
    have x3 := kcb hb (b := w.heap.size) (o := 3) (v := .int .i64 y.hi) (by first | assumption | (refine cellUp ?_; assumption) | go_cell)
    have B1 : Bl w w1 := Below.trans (by go_grown) (hb.mono (by (try simp only [World.size_alloc, World.size_setCell]); omega))
    have l1 := ltb x3
    have zz1 := B1.size
    clear hb
    rw [Q0.out]
    go_wp2_with fail
    refine (validSpan_any y.lo y.hi _).mono ?_
    rintro q2 w2 ⟨rfl, hb⟩
    have x0 := kcb hb (b := w.heap.size) (o := 0) (v := .int .i64 y.p.x) (by first | assumption | (refine cellUp ?_; assumption) | go_cell)
    have x1 := kcb hb (b := w.heap.size) (o := 1) (v := .int .i64 y.p.y) (by first | assumption | (refine cellUp ?_; assumption) | go_cell)
    have x2 := kcb hb (b := w.heap.size) (o := 2) (v := .int .i64 y.lo) (by first | assumption | (refine cellUp ?_; assumption) | go_cell)
    have x3 := kcb hb (b := w.heap.size) (o := 3) (v := .int .i64 y.hi) (by first | assumption | (refine cellUp ?_; assumption) | go_cell)
    have B2 : Bl w w2 := Below.trans (by go_grown) (hb.mono (by (try simp only [World.size_alloc, World.size_setCell]); omega))
    have l2 := ltb x3
    have zz2 := B2.size
    clear hb
    rw [Q1.out]
    go_wp2_with fail
    refine (isLag_any _ _).mono ?_
    rintro e9 w9 ⟨rfl, rfl⟩
    rw [Q2.out]
    go_wp2_with fail
    go_ret
    exact ⟨ret_bool (by rw [HI.out]), by go_grown⟩
  have Q2 := Lib.hid (show decide (0 ≤ y.lo ∧ y.lo ≤ 1000000) = true from decide_eq_true h2)
  by_cases h3 : 0 ≤ y.hi ∧ y.hi ≤ 1000000
  rotate_left
  · have Q3 := Lib.hid (show decide (0 ≤ y.hi ∧ y.hi ≤ 1000000) = false from decide_eq_false h3)
    have HI := Lib.hid (show decide (vSh y) = false from decide_eq_false (fun g => h3 ⟨by have := g.2; omega, g.2.2.2⟩))
    clear h0 h1 h2 h3
    go_enter Try.func38, Try.ntmps38
    go_wp2_with fail
    refine (arePl_any _ 1 1 (fun _ => y.p) _ (pl_one (by go_cell) (by go_cell)) (by unfold maxLen; omega)).mono ?_
    rintro q1 w1 ⟨rfl, hb⟩
    have x0 := kcb hb (b := w.heap.size) (o := 0) (v := .int .i64 y.p.x) (by first | assumption | (refine cellUp ?_; assumption) | go_cell)
    have x1 := kcb hb (b := w.heap.size) (o := 1) (v := .int .i64 y.p.y) (by first | assumption | (refine cellUp ?_; assumption) | go_cell)
    have x2 := kcb hb (b := w.heap.size) (o := 2) (v := .int .i64 y.lo) (by first | assumption | (refine cellUp ?_; assumption) | go_cell)
    have x3 := kcb hb (b := w.heap.size) (o := 3) (v := .int .i64 y.hi) (by first | assumption | (refine cellUp ?_; assumption) | go_cell)
    have B1 : Bl w w1 := Below.trans (by go_grown) (hb.mono (by (try simp only [World.size_alloc, World.size_setCell]); omega))
    have l1 := ltb x3
    have zz1 := B1.size
    clear hb
    rw [Q0.out]
    go_wp2_with fail
    refine (validSpan_any y.lo y.hi _).mono ?_
    rintro q2 w2 ⟨rfl, hb⟩
    have x0 := kcb hb (b := w.heap.size) (o := 0) (v := .int .i64 y.p.x) (by first | assumption | (refine cellUp ?_; assumption) | go_cell)
    have x1 := kcb hb (b := w.heap.size) (o := 1) (v := .int .i64 y.p.y) (by first | assumption | (refine cellUp ?_; assumption) | go_cell)
    have x2 := kcb hb (b := w.heap.size) (o := 2) (v := .int .i64 y.lo) (by first | assumption | (refine cellUp ?_; assumption) | go_cell)
    have x3 := kcb hb (b := w.heap.size) (o := 3) (v := .int .i64 y.hi) (by first | assumption | (refine cellUp ?_; assumption) | go_cell)
    have B2 : Bl w w2 := Below.trans (by go_grown) (hb.mono (by (try simp only [World.size_alloc, World.size_setCell]); omega))
    have l2 := ltb x3
    have zz2 := B2.size
    clear hb
    rw [Q1.out]
    go_wp2_with fail
    refine (isLag_any _ _).mono ?_
    rintro e9 w9 ⟨rfl, rfl⟩
    rw [Q2.out]
    go_wp2_with fail
    refine (isLag_any _ _).mono ?_
    rintro e9 w9 ⟨rfl, rfl⟩
    rw [Q3.out]
    go_wp2_with fail
    go_ret
    exact ⟨ret_bool (by rw [HI.out]), by go_grown⟩
  have Q3 := Lib.hid (show decide (0 ≤ y.hi ∧ y.hi ≤ 1000000) = true from decide_eq_true h3)
  have HI := Lib.hid (show decide (vSh y) = true from decide_eq_true ⟨h0, h2.1, (vS_iff.1 h1).2.1, h3.2⟩)
  clear h0 h1 h2 h3
  go_enter Try.func38, Try.ntmps38
  go_wp2_with fail
  refine (arePl_any _ 1 1 (fun _ => y.p) _ (pl_one (by go_cell) (by go_cell)) (by unfold maxLen; omega)).mono ?_
  rintro q1 w1 ⟨rfl, hb⟩
  have x0 := kcb hb (b := w.heap.size) (o := 0) (v := .int .i64 y.p.x) (by first | assumption | (refine cellUp ?_; assumption) | go_cell)
  have x1 := kcb hb (b := w.heap.size) (o := 1) (v := .int .i64 y.p.y) (by first | assumption | (refine cellUp ?_; assumption) | go_cell)
  have x2 := kcb hb (b := w.heap.size) (o := 2) (v := .int .i64 y.lo) (by first | assumption | (refine cellUp ?_; assumption) | go_cell)
  have x3 := kcb hb (b := w.heap.size) (o := 3) (v := .int .i64 y.hi) (by first | assumption | (refine cellUp ?_; assumption) | go_cell)
  have B1 : Bl w w1 := Below.trans (by go_grown) (hb.mono (by (try simp only [World.size_alloc, World.size_setCell]); omega))
  have l1 := ltb x3
  have zz1 := B1.size
  clear hb
  rw [Q0.out]
  go_wp2_with fail
  refine (validSpan_any y.lo y.hi _).mono ?_
  rintro q2 w2 ⟨rfl, hb⟩
  have x0 := kcb hb (b := w.heap.size) (o := 0) (v := .int .i64 y.p.x) (by first | assumption | (refine cellUp ?_; assumption) | go_cell)
  have x1 := kcb hb (b := w.heap.size) (o := 1) (v := .int .i64 y.p.y) (by first | assumption | (refine cellUp ?_; assumption) | go_cell)
  have x2 := kcb hb (b := w.heap.size) (o := 2) (v := .int .i64 y.lo) (by first | assumption | (refine cellUp ?_; assumption) | go_cell)
  have x3 := kcb hb (b := w.heap.size) (o := 3) (v := .int .i64 y.hi) (by first | assumption | (refine cellUp ?_; assumption) | go_cell)
  have B2 : Bl w w2 := Below.trans (by go_grown) (hb.mono (by (try simp only [World.size_alloc, World.size_setCell]); omega))
  have l2 := ltb x3
  have zz2 := B2.size
  clear hb
  rw [Q1.out]
  go_wp2_with fail
  refine (isLag_any _ _).mono ?_
  rintro e9 w9 ⟨rfl, rfl⟩
  rw [Q2.out]
  go_wp2_with fail
  refine (isLag_any _ _).mono ?_
  rintro e9 w9 ⟨rfl, rfl⟩
  rw [Q3.out]
  go_wp2_with fail
  go_ret
  exact ⟨ret_bool (by rw [HI.out]), by go_grown⟩
set_option maxRecDepth 100000 in
set_option maxHeartbeats 3200000 in
theorem validShot_any (y : Sho) (w : World) :
    Calls Try.prog 54 #[encS y] w fun e w' => e = .returned (.bool (decide (vSh y))) ∧ Bl w w' := by
  by_cases h0 : isP y.p
  · have Q0 := Lib.hid (show decide (isP y.p) = true from decide_eq_true h0)
    go_enter Try.func54, Try.ntmps54
    go_wp2_with fail
    refine (place5_any y.p _).mono ?_
    rintro q1 w1 ⟨rfl, hb⟩
    have x0 := kcb hb (b := w.heap.size) (o := 0) (v := .int .i64 y.p.x) (by first | assumption | (refine cellUp ?_; assumption) | go_cell)
    have x1 := kcb hb (b := w.heap.size) (o := 1) (v := .int .i64 y.p.y) (by first | assumption | (refine cellUp ?_; assumption) | go_cell)
    have x2 := kcb hb (b := w.heap.size) (o := 2) (v := .int .i64 y.lo) (by first | assumption | (refine cellUp ?_; assumption) | go_cell)
    have x3 := kcb hb (b := w.heap.size) (o := 3) (v := .int .i64 y.hi) (by first | assumption | (refine cellUp ?_; assumption) | go_cell)
    have B1 : Bl w w1 := Below.trans (by go_grown) (hb.mono (by (try simp only [World.size_alloc, World.size_setCell]); omega))
    have l1 := ltb x3
    have zz1 := B1.size
    clear hb
    rw [Q0.out]
    have HP := Lib.hid h0
    clear h0
    go_wp2
    all_goals (go_ret; exact ⟨ret_bool (by rw [Bool.eq_iff_iff, decide_eq_true_eq (p := vSh y)]; have h0 := HP.out; first | (simp [vSh, h0] at *; done) | (simp [vSh, h0] at *; omega)), by go_grown⟩)
  · have Q0 := Lib.hid (show decide (isP y.p) = false from decide_eq_false h0)
    have HI := Lib.hid (show decide (vSh y) = false from decide_eq_false fun g => h0 g.1)
    clear h0
    go_enter Try.func54, Try.ntmps54
    go_wp2_with fail
    refine (place5_any y.p _).mono ?_
    rintro q1 w1 ⟨rfl, hb⟩
    have x0 := kcb hb (b := w.heap.size) (o := 0) (v := .int .i64 y.p.x) (by first | assumption | (refine cellUp ?_; assumption) | go_cell)
    have x1 := kcb hb (b := w.heap.size) (o := 1) (v := .int .i64 y.p.y) (by first | assumption | (refine cellUp ?_; assumption) | go_cell)
    have x2 := kcb hb (b := w.heap.size) (o := 2) (v := .int .i64 y.lo) (by first | assumption | (refine cellUp ?_; assumption) | go_cell)
    have x3 := kcb hb (b := w.heap.size) (o := 3) (v := .int .i64 y.hi) (by first | assumption | (refine cellUp ?_; assumption) | go_cell)
    have B1 : Bl w w1 := Below.trans (by go_grown) (hb.mono (by (try simp only [World.size_alloc, World.size_setCell]); omega))
    have l1 := ltb x3
    have zz1 := B1.size
    clear hb
    rw [Q0.out]
    go_wp2
    go_ret
    exact ⟨ret_bool (by rw [HI.out]), by go_grown⟩
theorem vsh_no {S : Nat → Sho} {n k : Nat} (hk : k < n) (h : ¬ vSh (S k)) : ¬ VSh S n := fun hv => h (hv.2.2 k hk)

set_option maxRecDepth 100000 in
set_option maxHeartbeats 3200000 in
theorem validShots_any (A : Option Addr) (n c : Nat) (S : Nat → Sho) (w : World) (hA : Shl w A n S) (hn : n ≤ maxLen) :
    Calls Try.prog 18 #[.slice A n c] w fun e w' => e = .returned (.bool (decide (VSh S n))) ∧ Bl w w' := by
  have HA := Lib.hid hA
  clear hA
  unfold maxLen at hn
  by_cases h1 : 1 ≤ n ∧ n ≤ 6
  · obtain ⟨n1, n6⟩ := h1
    go_enter Try.func18, Try.ntmps18
    go_wp2_with fail
    go_loopw [15] (fun i wr => ∃ k : Nat, k ≤ n ∧ i = .int .i64 k ∧ Hid (∀ j, j < k → vSh (S j)) ∧ Bl w wr) (fun i _ => n - (RowKit.intOf i).toNat)
    case atStart => exact ⟨0, Nat.zero_le _, rfl, fun j hj => absurd hj (by omega), Bl.rf _⟩
    case round =>
      obtain ⟨k, hk, rfl, HR, hB⟩ := hrel
      have zB := hB.size
      by_cases hlt : k < n
      · obtain ⟨b, off, rfl, hbb, hc⟩ := (HA.out.below hB) (by omega)
        obtain ⟨c0, c1, c2, c3⟩ := hc k hlt
        clear hc
        obtain ⟨y, hy⟩ : ∃ y, y = S k := ⟨_, rfl⟩
        rw [← hy] at c0 c1 c2 c3
        by_cases q : vSh y
        · have HI := Lib.hid (show ∀ j, j < k + 1 → vSh (S j) from fun j hj => by
            by_cases e : j = k
            · rw [e, ← hy]; exact q
            · exact HR.out j (by omega))
          have Q1 := Lib.hid (show decide (vSh y) = true from decide_eq_true q)
          clear hy q
          go_wp2_with fail
          refine (isShot_any y _).mono ?_
          rintro r w9 ⟨rfl, hb⟩
          have B9 : Bl w w9 := Below.trans (by go_grown) (hb.mono (by (try simp only [World.size_alloc, World.size_setCell]); omega))
          rw [Q1.out]
          go_wp2_with fail
          go_roundw
          case rel => exact ⟨k + 1, by omega, by go_num, HI.out, B9⟩
          case measure => simp [RowKit.intOf]; omega
        · have HI := Lib.hid (show decide (VSh S n) = false from decide_eq_false (vsh_no hlt (by rw [← hy]; exact q)))
          have Q1 := Lib.hid (show decide (vSh y) = false from decide_eq_false q)
          clear hy q
          go_wp2_with fail
          refine (isShot_any y _).mono ?_
          rintro r w9 ⟨rfl, hb⟩
          have B9 : Bl w w9 := Below.trans (by go_grown) (hb.mono (by (try simp only [World.size_alloc, World.size_setCell]); omega))
          rw [Q1.out]
          go_wp2_with fail
          go_ret
          exact ⟨ret_bool (by rw [HI.out]), B9⟩
      · obtain rfl : n = k := by omega
        have HI := Lib.hid (show decide (VSh S n) = true from decide_eq_true ⟨n1, n6, HR.out⟩)
        go_wp2_with fail
        go_ret
        exact ⟨ret_bool (by rw [HI.out]), hB⟩
  · have HI := Lib.hid (show decide (VSh S n) = false from decide_eq_false fun h => h1 ⟨h.1, h.2.1⟩)
    by_cases h2 : n < 1
    · go_enter Try.func18, Try.ntmps18
      go_wp2_with fail
      go_ret
      exact ⟨ret_bool (by rw [HI.out]), Bl.rf _⟩
    · have h3 : 6 < n := by omega
      clear h1
      go_enter Try.func18, Try.ntmps18
      go_wp2_with fail
      go_ret
      exact ⟨ret_bool (by rw [HI.out]), Bl.rf _⟩
set_option maxRecDepth 100000 in
set_option maxHeartbeats 3200000 in
theorem rvalidShots_any (A : Option Addr) (n c : Nat) (S : Nat → Sho) (w : World) (hA : Shl w A n S) (hn : n ≤ maxLen) :
    Calls Try.prog 41 #[.slice A n c] w fun e w' => e = .returned (.bool (decide (VSh S n))) ∧ Bl w w' := by
  have HA := Lib.hid hA
  clear hA
  unfold maxLen at hn
  go_enter Try.func41, Try.ntmps41
  go_wp2_with fail
  go_loopw [7] (fun i wr => ∃ k : Nat, k ≤ n ∧ i = .int .i64 k ∧ Hid (∀ j, j < k → vSh (S j)) ∧ Bl w wr) (fun i _ => n - (RowKit.intOf i).toNat)
  case atStart => exact ⟨0, Nat.zero_le _, rfl, fun j hj => absurd hj (by omega), Bl.rf _⟩
  case round =>
    obtain ⟨k, hk, rfl, HR, hB⟩ := hrel
    have zB := hB.size
    by_cases hlt : k < n
    · obtain ⟨b, off, rfl, hbb, hc⟩ := (HA.out.below hB) (by omega)
      obtain ⟨c0, c1, c2, c3⟩ := hc k hlt
      clear hc
      obtain ⟨y, hy⟩ : ∃ y, y = S k := ⟨_, rfl⟩
      rw [← hy] at c0 c1 c2 c3
      by_cases q : vSh y
      · have HI := Lib.hid (show ∀ j, j < k + 1 → vSh (S j) from fun j hj => by
          by_cases e : j = k
          · rw [e, ← hy]; exact q
          · exact HR.out j (by omega))
        have Q1 := Lib.hid (show decide (vSh y) = true from decide_eq_true q)
        clear hy q
        go_wp2_with fail
        refine (validShot_any y _).mono ?_
        rintro r w9 ⟨rfl, hb⟩
        have B9 : Bl w w9 := Below.trans (by go_grown) (hb.mono (by (try simp only [World.size_alloc, World.size_setCell]); omega))
        rw [Q1.out]
        go_wp2_with fail
        go_roundw
        case rel => exact ⟨k + 1, by omega, by go_num, HI.out, B9⟩
        case measure => simp [RowKit.intOf]; omega
      · have HI := Lib.hid (show decide (VSh S n) = false from decide_eq_false (vsh_no hlt (by rw [← hy]; exact q)))
        have Q1 := Lib.hid (show decide (vSh y) = false from decide_eq_false q)
        clear hy q
        go_wp2_with fail
        refine (validShot_any y _).mono ?_
        rintro r w9 ⟨rfl, hb⟩
        have B9 : Bl w w9 := Below.trans (by go_grown) (hb.mono (by (try simp only [World.size_alloc, World.size_setCell]); omega))
        rw [Q1.out]
        go_wp2_with fail
        go_ret
        exact ⟨ret_bool (by rw [HI.out]), B9⟩
    · obtain rfl : n = k := by omega
      have HI := Lib.hid (show decide (1 ≤ (n : Int) ∧ (n : Int) ≤ 6) = decide (VSh S n) from by
        rw [Bool.eq_iff_iff, decide_eq_true_eq (p := VSh S n)]
        simp only [decide_eq_true_eq]
        exact ⟨fun h => ⟨by omega, by omega, HR.out⟩, fun h => ⟨by have := h.1; omega, by have := h.2.1; omega⟩⟩)
      go_wp2_with fail
      refine (within5_any _ _ _ _).mono ?_
      rintro r w9 ⟨rfl, rfl⟩
      go_wp2_with fail
      go_ret
      exact ⟨ret_bool (by rw [← HI.out]; simp), hB⟩
end Go.Proofs.Ythemoomfbbccjaa
