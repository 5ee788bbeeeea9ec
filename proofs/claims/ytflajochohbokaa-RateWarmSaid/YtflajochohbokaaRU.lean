/-
  The walk of RateWarm.
-/
import Derived.Test.YtflajochohbokaaRT
namespace Go.Proofs.Ytflajochohbokaa
open Go.RowKit
set_option linter.unusedSimpArgs false
set_option linter.unusedVariables false

set_option maxRecDepth 100000 in
set_option maxHeartbeats 6400000 in
theorem warm_walk (t1 r1 t2 r2 t : Int) (w : World) :
    Calls Try.prog 10 #[.int .i64 t1, .int .i64 r1, .int .i64 t2, .int .i64 r2, .int .i64 t] w fun e w' => e = .returned (.bool true) ∧ Bl w w' := by
  by_cases h : wmOk t1 r1 t2 r2 t1 = true
  · obtain ⟨g1, g2⟩ := wm_first h
    obtain ⟨q, hq⟩ : ∃ q, warmF t1 r1 t2 r2 t = q := ⟨_, rfl⟩
    obtain ⟨x1, x2, x3⟩ := q
    have HA := Lib.hid (show rR (warmF t1 r1 t2 r2 t) = .tuple #[.agg #[.int .i64 x1, .int .i64 x2], .int .i64 x3] by rw [hq]; rfl)
    have HB := Lib.hid (show rR (warmF t1 r1 t2 r2 t1) = .tuple #[.agg #[.int .i64 r1, .int .i64 1], .int .i64 0] by rw [g1]; rfl)
    have HC := Lib.hid (show rR (warmF t1 r1 t2 r2 t2) = .tuple #[.agg #[.int .i64 r2, .int .i64 1], .int .i64 0] by rw [g2]; rfl)
    clear h g1 g2 hq
    go_enter Try.func10, Try.ntmps10
    go_wp2_with fail
    refine (warm_any t1 r1 t2 r2 t _).mono ?_
    rintro q1 w1 ⟨rfl, hb⟩
    have B1 : Bl w w1 := Below.trans (by go_grown) (hb.mono (by (try simp only [World.size_alloc, World.size_setCell, World.size_drew]); omega))
    have zz1 := B1.size
    clear hb
    rw [HA.out]
    go_wp2_with fail
    refine (rwarm_any t1 r1 t2 r2 t _).mono ?_
    rintro q2 w2 ⟨rfl, hb⟩
    have a0 := kcb hb (b := w1.heap.size) (o := 0) (v := .int .i64 x1) (by first | assumption | (refine cellUp ?_; assumption) | go_cell)
    have a1 := kcb hb (b := w1.heap.size) (o := 1) (v := .int .i64 x2) (by first | assumption | (refine cellUp ?_; assumption) | go_cell)
    have B2 : Bl w w2 := Below.trans (by go_grown) (hb.mono (by (try simp only [World.size_alloc, World.size_setCell, World.size_drew]); omega))
    have l2 := ltb a1
    have zz2 := B2.size
    clear hb
    rw [HA.out]
    go_wp2_with fail
    refine (warm_any t1 r1 t2 r2 t1 _).mono ?_
    rintro q3 w3 ⟨rfl, hb⟩
    have a0 := kcb hb (b := w1.heap.size) (o := 0) (v := .int .i64 x1) (by first | assumption | (refine cellUp ?_; assumption) | go_cell)
    have a1 := kcb hb (b := w1.heap.size) (o := 1) (v := .int .i64 x2) (by first | assumption | (refine cellUp ?_; assumption) | go_cell)
    have b0 := kcb hb (b := w2.heap.size) (o := 0) (v := .int .i64 x1) (by first | assumption | (refine cellUp ?_; assumption) | go_cell)
    have b1 := kcb hb (b := w2.heap.size) (o := 1) (v := .int .i64 x2) (by first | assumption | (refine cellUp ?_; assumption) | go_cell)
    have B3 : Bl w w3 := Below.trans (by go_grown) (hb.mono (by (try simp only [World.size_alloc, World.size_setCell, World.size_drew]); omega))
    have l3 := ltb b1
    have l3_1 := ltb a1
    have zz3 := B3.size
    clear hb
    rw [HB.out]
    go_wp2_with fail
    refine (warm_any t1 r1 t2 r2 t2 _).mono ?_
    rintro q4 w4 ⟨rfl, hb⟩
    have a0 := kcb hb (b := w1.heap.size) (o := 0) (v := .int .i64 x1) (by first | assumption | (refine cellUp ?_; assumption) | go_cell)
    have a1 := kcb hb (b := w1.heap.size) (o := 1) (v := .int .i64 x2) (by first | assumption | (refine cellUp ?_; assumption) | go_cell)
    have b0 := kcb hb (b := w2.heap.size) (o := 0) (v := .int .i64 x1) (by first | assumption | (refine cellUp ?_; assumption) | go_cell)
    have b1 := kcb hb (b := w2.heap.size) (o := 1) (v := .int .i64 x2) (by first | assumption | (refine cellUp ?_; assumption) | go_cell)
    have c0 := kcb hb (b := w3.heap.size) (o := 0) (v := .int .i64 r1) (by first | assumption | (refine cellUp ?_; assumption) | go_cell)
    have c1 := kcb hb (b := w3.heap.size) (o := 1) (v := .int .i64 1) (by first | assumption | (refine cellUp ?_; assumption) | go_cell)
    have B4 : Bl w w4 := Below.trans (by go_grown) (hb.mono (by (try simp only [World.size_alloc, World.size_setCell, World.size_drew]); omega))
    have l4 := ltb c1
    have l4_1 := ltb b1
    have l4_2 := ltb a1
    have zz4 := B4.size
    clear hb
    rw [HC.out]
    go_wp2_with fail
    refine (awakeR_any _).mono ?_
    rintro e w5 ⟨rfl, hb⟩
    go_wp2_with fail
    go_ret
    exact ⟨rfl, Below.trans B4 (Below.trans (by go_grown) (hb.mono (by (try simp only [World.size_alloc, World.size_setCell, World.size_drew]); omega)))⟩
  · have h : wmOk t1 r1 t2 r2 t1 = false := by simpa using h
    obtain ⟨g1, g2⟩ := wm_pre (t := t) h
    have HA := Lib.hid (show rR (warmF t1 r1 t2 r2 t) = .tuple #[.agg #[.int .i64 0, .int .i64 0], .int .i64 7] by rw [warm_no g1]; rfl)
    have HB := Lib.hid (show rR (warmF t1 r1 t2 r2 t1) = .tuple #[.agg #[.int .i64 0, .int .i64 0], .int .i64 7] by rw [warm_no h]; rfl)
    have HC := Lib.hid (show rR (warmF t1 r1 t2 r2 t2) = .tuple #[.agg #[.int .i64 0, .int .i64 0], .int .i64 7] by rw [warm_no g2]; rfl)
    clear h g1 g2
    go_enter Try.func10, Try.ntmps10
    go_wp2_with fail
    refine (warm_any t1 r1 t2 r2 t _).mono ?_
    rintro q1 w1 ⟨rfl, hb⟩
    have B1 : Bl w w1 := Below.trans (by go_grown) (hb.mono (by (try simp only [World.size_alloc, World.size_setCell, World.size_drew]); omega))
    have zz1 := B1.size
    clear hb
    rw [HA.out]
    go_wp2_with fail
    refine (rwarm_any t1 r1 t2 r2 t _).mono ?_
    rintro q2 w2 ⟨rfl, hb⟩
    have a0 := kcb hb (b := w1.heap.size) (o := 0) (v := .int .i64 0) (by first | assumption | (refine cellUp ?_; assumption) | go_cell)
    have a1 := kcb hb (b := w1.heap.size) (o := 1) (v := .int .i64 0) (by first | assumption | (refine cellUp ?_; assumption) | go_cell)
    have B2 : Bl w w2 := Below.trans (by go_grown) (hb.mono (by (try simp only [World.size_alloc, World.size_setCell, World.size_drew]); omega))
    have l2 := ltb a1
    have zz2 := B2.size
    clear hb
    rw [HA.out]
    go_wp2_with fail
    refine (warm_any t1 r1 t2 r2 t1 _).mono ?_
    rintro q3 w3 ⟨rfl, hb⟩
    have a0 := kcb hb (b := w1.heap.size) (o := 0) (v := .int .i64 0) (by first | assumption | (refine cellUp ?_; assumption) | go_cell)
    have a1 := kcb hb (b := w1.heap.size) (o := 1) (v := .int .i64 0) (by first | assumption | (refine cellUp ?_; assumption) | go_cell)
    have b0 := kcb hb (b := w2.heap.size) (o := 0) (v := .int .i64 0) (by first | assumption | (refine cellUp ?_; assumption) | go_cell)
    have b1 := kcb hb (b := w2.heap.size) (o := 1) (v := .int .i64 0) (by first | assumption | (refine cellUp ?_; assumption) | go_cell)
    have B3 : Bl w w3 := Below.trans (by go_grown) (hb.mono (by (try simp only [World.size_alloc, World.size_setCell, World.size_drew]); omega))
    have l3 := ltb b1
    have l3_1 := ltb a1
    have zz3 := B3.size
    clear hb
    rw [HB.out]
    go_wp2_with fail
    refine (warm_any t1 r1 t2 r2 t2 _).mono ?_
    rintro q4 w4 ⟨rfl, hb⟩
    have a0 := kcb hb (b := w1.heap.size) (o := 0) (v := .int .i64 0) (by first | assumption | (refine cellUp ?_; assumption) | go_cell)
    have a1 := kcb hb (b := w1.heap.size) (o := 1) (v := .int .i64 0) (by first | assumption | (refine cellUp ?_; assumption) | go_cell)
    have b0 := kcb hb (b := w2.heap.size) (o := 0) (v := .int .i64 0) (by first | assumption | (refine cellUp ?_; assumption) | go_cell)
    have b1 := kcb hb (b := w2.heap.size) (o := 1) (v := .int .i64 0) (by first | assumption | (refine cellUp ?_; assumption) | go_cell)
    have c0 := kcb hb (b := w3.heap.size) (o := 0) (v := .int .i64 0) (by first | assumption | (refine cellUp ?_; assumption) | go_cell)
    have c1 := kcb hb (b := w3.heap.size) (o := 1) (v := .int .i64 0) (by first | assumption | (refine cellUp ?_; assumption) | go_cell)
    have B4 : Bl w w4 := Below.trans (by go_grown) (hb.mono (by (try simp only [World.size_alloc, World.size_setCell, World.size_drew]); omega))
    have l4 := ltb c1
    have l4_1 := ltb b1
    have l4_2 := ltb a1
    have zz4 := B4.size
    clear hb
    rw [HC.out]
    go_wp2_with fail
    refine (awakeR_any _).mono ?_
    rintro e w5 ⟨rfl, hb⟩
    go_wp2_with fail
    go_ret
    exact ⟨rfl, Below.trans B4 (Below.trans (by go_grown) (hb.mono (by (try simp only [World.size_alloc, World.size_setCell, World.size_drew]); omega)))⟩
end Go.Proofs.Ytflajochohbokaa
