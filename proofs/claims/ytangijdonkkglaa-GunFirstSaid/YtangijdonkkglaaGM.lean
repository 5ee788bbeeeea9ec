/-
  The contract of Ring; the walk of GunRings.
-/
import Derived.Test.YtangijdonkkglaaGL
namespace Go.Proofs.Ytangijdonkkglaa
open Go.RowKit
set_option linter.unusedSimpArgs false
set_option linter.unusedVariables false

set_option maxRecDepth 100000 in
set_option maxHeartbeats 3200000 in
theorem Ring_any (a : Air) (p : Pt) (lag : Int) (w : World) :
    Calls Try.prog 41 #[encA a, encP p, .int .i64 lag] w fun e w' => (∃ r, e = .returned (r3 r) ∧ RingOk a p lag r) ∧ Bl w w' := by
  by_cases ha : VA a
  · have Q0 := Lib.hid (show decide (VA a) = true from decide_eq_true ha)
    have HAA := Lib.hid ha
    by_cases hp : isP p
    · have Q1 := Lib.hid (show decide (allP (fun _ => p) 1) = true from decide_eq_true (allP_one.2 hp))
      by_cases hl : 0 ≤ lag ∧ lag ≤ 1000000
      · have Q2 := Lib.hid (show decide (0 ≤ lag ∧ lag ≤ 1000000) = true from decide_eq_true hl)
        have HI := Lib.hid (show isP p ∧ 0 ≤ lag ∧ lag ≤ 1000000 from ⟨hp, hl⟩)
        clear ha hp hl
        go_enter Try.func41, Try.ntmps41
        go_wp2_with fail
        refine (validAir_any a _).mono ?_
        rintro q1 w1 ⟨rfl, hb⟩
        have xa0 := kcb hb (b := w.heap.size) (o := 0) (v := .int .i64 a.s) (by first | assumption | (refine cellUp ?_; assumption) | go_cell)
        have xa1 := kcb hb (b := w.heap.size) (o := 1) (v := .int .i64 a.w) (by first | assumption | (refine cellUp ?_; assumption) | go_cell)
        have xp0 := kcb hb (b := w.heap.size + 1) (o := 0) (v := .int .i64 p.x) (by first | assumption | (refine cellUp ?_; assumption) | go_cell)
        have xp1 := kcb hb (b := w.heap.size + 1) (o := 1) (v := .int .i64 p.y) (by first | assumption | (refine cellUp ?_; assumption) | go_cell)
        have xg := kcb hb (b := w.heap.size + 1 + 1) (o := 0) (v := .int .i64 lag) (by first | assumption | (refine cellUp ?_; assumption) | go_cell)
        have B1 : Bl w w1 := Below.trans (by go_grown) (hb.mono (by (try simp only [World.size_alloc, World.size_setCell]); omega))
        have l1 := ltb xg
        have l1_1 := ltb xp1
        have l1_2 := ltb xa1
        have zz1 := B1.size
        clear hb
        rw [Q0.out]
        go_wp2_with fail
        refine (arePl_any _ 1 1 (fun _ => p) _ (pl_one (by go_cell) (by go_cell)) (by unfold maxLen; omega)).mono ?_
        rintro q2 w2 ⟨rfl, hb⟩
        have xa0 := kcb hb (b := w.heap.size) (o := 0) (v := .int .i64 a.s) (by first | assumption | (refine cellUp ?_; assumption) | go_cell)
        have xa1 := kcb hb (b := w.heap.size) (o := 1) (v := .int .i64 a.w) (by first | assumption | (refine cellUp ?_; assumption) | go_cell)
        have xp0 := kcb hb (b := w.heap.size + 1) (o := 0) (v := .int .i64 p.x) (by first | assumption | (refine cellUp ?_; assumption) | go_cell)
        have xp1 := kcb hb (b := w.heap.size + 1) (o := 1) (v := .int .i64 p.y) (by first | assumption | (refine cellUp ?_; assumption) | go_cell)
        have xg := kcb hb (b := w.heap.size + 1 + 1) (o := 0) (v := .int .i64 lag) (by first | assumption | (refine cellUp ?_; assumption) | go_cell)
        have B2 : Bl w w2 := Below.trans (by go_grown) (hb.mono (by (try simp only [World.size_alloc, World.size_setCell]); omega))
        have l2 := ltb xg
        have l2_1 := ltb xp1
        have l2_2 := ltb xa1
        have zz2 := B2.size
        clear hb
        rw [Q1.out]
        go_wp2_with fail
        refine (isLag_any _ _).mono ?_
        rintro e9 w9 ⟨rfl, rfl⟩
        rw [Q2.out]
        go_wp2_with fail
        refine (until1_any a lag (w.heap.size + 1 + 1) _ HAA.out xg).mono ?_
        rintro q3 w3 ⟨⟨x, rfl, hx⟩, hb⟩
        have xa0 := kcb hb (b := w.heap.size) (o := 0) (v := .int .i64 a.s) (by first | assumption | (refine cellUp ?_; assumption) | go_cell)
        have xa1 := kcb hb (b := w.heap.size) (o := 1) (v := .int .i64 a.w) (by first | assumption | (refine cellUp ?_; assumption) | go_cell)
        have xp0 := kcb hb (b := w.heap.size + 1) (o := 0) (v := .int .i64 p.x) (by first | assumption | (refine cellUp ?_; assumption) | go_cell)
        have xp1 := kcb hb (b := w.heap.size + 1) (o := 1) (v := .int .i64 p.y) (by first | assumption | (refine cellUp ?_; assumption) | go_cell)
        have xg := kcb hb (b := w.heap.size + 1 + 1) (o := 0) (v := .int .i64 lag) (by first | assumption | (refine cellUp ?_; assumption) | go_cell)
        have B3 : Bl w w3 := Below.trans (by go_grown) (hb.mono (by (try simp only [World.size_alloc, World.size_setCell]); omega))
        have l3 := ltb xg
        have l3_1 := ltb xp1
        have l3_2 := ltb xa1
        have zz3 := B3.size
        clear hb
        have HX := Lib.hid hx
        have xx : 0 ≤ x ∧ x ≤ 200001 := ⟨hx.1, hx.2.1⟩
        obtain ⟨xx1, xx2⟩ := xx
        clear hx
        go_wp2_with fail
        refine (until2_any a lag (w.heap.size + 1 + 1) _ HAA.out xg).mono ?_
        rintro q4 w4 ⟨⟨y, rfl, hy⟩, hb⟩
        have xa0 := kcb hb (b := w.heap.size) (o := 0) (v := .int .i64 a.s) (by first | assumption | (refine cellUp ?_; assumption) | go_cell)
        have xa1 := kcb hb (b := w.heap.size) (o := 1) (v := .int .i64 a.w) (by first | assumption | (refine cellUp ?_; assumption) | go_cell)
        have xp0 := kcb hb (b := w.heap.size + 1) (o := 0) (v := .int .i64 p.x) (by first | assumption | (refine cellUp ?_; assumption) | go_cell)
        have xp1 := kcb hb (b := w.heap.size + 1) (o := 1) (v := .int .i64 p.y) (by first | assumption | (refine cellUp ?_; assumption) | go_cell)
        have xg := kcb hb (b := w.heap.size + 1 + 1) (o := 0) (v := .int .i64 lag) (by first | assumption | (refine cellUp ?_; assumption) | go_cell)
        have B4 : Bl w w4 := Below.trans (by go_grown) (hb.mono (by (try simp only [World.size_alloc, World.size_setCell]); omega))
        have l4 := ltb xg
        have l4_1 := ltb xp1
        have l4_2 := ltb xa1
        have zz4 := B4.size
        clear hb
        have HY := Lib.hid hy
        have yy : 0 ≤ y ∧ y ≤ 200001 := ⟨hy.1, hy.2.1⟩
        obtain ⟨yy1, yy2⟩ := yy
        clear hy
        by_cases q : y - 1 < x
        · have HQ := Lib.hid q
          go_wp2_with fail
          exact bodyPost_ret (v := r3 (0, 0, 8)) (by simp [results, Try.results41, go_sem, r3]) rfl ⟨⟨_, rfl, .inr (.inr ⟨HAA.out, HI.out, ring_none HX.out HY.out HQ.out⟩)⟩, by go_grown⟩
        · have HQ := Lib.hid q
          go_wp2_with fail
          exact bodyPost_ret (v := r3 (x, y - 1, 0)) (by simp [results, Try.results41, go_sem, r3]) rfl ⟨⟨_, rfl, .inr (.inr ⟨HAA.out, HI.out, ring_some HX.out HY.out (by have := HQ.out; omega)⟩)⟩, by go_grown⟩
      · have Q2 := Lib.hid (show decide (0 ≤ lag ∧ lag ≤ 1000000) = false from decide_eq_false hl)
        have HI := Lib.hid (show ¬ (isP p ∧ 0 ≤ lag ∧ lag ≤ 1000000) from fun g => hl g.2)
        clear ha hp hl
        go_enter Try.func41, Try.ntmps41
        go_wp2_with fail
        refine (validAir_any a _).mono ?_
        rintro q1 w1 ⟨rfl, hb⟩
        have xa0 := kcb hb (b := w.heap.size) (o := 0) (v := .int .i64 a.s) (by first | assumption | (refine cellUp ?_; assumption) | go_cell)
        have xa1 := kcb hb (b := w.heap.size) (o := 1) (v := .int .i64 a.w) (by first | assumption | (refine cellUp ?_; assumption) | go_cell)
        have xp0 := kcb hb (b := w.heap.size + 1) (o := 0) (v := .int .i64 p.x) (by first | assumption | (refine cellUp ?_; assumption) | go_cell)
        have xp1 := kcb hb (b := w.heap.size + 1) (o := 1) (v := .int .i64 p.y) (by first | assumption | (refine cellUp ?_; assumption) | go_cell)
        have xg := kcb hb (b := w.heap.size + 1 + 1) (o := 0) (v := .int .i64 lag) (by first | assumption | (refine cellUp ?_; assumption) | go_cell)
        have B1 : Bl w w1 := Below.trans (by go_grown) (hb.mono (by (try simp only [World.size_alloc, World.size_setCell]); omega))
        have l1 := ltb xg
        have l1_1 := ltb xp1
        have l1_2 := ltb xa1
        have zz1 := B1.size
        clear hb
        rw [Q0.out]
        go_wp2_with fail
        refine (arePl_any _ 1 1 (fun _ => p) _ (pl_one (by go_cell) (by go_cell)) (by unfold maxLen; omega)).mono ?_
        rintro q2 w2 ⟨rfl, hb⟩
        have xa0 := kcb hb (b := w.heap.size) (o := 0) (v := .int .i64 a.s) (by first | assumption | (refine cellUp ?_; assumption) | go_cell)
        have xa1 := kcb hb (b := w.heap.size) (o := 1) (v := .int .i64 a.w) (by first | assumption | (refine cellUp ?_; assumption) | go_cell)
        have xp0 := kcb hb (b := w.heap.size + 1) (o := 0) (v := .int .i64 p.x) (by first | assumption | (refine cellUp ?_; assumption) | go_cell)
        have xp1 := kcb hb (b := w.heap.size + 1) (o := 1) (v := .int .i64 p.y) (by first | assumption | (refine cellUp ?_; assumption) | go_cell)
        have xg := kcb hb (b := w.heap.size + 1 + 1) (o := 0) (v := .int .i64 lag) (by first | assumption | (refine cellUp ?_; assumption) | go_cell)
        have B2 : Bl w w2 := Below.trans (by go_grown) (hb.mono (by (try simp only [World.size_alloc, World.size_setCell]); omega))
        have l2 := ltb xg
        have l2_1 := ltb xp1
        have l2_2 := ltb xa1
        have zz2 := B2.size
        clear hb
        rw [Q1.out]
        go_wp2_with fail
        refine (isLag_any _ _).mono ?_
        rintro e9 w9 ⟨rfl, rfl⟩
        rw [Q2.out]
        go_wp2_with fail
        exact bodyPost_ret (v := r3 (0, 0, 7)) (by simp [results, Try.results41, go_sem, r3]) rfl ⟨⟨_, rfl, .inr (.inl ⟨HAA.out, HI.out, rfl⟩)⟩, by go_grown⟩
    · have Q1 := Lib.hid (show decide (allP (fun _ => p) 1) = false from decide_eq_false (fun g => hp (allP_one.1 g)))
      have HI := Lib.hid (show ¬ (isP p ∧ 0 ≤ lag ∧ lag ≤ 1000000) from fun g => hp g.1)
      clear ha hp
      go_enter Try.func41, Try.ntmps41
      go_wp2_with fail
      refine (validAir_any a _).mono ?_
      rintro q1 w1 ⟨rfl, hb⟩
      have xa0 := kcb hb (b := w.heap.size) (o := 0) (v := .int .i64 a.s) (by first | assumption | (refine cellUp ?_; assumption) | go_cell)
      have xa1 := kcb hb (b := w.heap.size) (o := 1) (v := .int .i64 a.w) (by first | assumption | (refine cellUp ?_; assumption) | go_cell)
      have xp0 := kcb hb (b := w.heap.size + 1) (o := 0) (v := .int .i64 p.x) (by first | assumption | (refine cellUp ?_; assumption) | go_cell)
      have xp1 := kcb hb (b := w.heap.size + 1) (o := 1) (v := .int .i64 p.y) (by first | assumption | (refine cellUp ?_; assumption) | go_cell)
      have xg := kcb hb (b := w.heap.size + 1 + 1) (o := 0) (v := .int .i64 lag) (by first | assumption | (refine cellUp ?_; assumption) | go_cell)
      have B1 : Bl w w1 := Below.trans (by go_grown) (hb.mono (by (try simp only [World.size_alloc, World.size_setCell]); omega))
      have l1 := ltb xg
      have l1_1 := ltb xp1
      have l1_2 := ltb xa1
      have zz1 := B1.size
      clear hb
      rw [Q0.out]
      go_wp2_with fail
      refine (arePl_any _ 1 1 (fun _ => p) _ (pl_one (by go_cell) (by go_cell)) (by unfold maxLen; omega)).mono ?_
      rintro q2 w2 ⟨rfl, hb⟩
      have xa0 := kcb hb (b := w.heap.size) (o := 0) (v := .int .i64 a.s) (by first | assumption | (refine cellUp ?_; assumption) | go_cell)
      have xa1 := kcb hb (b := w.heap.size) (o := 1) (v := .int .i64 a.w) (by first | assumption | (refine cellUp ?_; assumption) | go_cell)
      have xp0 := kcb hb (b := w.heap.size + 1) (o := 0) (v := .int .i64 p.x) (by first | assumption | (refine cellUp ?_; assumption) | go_cell)
      have xp1 := kcb hb (b := w.heap.size + 1) (o := 1) (v := .int .i64 p.y) (by first | assumption | (refine cellUp ?_; assumption) | go_cell)
      have xg := kcb hb (b := w.heap.size + 1 + 1) (o := 0) (v := .int .i64 lag) (by first | assumption | (refine cellUp ?_; assumption) | go_cell)
      have B2 : Bl w w2 := Below.trans (by go_grown) (hb.mono (by (try simp only [World.size_alloc, World.size_setCell]); omega))
      have l2 := ltb xg
      have l2_1 := ltb xp1
      have l2_2 := ltb xa1
      have zz2 := B2.size
      clear hb
      rw [Q1.out]
      go_wp2_with fail
      exact bodyPost_ret (v := r3 (0, 0, 7)) (by simp [results, Try.results41, go_sem, r3]) rfl ⟨⟨_, rfl, .inr (.inl ⟨HAA.out, HI.out, rfl⟩)⟩, by go_grown⟩
  · have Q0 := Lib.hid (show decide (VA a) = false from decide_eq_false ha)
    have HI := Lib.hid ha
    clear ha
    go_enter Try.func41, Try.ntmps41
    go_wp2_with fail
    refine (validAir_any a _).mono ?_
    rintro q1 w1 ⟨rfl, hb⟩
    have xa0 := kcb hb (b := w.heap.size) (o := 0) (v := .int .i64 a.s) (by first | assumption | (refine cellUp ?_; assumption) | go_cell)
    have xa1 := kcb hb (b := w.heap.size) (o := 1) (v := .int .i64 a.w) (by first | assumption | (refine cellUp ?_; assumption) | go_cell)
    have xp0 := kcb hb (b := w.heap.size + 1) (o := 0) (v := .int .i64 p.x) (by first | assumption | (refine cellUp ?_; assumption) | go_cell)
    have xp1 := kcb hb (b := w.heap.size + 1) (o := 1) (v := .int .i64 p.y) (by first | assumption | (refine cellUp ?_; assumption) | go_cell)
    have xg := kcb hb (b := w.heap.size + 1 + 1) (o := 0) (v := .int .i64 lag) (by first | assumption | (refine cellUp ?_; assumption) | go_cell)
    have B1 : Bl w w1 := Below.trans (by go_grown) (hb.mono (by (try simp only [World.size_alloc, World.size_setCell]); omega))
    have l1 := ltb xg
    have l1_1 := ltb xp1
    have l1_2 := ltb xa1
    have zz1 := B1.size
    clear hb
    rw [Q0.out]
    go_wp2_with fail
    exact bodyPost_ret (v := r3 (0, 0, 1)) (by simp [results, Try.results41, go_sem, r3]) rfl ⟨⟨_, rfl, .inl ⟨HI.out, rfl⟩⟩, by go_grown⟩

theorem rt_sqr {x : Int} (h : 0 ≤ x) : rt (x * x) = x ∧ rtU (x * x) = x := by
  have e : rt (x * x) = x := rt_uniq h (Int.le_refl _) (by have : (x + 1) * (x + 1) = x * x + 2 * x + 1 := by grind
                                                           omega)
  exact ⟨e, by unfold rtU; rw [e, if_pos rfl]⟩
theorem lag_flat {a : Air} (ha : VA a) {d : Int} (h0 : 0 ≤ d) (h1 : d ≤ 50000) : lagR a ⟨0, 0⟩ ⟨d, 0⟩ = ((ringL a d).1, (ringL a d).2, 0) := by
  have e : sqd ⟨0, 0⟩ ⟨d, 0⟩ * 1000000 = (d * 1000) * (d * 1000) := by unfold sqd; grind
  obtain ⟨e1, e2⟩ := rt_sqr (x := d * 1000) (by omega)
  unfold lagR
  rw [if_pos ha, if_pos (by unfold isP isC; dsimp only; omega)]
  unfold lagP
  rw [e, e1, e2]
  rfl

set_option maxRecDepth 100000 in
set_option maxHeartbeats 6400000 in
theorem rings_walk (a : Air) (lag d : Int) (w : World) : Calls Try.prog 12 #[encA a, .int .i64 lag, .int .i64 d] w fun e w' => e = .returned (.bool true) ∧ Bl w w' := by
  obtain ⟨vv, hvv⟩ : ∃ vv, decide (VA a) = vv := ⟨_, rfl⟩
  have HV := Lib.hid hvv
  clear hvv
  go_enter Try.func12, Try.ntmps12
  go_wp2_with fail
  refine (Ring_any a ⟨0, 0⟩ lag _).mono ?_
  rintro q1 w1 ⟨⟨⟨r1, r2, r3'⟩, rfl, hr⟩, hb⟩
  have xa0 := kcb hb (b := w.heap.size) (o := 0) (v := .int .i64 a.s) (by first | assumption | (refine cellUp ?_; assumption) | go_cell)
  have xa1 := kcb hb (b := w.heap.size) (o := 1) (v := .int .i64 a.w) (by first | assumption | (refine cellUp ?_; assumption) | go_cell)
  have B1 : Bl w w1 := Below.trans (by go_grown) (hb.mono (by (try simp only [World.size_alloc, World.size_setCell]); omega))
  have l1 := ltb xa1
  have zz1 := B1.size
  clear hb
  have HR := Lib.hid hr
  clear hr
  unfold r3
  go_wp2_with fail
  refine (rvalidAir_any a _).mono ?_
  rintro q2 w2 ⟨rfl, hb⟩
  have xa0 := kcb hb (b := w.heap.size) (o := 0) (v := .int .i64 a.s) (by first | assumption | (refine cellUp ?_; assumption) | go_cell)
  have xa1 := kcb hb (b := w.heap.size) (o := 1) (v := .int .i64 a.w) (by first | assumption | (refine cellUp ?_; assumption) | go_cell)
  have B2 : Bl w w2 := Below.trans (by go_grown) (hb.mono (by (try simp only [World.size_alloc, World.size_setCell]); omega))
  have l2 := ltb xa1
  have zz2 := B2.size
  clear hb
  rw [HV.out]
  by_cases g1 : VA a
  rotate_left
  · obtain rfl : vv = false := by rw [← HV.out]; exact decide_eq_false g1
    clear g1
    go_wp2_with fail
    refine (awakeG_any _).mono ?_
    rintro q3 w3 ⟨rfl, hb⟩
    have xa0 := kcb hb (b := w.heap.size) (o := 0) (v := .int .i64 a.s) (by first | assumption | (refine cellUp ?_; assumption) | go_cell)
    have xa1 := kcb hb (b := w.heap.size) (o := 1) (v := .int .i64 a.w) (by first | assumption | (refine cellUp ?_; assumption) | go_cell)
    have B3 : Bl w w3 := Below.trans (by go_grown) (hb.mono (by (try simp only [World.size_alloc, World.size_setCell]); omega))
    have l3 := ltb xa1
    have zz3 := B3.size
    clear hb
    go_wp2_with fail
    go_ret
    exact ⟨rfl, by go_grown⟩
  obtain rfl : vv = true := by rw [← HV.out]; exact decide_eq_true g1
  have HAA := Lib.hid g1
  clear g1
  by_cases h0 : 0 ≤ lag
  rotate_left
  · skip
    go_wp2_with fail
    refine (awakeG_any _).mono ?_
    rintro q3 w3 ⟨rfl, hb⟩
    have xa0 := kcb hb (b := w.heap.size) (o := 0) (v := .int .i64 a.s) (by first | assumption | (refine cellUp ?_; assumption) | go_cell)
    have xa1 := kcb hb (b := w.heap.size) (o := 1) (v := .int .i64 a.w) (by first | assumption | (refine cellUp ?_; assumption) | go_cell)
    have B3 : Bl w w3 := Below.trans (by go_grown) (hb.mono (by (try simp only [World.size_alloc, World.size_setCell]); omega))
    have l3 := ltb xa1
    have zz3 := B3.size
    clear hb
    go_wp2_with fail
    go_ret
    exact ⟨rfl, by go_grown⟩
  by_cases h1 : lag ≤ 1000000
  rotate_left
  · skip
    go_wp2_with fail
    refine (awakeG_any _).mono ?_
    rintro q3 w3 ⟨rfl, hb⟩
    have xa0 := kcb hb (b := w.heap.size) (o := 0) (v := .int .i64 a.s) (by first | assumption | (refine cellUp ?_; assumption) | go_cell)
    have xa1 := kcb hb (b := w.heap.size) (o := 1) (v := .int .i64 a.w) (by first | assumption | (refine cellUp ?_; assumption) | go_cell)
    have B3 : Bl w w3 := Below.trans (by go_grown) (hb.mono (by (try simp only [World.size_alloc, World.size_setCell]); omega))
    have l3 := ltb xa1
    have zz3 := B3.size
    clear hb
    go_wp2_with fail
    go_ret
    exact ⟨rfl, by go_grown⟩
  by_cases h2 : 0 ≤ d
  rotate_left
  · skip
    go_wp2_with fail
    refine (awakeG_any _).mono ?_
    rintro q3 w3 ⟨rfl, hb⟩
    have xa0 := kcb hb (b := w.heap.size) (o := 0) (v := .int .i64 a.s) (by first | assumption | (refine cellUp ?_; assumption) | go_cell)
    have xa1 := kcb hb (b := w.heap.size) (o := 1) (v := .int .i64 a.w) (by first | assumption | (refine cellUp ?_; assumption) | go_cell)
    have B3 : Bl w w3 := Below.trans (by go_grown) (hb.mono (by (try simp only [World.size_alloc, World.size_setCell]); omega))
    have l3 := ltb xa1
    have zz3 := B3.size
    clear hb
    go_wp2_with fail
    go_ret
    exact ⟨rfl, by go_grown⟩
  by_cases h3 : d ≤ 50000
  rotate_left
  · skip
    go_wp2_with fail
    refine (awakeG_any _).mono ?_
    rintro q3 w3 ⟨rfl, hb⟩
    have xa0 := kcb hb (b := w.heap.size) (o := 0) (v := .int .i64 a.s) (by first | assumption | (refine cellUp ?_; assumption) | go_cell)
    have xa1 := kcb hb (b := w.heap.size) (o := 1) (v := .int .i64 a.w) (by first | assumption | (refine cellUp ?_; assumption) | go_cell)
    have B3 : Bl w w3 := Below.trans (by go_grown) (hb.mono (by (try simp only [World.size_alloc, World.size_setCell]); omega))
    have l3 := ltb xa1
    have zz3 := B3.size
    clear hb
    go_wp2_with fail
    go_ret
    exact ⟨rfl, by go_grown⟩
  have hS : RingS a lag (r1, r2, r3') := by
    rcases HR.out with ⟨g, _⟩ | ⟨_, g, _⟩ | ⟨_, _, g⟩
    · exact absurd HAA.out g
    · exact absurd ⟨by decide, h0, h1⟩ g
    · exact g
  obtain ⟨u, v, huv⟩ : ∃ u v, ringL a d = (u, v) := ⟨_, _, rfl⟩
  have HG := Lib.hid (show lagR a ⟨0, 0⟩ ⟨d, 0⟩ = (u, v, 0) by rw [lag_flat HAA.out h2 h3, huv])
  have HL : hasL a lag d ↔ u ≤ lag ∧ lag ≤ v := by unfold hasL; rw [huv]
  rcases hS with ⟨s1, s2, s3, s4, s5⟩ | ⟨s1, s2⟩
  · dsimp only at s1 s2 s3 s4 s5
    subst s1
    have s6 := (s5 d h2 (by omega)).symm.trans HL
    clear s5 HL huv
    go_wp2_with fail
    refine (Lag_any a ⟨0, 0⟩ ⟨d, 0⟩ _).mono ?_
    rintro q3 w3 ⟨rfl, hb⟩
    have xa0 := kcb hb (b := w.heap.size) (o := 0) (v := .int .i64 a.s) (by first | assumption | (refine cellUp ?_; assumption) | go_cell)
    have xa1 := kcb hb (b := w.heap.size) (o := 1) (v := .int .i64 a.w) (by first | assumption | (refine cellUp ?_; assumption) | go_cell)
    have B3 : Bl w w3 := Below.trans (by go_grown) (hb.mono (by (try simp only [World.size_alloc, World.size_setCell]); omega))
    have l3 := ltb xa1
    have zz3 := B3.size
    clear hb
    rw [HG.out]
    unfold rS
    by_cases q1 : u ≤ lag
    · by_cases q2 : lag ≤ v
      · obtain ⟨q3, q4⟩ := s6.2 ⟨q1, q2⟩
        clear s6
        go_wp2_with fail
        refine (awakeG_any _).mono ?_
        rintro q4 w4 ⟨rfl, hb⟩
        have xa0 := kcb hb (b := w.heap.size) (o := 0) (v := .int .i64 a.s) (by first | assumption | (refine cellUp ?_; assumption) | go_cell)
        have xa1 := kcb hb (b := w.heap.size) (o := 1) (v := .int .i64 a.w) (by first | assumption | (refine cellUp ?_; assumption) | go_cell)
        have s0 := kcb hb (b := w3.heap.size) (o := 0) (v := .int .i64 u) (by first | assumption | (refine cellUp ?_; assumption) | go_cell)
        have s1 := kcb hb (b := w3.heap.size) (o := 1) (v := .int .i64 v) (by first | assumption | (refine cellUp ?_; assumption) | go_cell)
        have B4 : Bl w w4 := Below.trans (by go_grown) (hb.mono (by (try simp only [World.size_alloc, World.size_setCell]); omega))
        have l4 := ltb s1
        have l4_1 := ltb xa1
        have zz4 := B4.size
        clear hb
        go_wp2_with fail
        go_ret
        exact ⟨rfl, by go_grown⟩
      · by_cases q3 : r1 ≤ d
        · have q4 : ¬ d ≤ r2 := fun g => q2 (s6.1 ⟨q3, g⟩).2
          have q4d : decide (d ≤ r2) = false := decide_eq_false q4
          have q2d : decide (lag ≤ v) = false := decide_eq_false q2
          clear s6
          go_wp2_with fail
          refine (awakeG_any _).mono ?_
          rintro q4 w4 ⟨rfl, hb⟩
          have xa0 := kcb hb (b := w.heap.size) (o := 0) (v := .int .i64 a.s) (by first | assumption | (refine cellUp ?_; assumption) | go_cell)
          have xa1 := kcb hb (b := w.heap.size) (o := 1) (v := .int .i64 a.w) (by first | assumption | (refine cellUp ?_; assumption) | go_cell)
          have s0 := kcb hb (b := w3.heap.size) (o := 0) (v := .int .i64 u) (by first | assumption | (refine cellUp ?_; assumption) | go_cell)
          have s1 := kcb hb (b := w3.heap.size) (o := 1) (v := .int .i64 v) (by first | assumption | (refine cellUp ?_; assumption) | go_cell)
          have B4 : Bl w w4 := Below.trans (by go_grown) (hb.mono (by (try simp only [World.size_alloc, World.size_setCell]); omega))
          have l4 := ltb s1
          have l4_1 := ltb xa1
          have zz4 := B4.size
          clear hb
          go_wp2_with fail
          go_ret
          exact ⟨rfl, by go_grown⟩
        · have q2d : decide (lag ≤ v) = false := decide_eq_false q2
          clear s6
          go_wp2_with fail
          refine (awakeG_any _).mono ?_
          rintro q4 w4 ⟨rfl, hb⟩
          have xa0 := kcb hb (b := w.heap.size) (o := 0) (v := .int .i64 a.s) (by first | assumption | (refine cellUp ?_; assumption) | go_cell)
          have xa1 := kcb hb (b := w.heap.size) (o := 1) (v := .int .i64 a.w) (by first | assumption | (refine cellUp ?_; assumption) | go_cell)
          have s0 := kcb hb (b := w3.heap.size) (o := 0) (v := .int .i64 u) (by first | assumption | (refine cellUp ?_; assumption) | go_cell)
          have s1 := kcb hb (b := w3.heap.size) (o := 1) (v := .int .i64 v) (by first | assumption | (refine cellUp ?_; assumption) | go_cell)
          have B4 : Bl w w4 := Below.trans (by go_grown) (hb.mono (by (try simp only [World.size_alloc, World.size_setCell]); omega))
          have l4 := ltb s1
          have l4_1 := ltb xa1
          have zz4 := B4.size
          clear hb
          go_wp2_with fail
          go_ret
          exact ⟨rfl, by go_grown⟩
    · by_cases q3 : r1 ≤ d
      · have q4 : ¬ d ≤ r2 := fun g => q1 (s6.1 ⟨q3, g⟩).1
        have q4d : decide (d ≤ r2) = false := decide_eq_false q4
        clear s6
        go_wp2_with fail
        refine (awakeG_any _).mono ?_
        rintro q4 w4 ⟨rfl, hb⟩
        have xa0 := kcb hb (b := w.heap.size) (o := 0) (v := .int .i64 a.s) (by first | assumption | (refine cellUp ?_; assumption) | go_cell)
        have xa1 := kcb hb (b := w.heap.size) (o := 1) (v := .int .i64 a.w) (by first | assumption | (refine cellUp ?_; assumption) | go_cell)
        have s0 := kcb hb (b := w3.heap.size) (o := 0) (v := .int .i64 u) (by first | assumption | (refine cellUp ?_; assumption) | go_cell)
        have s1 := kcb hb (b := w3.heap.size) (o := 1) (v := .int .i64 v) (by first | assumption | (refine cellUp ?_; assumption) | go_cell)
        have B4 : Bl w w4 := Below.trans (by go_grown) (hb.mono (by (try simp only [World.size_alloc, World.size_setCell]); omega))
        have l4 := ltb s1
        have l4_1 := ltb xa1
        have zz4 := B4.size
        clear hb
        go_wp2_with fail
        go_ret
        exact ⟨rfl, by go_grown⟩
      · clear s6
        go_wp2_with fail
        refine (awakeG_any _).mono ?_
        rintro q4 w4 ⟨rfl, hb⟩
        have xa0 := kcb hb (b := w.heap.size) (o := 0) (v := .int .i64 a.s) (by first | assumption | (refine cellUp ?_; assumption) | go_cell)
        have xa1 := kcb hb (b := w.heap.size) (o := 1) (v := .int .i64 a.w) (by first | assumption | (refine cellUp ?_; assumption) | go_cell)
        have s0 := kcb hb (b := w3.heap.size) (o := 0) (v := .int .i64 u) (by first | assumption | (refine cellUp ?_; assumption) | go_cell)
        have s1 := kcb hb (b := w3.heap.size) (o := 1) (v := .int .i64 v) (by first | assumption | (refine cellUp ?_; assumption) | go_cell)
        have B4 : Bl w w4 := Below.trans (by go_grown) (hb.mono (by (try simp only [World.size_alloc, World.size_setCell]); omega))
        have l4 := ltb s1
        have l4_1 := ltb xa1
        have zz4 := B4.size
        clear hb
        go_wp2_with fail
        go_ret
        exact ⟨rfl, by go_grown⟩
  · simp only [Prod.mk.injEq] at s1
    obtain ⟨rfl, rfl, rfl⟩ := s1
    have s6 : ¬ (u ≤ lag ∧ lag ≤ v) := fun g => s2 d h2 (by omega) (HL.2 g)
    clear s2 HL huv
    go_wp2_with fail
    refine (Lag_any a ⟨0, 0⟩ ⟨d, 0⟩ _).mono ?_
    rintro q3 w3 ⟨rfl, hb⟩
    have xa0 := kcb hb (b := w.heap.size) (o := 0) (v := .int .i64 a.s) (by first | assumption | (refine cellUp ?_; assumption) | go_cell)
    have xa1 := kcb hb (b := w.heap.size) (o := 1) (v := .int .i64 a.w) (by first | assumption | (refine cellUp ?_; assumption) | go_cell)
    have B3 : Bl w w3 := Below.trans (by go_grown) (hb.mono (by (try simp only [World.size_alloc, World.size_setCell]); omega))
    have l3 := ltb xa1
    have zz3 := B3.size
    clear hb
    rw [HG.out]
    unfold rS
    by_cases q1 : u ≤ lag
    · have q2 : ¬ lag ≤ v := fun g => s6 ⟨q1, g⟩
      have q2d : decide (lag ≤ v) = false := decide_eq_false q2
      clear s6
      go_wp2_with fail
      refine (awakeG_any _).mono ?_
      rintro q4 w4 ⟨rfl, hb⟩
      have xa0 := kcb hb (b := w.heap.size) (o := 0) (v := .int .i64 a.s) (by first | assumption | (refine cellUp ?_; assumption) | go_cell)
      have xa1 := kcb hb (b := w.heap.size) (o := 1) (v := .int .i64 a.w) (by first | assumption | (refine cellUp ?_; assumption) | go_cell)
      have s0 := kcb hb (b := w3.heap.size) (o := 0) (v := .int .i64 u) (by first | assumption | (refine cellUp ?_; assumption) | go_cell)
      have s1 := kcb hb (b := w3.heap.size) (o := 1) (v := .int .i64 v) (by first | assumption | (refine cellUp ?_; assumption) | go_cell)
      have B4 : Bl w w4 := Below.trans (by go_grown) (hb.mono (by (try simp only [World.size_alloc, World.size_setCell]); omega))
      have l4 := ltb s1
      have l4_1 := ltb xa1
      have zz4 := B4.size
      clear hb
      go_wp2_with fail
      go_ret
      exact ⟨rfl, by go_grown⟩
    · clear s6
      go_wp2_with fail
      refine (awakeG_any _).mono ?_
      rintro q4 w4 ⟨rfl, hb⟩
      have xa0 := kcb hb (b := w.heap.size) (o := 0) (v := .int .i64 a.s) (by first | assumption | (refine cellUp ?_; assumption) | go_cell)
      have xa1 := kcb hb (b := w.heap.size) (o := 1) (v := .int .i64 a.w) (by first | assumption | (refine cellUp ?_; assumption) | go_cell)
      have s0 := kcb hb (b := w3.heap.size) (o := 0) (v := .int .i64 u) (by first | assumption | (refine cellUp ?_; assumption) | go_cell)
      have s1 := kcb hb (b := w3.heap.size) (o := 1) (v := .int .i64 v) (by first | assumption | (refine cellUp ?_; assumption) | go_cell)
      have B4 : Bl w w4 := Below.trans (by go_grown) (hb.mono (by (try simp only [World.size_alloc, World.size_setCell]); omega))
      have l4 := ltb s1
      have l4_1 := ltb xa1
      have zz4 := B4.size
      clear hb
      go_wp2_with fail
      go_ret
      exact ⟨rfl, by go_grown⟩
end Go.Proofs.Ytangijdonkkglaa
