/-
  Contracts of Root, both; walks of the laws on sounds and lags.
-/
import Derived.Test.YtangijdonkkglaaGF
namespace Go.Proofs.Ytangijdonkkglaa
open Go.RowKit
set_option linter.unusedSimpArgs false
set_option linter.unusedVariables false

set_option maxHeartbeats 800000 in
theorem Root_any (n : Int) (w : World) : Calls Try.prog 15 #[.int .i64 n] w fun e w' => e = .returned (r2 (rootR n)) ∧ Bl w w' := by
  by_cases h : 0 ≤ n ∧ n ≤ 1000000000000000000
  · have HI := Lib.hid (show rootR n = (rt n, 0) by rw [rootR, if_pos h])
    obtain ⟨h1, h2⟩ := h
    go_enter Try.func15, Try.ntmps15
    go_wp2_with fail
    refine (rootG_any _ _ h1 h2).mono ?_
    rintro e w1 ⟨rfl, hb⟩
    go_wp2
    go_ret2
    exact ⟨by rw [HI.out]; rfl, hb⟩
  · have HI := Lib.hid (show rootR n = (0, 7) by rw [rootR, if_neg h])
    by_cases h1 : n < 0
    · go_enter Try.func15, Try.ntmps15
      go_wp2_with fail
      go_ret2
      exact ⟨by rw [HI.out]; rfl, by go_grown⟩
    · have h2 : 1000000000000000000 < n := by omega
      clear h
      go_enter Try.func15, Try.ntmps15
      go_wp2_with fail
      go_ret2
      exact ⟨by rw [HI.out]; rfl, by go_grown⟩
set_option maxHeartbeats 800000 in
theorem rRoot_any (n : Int) (w : World) : Calls Try.prog 16 #[.int .i64 n] w fun e w' => e = .returned (r2 (rootR n)) ∧ Bl w w' := by
  by_cases h : 0 ≤ n ∧ n ≤ 1000000000000000000
  · have HI := Lib.hid (show rootR n = (rt n, 0) by rw [rootR, if_pos h])
    have Q1 := Lib.hid (show decide (0 ≤ n ∧ n ≤ 1000000000000000000) = true from decide_eq_true h)
    obtain ⟨h1, h2⟩ := h
    go_enter Try.func16, Try.ntmps16
    go_wp2_with fail
    refine (within5_any _ _ _ _).mono ?_
    rintro e w1 ⟨rfl, rfl⟩
    rw [Q1.out]
    go_wp2_with fail
    refine (rrootG_any _ _ h1 h2).mono ?_
    rintro e w1 ⟨rfl, hb⟩
    go_wp2
    go_ret2
    exact ⟨by rw [HI.out]; rfl, hb⟩
  · have HI := Lib.hid (show rootR n = (0, 7) by rw [rootR, if_neg h])
    have Q1 := Lib.hid (show decide (0 ≤ n ∧ n ≤ 1000000000000000000) = false from decide_eq_false h)
    clear h
    go_enter Try.func16, Try.ntmps16
    go_wp2_with fail
    refine (within5_any _ _ _ _).mono ?_
    rintro e w1 ⟨rfl, rfl⟩
    rw [Q1.out]
    go_wp2_with fail
    go_ret2
    exact ⟨by rw [HI.out]; rfl, by go_grown⟩

set_option maxRecDepth 100000 in
set_option maxHeartbeats 3200000 in
theorem sounds_walk (a : Air) (t n : Int) (w : World) : Calls Try.prog 3 #[encA a, .int .i64 t, .int .i64 n] w fun e w' => e = .returned (.bool true) ∧ Bl w w' := by
  obtain ⟨s1, s2, hs⟩ : ∃ s1 s2, speedR t = (s1, s2) := ⟨_, _, rfl⟩
  obtain ⟨r1, r2', hr⟩ : ∃ r1 r2', rootR n = (r1, r2') := ⟨_, _, rfl⟩
  have HS := Lib.hid hs
  have HR := Lib.hid hr
  clear hs hr
  obtain ⟨y, hy⟩ : ∃ y, decide (VA a) = y := ⟨_, rfl⟩
  have HY := Lib.hid hy
  clear hy
  go_enter Try.func3, Try.ntmps3
  go_wp2_with fail
  refine (speed_any t _).mono ?_
  rintro e w0 ⟨rfl, rfl⟩
  rw [HS.out]
  unfold r2
  go_wp2_with fail
  refine (rspeed_any t _).mono ?_
  rintro e w0 ⟨rfl, rfl⟩
  rw [HS.out]
  unfold r2
  go_wp2_with fail
  refine (Root_any n _).mono ?_
  rintro q1 w1 ⟨rfl, hb⟩
  have xa0 := kcb hb (b := w.heap.size) (o := 0) (v := .int .i64 a.s) (by first | assumption | (refine cellUp ?_; assumption) | go_cell)
  have xa1 := kcb hb (b := w.heap.size) (o := 1) (v := .int .i64 a.w) (by first | assumption | (refine cellUp ?_; assumption) | go_cell)
  have B1 : Bl w w1 := Below.trans (by go_grown) (hb.mono (by (try simp only [World.size_alloc, World.size_setCell]); omega))
  have l1 := ltb xa1
  have zz1 := B1.size
  clear hb
  rw [HR.out]
  unfold r2
  go_wp2_with fail
  refine (rRoot_any n _).mono ?_
  rintro q2 w2 ⟨rfl, hb⟩
  have xa0 := kcb hb (b := w.heap.size) (o := 0) (v := .int .i64 a.s) (by first | assumption | (refine cellUp ?_; assumption) | go_cell)
  have xa1 := kcb hb (b := w.heap.size) (o := 1) (v := .int .i64 a.w) (by first | assumption | (refine cellUp ?_; assumption) | go_cell)
  have B2 : Bl w w2 := Below.trans (by go_grown) (hb.mono (by (try simp only [World.size_alloc, World.size_setCell]); omega))
  have l2 := ltb xa1
  have zz2 := B2.size
  clear hb
  rw [HR.out]
  unfold r2
  go_wp2_with fail
  have S0 : Sv w w.heap.size (.int .i64 a.s) (.int .i64 a.w) w2 := ⟨B2, xa0, xa1, l2⟩
  go_region_held3 (fun w' => Bl w w' ∧ w'.cell? ⟨w.heap.size, 0, none⟩ = some (.int .i64 a.s) ∧ w'.cell? ⟨w.heap.size, 1, none⟩ = some (.int .i64 a.w) ∧ w.heap.size < w'.heap.size) (first | exact Sv.t S0 (Bl.dr _ 1) | exact Sv.t (by assumption) hh0 | exact Sv.t (by assumption) hh1 | exact Sv.t (by assumption) hh2) (first | (go_at_call 17; refine (validAir_any a _).mono ?_; rintro e v0 ⟨rfl, hh0⟩; rw [HY.out]) | (go_at_call 18; refine (rvalidAir_any a _).mono ?_; rintro e v1 ⟨rfl, hh1⟩; rw [HY.out]) | (go_at_call 19; refine (awakeG_any _).mono ?_; rintro e v2 ⟨rfl, hh2⟩))
  all_goals
    go_wp2_with fail
    rename_i hHeld
    go_ret
    exact ⟨rfl, hHeld.1⟩

abbrev encG (l : Leg) : Value := .agg #[.int .i64 l.p.x, .int .i64 l.p.y, .int .i64 l.q.x, .int .i64 l.q.y]
theorem lagR_comm (a : Air) (p q : Pt) : lagR a q p = lagR a p q := by
  unfold lagR
  rw [lagP_comm a q p]
  have e : (isP q ∧ isP p) = (isP p ∧ isP q) := propext ⟨And.symm, And.symm⟩
  simp only [e]
set_option maxRecDepth 100000 in
set_option maxHeartbeats 3200000 in
theorem lags_walk (a : Air) (l : Leg) (w : World) : Calls Try.prog 4 #[encA a, encG l] w fun e w' => e = .returned (.bool true) ∧ Bl w w' := by
  obtain ⟨⟨px, py⟩, ⟨qx, qy⟩⟩ := l
  obtain ⟨d1, d2, d3, hd⟩ : ∃ d1 d2 d3, distR ⟨px, py⟩ ⟨qx, qy⟩ = (d1, d2, d3) := ⟨_, _, _, rfl⟩
  obtain ⟨g1, g2, g3, hg⟩ : ∃ g1 g2 g3, lagR a ⟨px, py⟩ ⟨qx, qy⟩ = (g1, g2, g3) := ⟨_, _, _, rfl⟩
  have hg' : lagR a ⟨qx, qy⟩ ⟨px, py⟩ = (g1, g2, g3) := (lagR_comm a ⟨px, py⟩ ⟨qx, qy⟩).trans hg
  have HD := Lib.hid hd
  have HG := Lib.hid hg
  have HG' := Lib.hid hg'
  clear hd hg hg'
  go_enter Try.func4, Try.ntmps4
  go_wp2_with fail
  refine (Distance_any ⟨px, py⟩ ⟨qx, qy⟩ _).mono ?_
  rintro q1 w1 ⟨rfl, hb⟩
  have xa0 := kcb hb (b := w.heap.size) (o := 0) (v := .int .i64 a.s) (by first | assumption | (refine cellUp ?_; assumption) | go_cell)
  have xa1 := kcb hb (b := w.heap.size) (o := 1) (v := .int .i64 a.w) (by first | assumption | (refine cellUp ?_; assumption) | go_cell)
  have xl0 := kcb hb (b := w.heap.size + 1) (o := 0) (v := .int .i64 px) (by first | assumption | (refine cellUp ?_; assumption) | go_cell)
  have xl1 := kcb hb (b := w.heap.size + 1) (o := 1) (v := .int .i64 py) (by first | assumption | (refine cellUp ?_; assumption) | go_cell)
  have xl2 := kcb hb (b := w.heap.size + 1) (o := 2) (v := .int .i64 qx) (by first | assumption | (refine cellUp ?_; assumption) | go_cell)
  have xl3 := kcb hb (b := w.heap.size + 1) (o := 3) (v := .int .i64 qy) (by first | assumption | (refine cellUp ?_; assumption) | go_cell)
  have B1 : Bl w w1 := Below.trans (by go_grown) (hb.mono (by (try simp only [World.size_alloc, World.size_setCell]); omega))
  have l1 := ltb xl3
  have l1_1 := ltb xa1
  have zz1 := B1.size
  clear hb
  rw [HD.out]
  unfold r3
  go_wp2_with fail
  refine (rDistance_any ⟨px, py⟩ ⟨qx, qy⟩ _).mono ?_
  rintro q2 w2 ⟨rfl, hb⟩
  have xa0 := kcb hb (b := w.heap.size) (o := 0) (v := .int .i64 a.s) (by first | assumption | (refine cellUp ?_; assumption) | go_cell)
  have xa1 := kcb hb (b := w.heap.size) (o := 1) (v := .int .i64 a.w) (by first | assumption | (refine cellUp ?_; assumption) | go_cell)
  have xl0 := kcb hb (b := w.heap.size + 1) (o := 0) (v := .int .i64 px) (by first | assumption | (refine cellUp ?_; assumption) | go_cell)
  have xl1 := kcb hb (b := w.heap.size + 1) (o := 1) (v := .int .i64 py) (by first | assumption | (refine cellUp ?_; assumption) | go_cell)
  have xl2 := kcb hb (b := w.heap.size + 1) (o := 2) (v := .int .i64 qx) (by first | assumption | (refine cellUp ?_; assumption) | go_cell)
  have xl3 := kcb hb (b := w.heap.size + 1) (o := 3) (v := .int .i64 qy) (by first | assumption | (refine cellUp ?_; assumption) | go_cell)
  have B2 : Bl w w2 := Below.trans (by go_grown) (hb.mono (by (try simp only [World.size_alloc, World.size_setCell]); omega))
  have l2 := ltb xl3
  have l2_1 := ltb xa1
  have zz2 := B2.size
  clear hb
  rw [HD.out]
  unfold r3
  go_wp2_with fail
  refine (Lag_any a ⟨px, py⟩ ⟨qx, qy⟩ _).mono ?_
  rintro q3 w3 ⟨rfl, hb⟩
  have xa0 := kcb hb (b := w.heap.size) (o := 0) (v := .int .i64 a.s) (by first | assumption | (refine cellUp ?_; assumption) | go_cell)
  have xa1 := kcb hb (b := w.heap.size) (o := 1) (v := .int .i64 a.w) (by first | assumption | (refine cellUp ?_; assumption) | go_cell)
  have xl0 := kcb hb (b := w.heap.size + 1) (o := 0) (v := .int .i64 px) (by first | assumption | (refine cellUp ?_; assumption) | go_cell)
  have xl1 := kcb hb (b := w.heap.size + 1) (o := 1) (v := .int .i64 py) (by first | assumption | (refine cellUp ?_; assumption) | go_cell)
  have xl2 := kcb hb (b := w.heap.size + 1) (o := 2) (v := .int .i64 qx) (by first | assumption | (refine cellUp ?_; assumption) | go_cell)
  have xl3 := kcb hb (b := w.heap.size + 1) (o := 3) (v := .int .i64 qy) (by first | assumption | (refine cellUp ?_; assumption) | go_cell)
  have B3 : Bl w w3 := Below.trans (by go_grown) (hb.mono (by (try simp only [World.size_alloc, World.size_setCell]); omega))
  have l3 := ltb xl3
  have l3_1 := ltb xa1
  have zz3 := B3.size
  clear hb
  rw [HG.out]
  unfold rS
  go_wp2_with fail
  refine (rLag_any a ⟨px, py⟩ ⟨qx, qy⟩ _).mono ?_
  rintro q4 w4 ⟨rfl, hb⟩
  have xa0 := kcb hb (b := w.heap.size) (o := 0) (v := .int .i64 a.s) (by first | assumption | (refine cellUp ?_; assumption) | go_cell)
  have xa1 := kcb hb (b := w.heap.size) (o := 1) (v := .int .i64 a.w) (by first | assumption | (refine cellUp ?_; assumption) | go_cell)
  have xl0 := kcb hb (b := w.heap.size + 1) (o := 0) (v := .int .i64 px) (by first | assumption | (refine cellUp ?_; assumption) | go_cell)
  have xl1 := kcb hb (b := w.heap.size + 1) (o := 1) (v := .int .i64 py) (by first | assumption | (refine cellUp ?_; assumption) | go_cell)
  have xl2 := kcb hb (b := w.heap.size + 1) (o := 2) (v := .int .i64 qx) (by first | assumption | (refine cellUp ?_; assumption) | go_cell)
  have xl3 := kcb hb (b := w.heap.size + 1) (o := 3) (v := .int .i64 qy) (by first | assumption | (refine cellUp ?_; assumption) | go_cell)
  have s0 := kcb hb (b := w3.heap.size) (o := 0) (v := .int .i64 g1) (by first | assumption | (refine cellUp ?_; assumption) | go_cell)
  have s1 := kcb hb (b := w3.heap.size) (o := 1) (v := .int .i64 g2) (by first | assumption | (refine cellUp ?_; assumption) | go_cell)
  have B4 : Bl w w4 := Below.trans (by go_grown) (hb.mono (by (try simp only [World.size_alloc, World.size_setCell]); omega))
  have l4 := ltb s1
  have l4_1 := ltb xl3
  have l4_2 := ltb xa1
  have zz4 := B4.size
  clear hb
  rw [HG.out]
  unfold rS
  go_wp2_with fail
  refine (Lag_any a ⟨qx, qy⟩ ⟨px, py⟩ _).mono ?_
  rintro q5 w5 ⟨rfl, hb⟩
  have xa0 := kcb hb (b := w.heap.size) (o := 0) (v := .int .i64 a.s) (by first | assumption | (refine cellUp ?_; assumption) | go_cell)
  have xa1 := kcb hb (b := w.heap.size) (o := 1) (v := .int .i64 a.w) (by first | assumption | (refine cellUp ?_; assumption) | go_cell)
  have xl0 := kcb hb (b := w.heap.size + 1) (o := 0) (v := .int .i64 px) (by first | assumption | (refine cellUp ?_; assumption) | go_cell)
  have xl1 := kcb hb (b := w.heap.size + 1) (o := 1) (v := .int .i64 py) (by first | assumption | (refine cellUp ?_; assumption) | go_cell)
  have xl2 := kcb hb (b := w.heap.size + 1) (o := 2) (v := .int .i64 qx) (by first | assumption | (refine cellUp ?_; assumption) | go_cell)
  have xl3 := kcb hb (b := w.heap.size + 1) (o := 3) (v := .int .i64 qy) (by first | assumption | (refine cellUp ?_; assumption) | go_cell)
  have s0 := kcb hb (b := w3.heap.size) (o := 0) (v := .int .i64 g1) (by first | assumption | (refine cellUp ?_; assumption) | go_cell)
  have s1 := kcb hb (b := w3.heap.size) (o := 1) (v := .int .i64 g2) (by first | assumption | (refine cellUp ?_; assumption) | go_cell)
  have t0 := kcb hb (b := w4.heap.size) (o := 0) (v := .int .i64 g1) (by first | assumption | (refine cellUp ?_; assumption) | go_cell)
  have t1 := kcb hb (b := w4.heap.size) (o := 1) (v := .int .i64 g2) (by first | assumption | (refine cellUp ?_; assumption) | go_cell)
  have B5 : Bl w w5 := Below.trans (by go_grown) (hb.mono (by (try simp only [World.size_alloc, World.size_setCell]); omega))
  have l5 := ltb t1
  have l5_1 := ltb s1
  have l5_2 := ltb xl3
  have l5_3 := ltb xa1
  have zz5 := B5.size
  clear hb
  rw [HG'.out]
  unfold rS
  go_wp2_with fail
  refine (awakeG_any _).mono ?_
  rintro q6 w6 ⟨rfl, hb⟩
  have xa0 := kcb hb (b := w.heap.size) (o := 0) (v := .int .i64 a.s) (by first | assumption | (refine cellUp ?_; assumption) | go_cell)
  have xa1 := kcb hb (b := w.heap.size) (o := 1) (v := .int .i64 a.w) (by first | assumption | (refine cellUp ?_; assumption) | go_cell)
  have xl0 := kcb hb (b := w.heap.size + 1) (o := 0) (v := .int .i64 px) (by first | assumption | (refine cellUp ?_; assumption) | go_cell)
  have xl1 := kcb hb (b := w.heap.size + 1) (o := 1) (v := .int .i64 py) (by first | assumption | (refine cellUp ?_; assumption) | go_cell)
  have xl2 := kcb hb (b := w.heap.size + 1) (o := 2) (v := .int .i64 qx) (by first | assumption | (refine cellUp ?_; assumption) | go_cell)
  have xl3 := kcb hb (b := w.heap.size + 1) (o := 3) (v := .int .i64 qy) (by first | assumption | (refine cellUp ?_; assumption) | go_cell)
  have s0 := kcb hb (b := w3.heap.size) (o := 0) (v := .int .i64 g1) (by first | assumption | (refine cellUp ?_; assumption) | go_cell)
  have s1 := kcb hb (b := w3.heap.size) (o := 1) (v := .int .i64 g2) (by first | assumption | (refine cellUp ?_; assumption) | go_cell)
  have t0 := kcb hb (b := w4.heap.size) (o := 0) (v := .int .i64 g1) (by first | assumption | (refine cellUp ?_; assumption) | go_cell)
  have t1 := kcb hb (b := w4.heap.size) (o := 1) (v := .int .i64 g2) (by first | assumption | (refine cellUp ?_; assumption) | go_cell)
  have B6 : Bl w w6 := Below.trans (by go_grown) (hb.mono (by (try simp only [World.size_alloc, World.size_setCell]); omega))
  have l6 := ltb t1
  have l6_1 := ltb s1
  have l6_2 := ltb xl3
  have l6_3 := ltb xa1
  have zz6 := B6.size
  clear hb
  go_wp2_with fail
  go_ret
  exact ⟨rfl, by go_grown⟩
end Go.Proofs.Ytangijdonkkglaa
