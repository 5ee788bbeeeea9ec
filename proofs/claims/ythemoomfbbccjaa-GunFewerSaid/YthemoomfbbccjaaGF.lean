/-
  Contracts of package gun and of its reference: lags of places; the law's sanity check.
-/
import Derived.Test.YthemoomfbbccjaaGE
namespace Go.Proofs.Ythemoomfbbccjaa
open Go.RowKit
set_option linter.unusedSimpArgs false
set_option linter.unusedVariables false

theorem dist_bd {p q : Pt} (hp : isP p) (hq : isP q) : 0 ≤ rt (sqd p q * 1000000) ∧ rt (sqd p q * 1000000) ≤ 142000000 ∧ 0 ≤ rtU (sqd p q * 1000000) ∧ rtU (sqd p q * 1000000) ≤ 142000001 := by
  obtain ⟨b1, b2⟩ := sqd_bd hp hq
  have r0 := rt_nonneg (sqd p q * 1000000)
  have r1 := rt_le (n := sqd p q * 1000000) (b := 142000000) (by omega) (by omega)
  have r2 := rtU_ge (sqd p q * 1000000)
  omega
abbrev encL (r : Int × Int) : Value := .agg #[.int .i64 r.1, .int .i64 r.2]

set_option maxRecDepth 100000 in
set_option maxHeartbeats 1600000 in
theorem lagOf_any (a : Air) (p q : Pt) (w : World) (ha : VA a) (hp : isP p) (hq : isP q) :
    Calls Try.prog 36 #[encA a, encP p, encP q] w fun e w' => e = .returned (encL (lagP a p q)) ∧ Bl w w' := by
  obtain ⟨d1, d2, d3, d4⟩ := dist_bd hp hq
  have HAA := Lib.hid ha
  have HP := Lib.hid hp
  have HQ := Lib.hid hq
  clear ha hp hq
  obtain ⟨lo, hlo⟩ : ∃ lo, lo = rt (sqd p q * 1000000) := ⟨_, rfl⟩
  obtain ⟨hi, hhi⟩ : ∃ hi, hi = rtU (sqd p q * 1000000) := ⟨_, rfl⟩
  have hl : lagP a p q = lagO a lo hi := by rw [hlo, hhi]; rfl
  rw [hl]
  obtain ⟨u, v, huv⟩ : ∃ u v, lagO a lo hi = (u, v) := ⟨_, _, rfl⟩
  rw [← hlo] at d1 d2
  rw [← hhi] at d3 d4
  have HLO := Lib.hid hlo
  have HHI := Lib.hid hhi
  have HUV := Lib.hid huv
  rw [huv]
  clear hlo hhi hl huv
  go_enter Try.func36, Try.ntmps36
  go_wp2_with fail
  refine (distG_any p q _ HP.out HQ.out).mono ?_
  rintro q1 w1 ⟨rfl, hb⟩
  have xa0 := kcb hb (b := w.heap.size) (o := 0) (v := .int .i64 a.s) (by first | assumption | (refine cellUp ?_; assumption) | go_cell)
  have xa1 := kcb hb (b := w.heap.size) (o := 1) (v := .int .i64 a.w) (by first | assumption | (refine cellUp ?_; assumption) | go_cell)
  have xp0 := kcb hb (b := w.heap.size + 1) (o := 0) (v := .int .i64 p.x) (by first | assumption | (refine cellUp ?_; assumption) | go_cell)
  have xp1 := kcb hb (b := w.heap.size + 1) (o := 1) (v := .int .i64 p.y) (by first | assumption | (refine cellUp ?_; assumption) | go_cell)
  have xq0 := kcb hb (b := w.heap.size + 1 + 1) (o := 0) (v := .int .i64 q.x) (by first | assumption | (refine cellUp ?_; assumption) | go_cell)
  have xq1 := kcb hb (b := w.heap.size + 1 + 1) (o := 1) (v := .int .i64 q.y) (by first | assumption | (refine cellUp ?_; assumption) | go_cell)
  have r0 := kcb hb (b := w.heap.size + 1 + 1 + 1) (o := 0) (v := .int .i64 0) (by first | assumption | (refine cellUp ?_; assumption) | go_cell)
  have r1 := kcb hb (b := w.heap.size + 1 + 1 + 1) (o := 1) (v := .int .i64 0) (by first | assumption | (refine cellUp ?_; assumption) | go_cell)
  have fr := fzb hb (b := w.heap.size + 1 + 1 + 1) (o := 0) (by (try simp only [frozen?_alloc_cells, World.frozen?_setCell]); first | assumption | exact fz_new (by (try simp only [World.size_alloc, World.size_setCell]); omega)) (by (try simp only [World.size_alloc, World.size_setCell]); omega)
  have fs := fzb hb (b := w.heap.size + 1 + 1 + 1) (o := 1) (by (try simp only [frozen?_alloc_cells, World.frozen?_setCell]); first | assumption | exact fz_new (by (try simp only [World.size_alloc, World.size_setCell]); omega)) (by (try simp only [World.size_alloc, World.size_setCell]); omega)
  have B1 : Bl w w1 := Below.trans (by go_grown) (hb.mono (by (try simp only [World.size_alloc, World.size_setCell]); omega))
  have l1 := ltb r1
  have l1_1 := ltb xq1
  have l1_2 := ltb xp1
  have l1_3 := ltb xa1
  have zz1 := B1.size
  clear hb
  rw [← HLO.out, ← HHI.out]
  unfold r2
  go_wp2_with fail
  refine (lagOver_any a lo hi _ HAA.out d1 (by omega) d3 (by omega)).mono ?_
  rintro q2 w2 ⟨rfl, hb⟩
  have xa0 := kcb hb (b := w.heap.size) (o := 0) (v := .int .i64 a.s) (by first | assumption | (refine cellUp ?_; assumption) | go_cell)
  have xa1 := kcb hb (b := w.heap.size) (o := 1) (v := .int .i64 a.w) (by first | assumption | (refine cellUp ?_; assumption) | go_cell)
  have xp0 := kcb hb (b := w.heap.size + 1) (o := 0) (v := .int .i64 p.x) (by first | assumption | (refine cellUp ?_; assumption) | go_cell)
  have xp1 := kcb hb (b := w.heap.size + 1) (o := 1) (v := .int .i64 p.y) (by first | assumption | (refine cellUp ?_; assumption) | go_cell)
  have xq0 := kcb hb (b := w.heap.size + 1 + 1) (o := 0) (v := .int .i64 q.x) (by first | assumption | (refine cellUp ?_; assumption) | go_cell)
  have xq1 := kcb hb (b := w.heap.size + 1 + 1) (o := 1) (v := .int .i64 q.y) (by first | assumption | (refine cellUp ?_; assumption) | go_cell)
  have r0 := kcb hb (b := w.heap.size + 1 + 1 + 1) (o := 0) (v := .int .i64 0) (by first | assumption | (refine cellUp ?_; assumption) | go_cell)
  have r1 := kcb hb (b := w.heap.size + 1 + 1 + 1) (o := 1) (v := .int .i64 0) (by first | assumption | (refine cellUp ?_; assumption) | go_cell)
  have fr := fzb hb (b := w.heap.size + 1 + 1 + 1) (o := 0) (by (try simp only [frozen?_alloc_cells, World.frozen?_setCell]); first | assumption | exact fz_new (by (try simp only [World.size_alloc, World.size_setCell]); omega)) (by (try simp only [World.size_alloc, World.size_setCell]); omega)
  have fs := fzb hb (b := w.heap.size + 1 + 1 + 1) (o := 1) (by (try simp only [frozen?_alloc_cells, World.frozen?_setCell]); first | assumption | exact fz_new (by (try simp only [World.size_alloc, World.size_setCell]); omega)) (by (try simp only [World.size_alloc, World.size_setCell]); omega)
  have B2 : Bl w w2 := Below.trans (by go_grown) (hb.mono (by (try simp only [World.size_alloc, World.size_setCell]); omega))
  have l2 := ltb r1
  have l2_1 := ltb xq1
  have l2_2 := ltb xp1
  have l2_3 := ltb xa1
  have zz2 := B2.size
  clear hb
  rw [HUV.out]
  go_wp2_with fail
  exact bodyPost_ret (v := encL (u, v)) (by simp [results, Try.results36, go_sem, r0, r1]) rfl ⟨rfl, by go_grown⟩

set_option maxRecDepth 100000 in
set_option maxHeartbeats 1600000 in
theorem lag5_any (a : Air) (p q : Pt) (w : World) (ha : VA a) (hp : isP p) (hq : isP q) :
    Calls Try.prog 33 #[encA a, encP p, encP q] w fun e w' => e = .returned (encL (lagP a p q)) ∧ Bl w w' := by
  obtain ⟨d1, d2, d3, d4⟩ := dist_bd hp hq
  have HAA := Lib.hid ha
  have HP := Lib.hid hp
  have HQ := Lib.hid hq
  clear ha hp hq
  obtain ⟨lo, hlo⟩ : ∃ lo, lo = rt (sqd p q * 1000000) := ⟨_, rfl⟩
  obtain ⟨hi, hhi⟩ : ∃ hi, hi = rtU (sqd p q * 1000000) := ⟨_, rfl⟩
  have hl : lagP a p q = lagO a lo hi := by rw [hlo, hhi]; rfl
  rw [hl]
  obtain ⟨u, v, huv⟩ : ∃ u v, lagO a lo hi = (u, v) := ⟨_, _, rfl⟩
  rw [← hlo] at d1 d2
  rw [← hhi] at d3 d4
  have HLO := Lib.hid hlo
  have HHI := Lib.hid hhi
  have HUV := Lib.hid huv
  rw [huv]
  clear hlo hhi hl huv
  go_enter Try.func33, Try.ntmps33
  go_wp2_with fail
  refine (rdistG_any p q _ HP.out HQ.out).mono ?_
  rintro q1 w1 ⟨rfl, hb⟩
  have xa0 := kcb hb (b := w.heap.size) (o := 0) (v := .int .i64 a.s) (by first | assumption | (refine cellUp ?_; assumption) | go_cell)
  have xa1 := kcb hb (b := w.heap.size) (o := 1) (v := .int .i64 a.w) (by first | assumption | (refine cellUp ?_; assumption) | go_cell)
  have xp0 := kcb hb (b := w.heap.size + 1) (o := 0) (v := .int .i64 p.x) (by first | assumption | (refine cellUp ?_; assumption) | go_cell)
  have xp1 := kcb hb (b := w.heap.size + 1) (o := 1) (v := .int .i64 p.y) (by first | assumption | (refine cellUp ?_; assumption) | go_cell)
  have xq0 := kcb hb (b := w.heap.size + 1 + 1) (o := 0) (v := .int .i64 q.x) (by first | assumption | (refine cellUp ?_; assumption) | go_cell)
  have xq1 := kcb hb (b := w.heap.size + 1 + 1) (o := 1) (v := .int .i64 q.y) (by first | assumption | (refine cellUp ?_; assumption) | go_cell)
  have r0 := kcb hb (b := w.heap.size + 1 + 1 + 1) (o := 0) (v := .int .i64 0) (by first | assumption | (refine cellUp ?_; assumption) | go_cell)
  have r1 := kcb hb (b := w.heap.size + 1 + 1 + 1) (o := 1) (v := .int .i64 0) (by first | assumption | (refine cellUp ?_; assumption) | go_cell)
  have fr := fzb hb (b := w.heap.size + 1 + 1 + 1) (o := 0) (by (try simp only [frozen?_alloc_cells, World.frozen?_setCell]); first | assumption | exact fz_new (by (try simp only [World.size_alloc, World.size_setCell]); omega)) (by (try simp only [World.size_alloc, World.size_setCell]); omega)
  have fs := fzb hb (b := w.heap.size + 1 + 1 + 1) (o := 1) (by (try simp only [frozen?_alloc_cells, World.frozen?_setCell]); first | assumption | exact fz_new (by (try simp only [World.size_alloc, World.size_setCell]); omega)) (by (try simp only [World.size_alloc, World.size_setCell]); omega)
  have B1 : Bl w w1 := Below.trans (by go_grown) (hb.mono (by (try simp only [World.size_alloc, World.size_setCell]); omega))
  have l1 := ltb r1
  have l1_1 := ltb xq1
  have l1_2 := ltb xp1
  have l1_3 := ltb xa1
  have zz1 := B1.size
  clear hb
  rw [← HLO.out, ← HHI.out]
  unfold r2
  go_wp2_with fail
  refine (took_any a lo hi _ HAA.out d1 (by omega) d3 (by omega)).mono ?_
  rintro q2 w2 ⟨rfl, hb⟩
  have xa0 := kcb hb (b := w.heap.size) (o := 0) (v := .int .i64 a.s) (by first | assumption | (refine cellUp ?_; assumption) | go_cell)
  have xa1 := kcb hb (b := w.heap.size) (o := 1) (v := .int .i64 a.w) (by first | assumption | (refine cellUp ?_; assumption) | go_cell)
  have xp0 := kcb hb (b := w.heap.size + 1) (o := 0) (v := .int .i64 p.x) (by first | assumption | (refine cellUp ?_; assumption) | go_cell)
  have xp1 := kcb hb (b := w.heap.size + 1) (o := 1) (v := .int .i64 p.y) (by first | assumption | (refine cellUp ?_; assumption) | go_cell)
  have xq0 := kcb hb (b := w.heap.size + 1 + 1) (o := 0) (v := .int .i64 q.x) (by first | assumption | (refine cellUp ?_; assumption) | go_cell)
  have xq1 := kcb hb (b := w.heap.size + 1 + 1) (o := 1) (v := .int .i64 q.y) (by first | assumption | (refine cellUp ?_; assumption) | go_cell)
  have r0 := kcb hb (b := w.heap.size + 1 + 1 + 1) (o := 0) (v := .int .i64 0) (by first | assumption | (refine cellUp ?_; assumption) | go_cell)
  have r1 := kcb hb (b := w.heap.size + 1 + 1 + 1) (o := 1) (v := .int .i64 0) (by first | assumption | (refine cellUp ?_; assumption) | go_cell)
  have fr := fzb hb (b := w.heap.size + 1 + 1 + 1) (o := 0) (by (try simp only [frozen?_alloc_cells, World.frozen?_setCell]); first | assumption | exact fz_new (by (try simp only [World.size_alloc, World.size_setCell]); omega)) (by (try simp only [World.size_alloc, World.size_setCell]); omega)
  have fs := fzb hb (b := w.heap.size + 1 + 1 + 1) (o := 1) (by (try simp only [frozen?_alloc_cells, World.frozen?_setCell]); first | assumption | exact fz_new (by (try simp only [World.size_alloc, World.size_setCell]); omega)) (by (try simp only [World.size_alloc, World.size_setCell]); omega)
  have B2 : Bl w w2 := Below.trans (by go_grown) (hb.mono (by (try simp only [World.size_alloc, World.size_setCell]); omega))
  have l2 := ltb r1
  have l2_1 := ltb xq1
  have l2_2 := ltb xp1
  have l2_3 := ltb xa1
  have zz2 := B2.size
  clear hb
  rw [HUV.out]
  go_wp2_with fail
  exact bodyPost_ret (v := encL (u, v)) (by simp [results, Try.results33, go_sem, r0, r1]) rfl ⟨rfl, by go_grown⟩

set_option maxRecDepth 100000 in
set_option maxHeartbeats 1600000 in
theorem Lag_any (a : Air) (p q : Pt) (w : World) :
    Calls Try.prog 15 #[encA a, encP p, encP q] w fun e w' => e = .returned (rS (lagR a p q)) ∧ Bl w w' := by
  by_cases ha : VA a
  · have Q0 := Lib.hid (show decide (VA a) = true from decide_eq_true ha)
    have HAA := Lib.hid ha
    by_cases hpq : isP p ∧ isP q
    · have HI := Lib.hid (show lagR a p q = ((lagP a p q).1, (lagP a p q).2, 0) by rw [lagR, if_pos ha, if_pos hpq])
      clear ha
      have Q1 := Lib.hid (show decide (allP (two p q) 2) = true from decide_eq_true (allP_two.2 hpq))
      have HP := Lib.hid hpq
      clear hpq
      go_enter Try.func15, Try.ntmps15
      go_wp2_with fail
      refine (validAir_any a _).mono ?_
      rintro q1 w1 ⟨rfl, hb⟩
      have xa0 := kcb hb (b := w.heap.size) (o := 0) (v := .int .i64 a.s) (by first | assumption | (refine cellUp ?_; assumption) | go_cell)
      have xa1 := kcb hb (b := w.heap.size) (o := 1) (v := .int .i64 a.w) (by first | assumption | (refine cellUp ?_; assumption) | go_cell)
      have xp0 := kcb hb (b := w.heap.size + 1) (o := 0) (v := .int .i64 p.x) (by first | assumption | (refine cellUp ?_; assumption) | go_cell)
      have xp1 := kcb hb (b := w.heap.size + 1) (o := 1) (v := .int .i64 p.y) (by first | assumption | (refine cellUp ?_; assumption) | go_cell)
      have xq0 := kcb hb (b := w.heap.size + 1 + 1) (o := 0) (v := .int .i64 q.x) (by first | assumption | (refine cellUp ?_; assumption) | go_cell)
      have xq1 := kcb hb (b := w.heap.size + 1 + 1) (o := 1) (v := .int .i64 q.y) (by first | assumption | (refine cellUp ?_; assumption) | go_cell)
      have r0 := kcb hb (b := w.heap.size + 1 + 1 + 1) (o := 0) (v := .int .i64 0) (by first | assumption | (refine cellUp ?_; assumption) | go_cell)
      have r1 := kcb hb (b := w.heap.size + 1 + 1 + 1) (o := 1) (v := .int .i64 0) (by first | assumption | (refine cellUp ?_; assumption) | go_cell)
      have fr := fzb hb (b := w.heap.size + 1 + 1 + 1) (o := 0) (by (try simp only [frozen?_alloc_cells, World.frozen?_setCell]); first | assumption | exact fz_new (by (try simp only [World.size_alloc, World.size_setCell]); omega)) (by (try simp only [World.size_alloc, World.size_setCell]); omega)
      have fs := fzb hb (b := w.heap.size + 1 + 1 + 1) (o := 1) (by (try simp only [frozen?_alloc_cells, World.frozen?_setCell]); first | assumption | exact fz_new (by (try simp only [World.size_alloc, World.size_setCell]); omega)) (by (try simp only [World.size_alloc, World.size_setCell]); omega)
      have B1 : Bl w w1 := Below.trans (by go_grown) (hb.mono (by (try simp only [World.size_alloc, World.size_setCell]); omega))
      have l1 := ltb r1
      have l1_1 := ltb xq1
      have l1_2 := ltb xp1
      have l1_3 := ltb xa1
      have zz1 := B1.size
      clear hb
      rw [Q0.out]
      go_wp2_with fail
      refine (arePl_any _ 2 2 (two p q) _ (pl_two (by go_cell) (by go_cell) (by go_cell) (by go_cell)) (by unfold maxLen; omega)).mono ?_
      rintro q2 w2 ⟨rfl, hb⟩
      have xa0 := kcb hb (b := w.heap.size) (o := 0) (v := .int .i64 a.s) (by first | assumption | (refine cellUp ?_; assumption) | go_cell)
      have xa1 := kcb hb (b := w.heap.size) (o := 1) (v := .int .i64 a.w) (by first | assumption | (refine cellUp ?_; assumption) | go_cell)
      have xp0 := kcb hb (b := w.heap.size + 1) (o := 0) (v := .int .i64 p.x) (by first | assumption | (refine cellUp ?_; assumption) | go_cell)
      have xp1 := kcb hb (b := w.heap.size + 1) (o := 1) (v := .int .i64 p.y) (by first | assumption | (refine cellUp ?_; assumption) | go_cell)
      have xq0 := kcb hb (b := w.heap.size + 1 + 1) (o := 0) (v := .int .i64 q.x) (by first | assumption | (refine cellUp ?_; assumption) | go_cell)
      have xq1 := kcb hb (b := w.heap.size + 1 + 1) (o := 1) (v := .int .i64 q.y) (by first | assumption | (refine cellUp ?_; assumption) | go_cell)
      have r0 := kcb hb (b := w.heap.size + 1 + 1 + 1) (o := 0) (v := .int .i64 0) (by first | assumption | (refine cellUp ?_; assumption) | go_cell)
      have r1 := kcb hb (b := w.heap.size + 1 + 1 + 1) (o := 1) (v := .int .i64 0) (by first | assumption | (refine cellUp ?_; assumption) | go_cell)
      have fr := fzb hb (b := w.heap.size + 1 + 1 + 1) (o := 0) (by (try simp only [frozen?_alloc_cells, World.frozen?_setCell]); first | assumption | exact fz_new (by (try simp only [World.size_alloc, World.size_setCell]); omega)) (by (try simp only [World.size_alloc, World.size_setCell]); omega)
      have fs := fzb hb (b := w.heap.size + 1 + 1 + 1) (o := 1) (by (try simp only [frozen?_alloc_cells, World.frozen?_setCell]); first | assumption | exact fz_new (by (try simp only [World.size_alloc, World.size_setCell]); omega)) (by (try simp only [World.size_alloc, World.size_setCell]); omega)
      have B2 : Bl w w2 := Below.trans (by go_grown) (hb.mono (by (try simp only [World.size_alloc, World.size_setCell]); omega))
      have l2 := ltb r1
      have l2_1 := ltb xq1
      have l2_2 := ltb xp1
      have l2_3 := ltb xa1
      have zz2 := B2.size
      clear hb
      rw [Q1.out]
      go_wp2_with fail
      refine (lagOf_any a p q _ HAA.out HP.out.1 HP.out.2).mono ?_
      rintro q3 w3 ⟨rfl, hb⟩
      have xa0 := kcb hb (b := w.heap.size) (o := 0) (v := .int .i64 a.s) (by first | assumption | (refine cellUp ?_; assumption) | go_cell)
      have xa1 := kcb hb (b := w.heap.size) (o := 1) (v := .int .i64 a.w) (by first | assumption | (refine cellUp ?_; assumption) | go_cell)
      have xp0 := kcb hb (b := w.heap.size + 1) (o := 0) (v := .int .i64 p.x) (by first | assumption | (refine cellUp ?_; assumption) | go_cell)
      have xp1 := kcb hb (b := w.heap.size + 1) (o := 1) (v := .int .i64 p.y) (by first | assumption | (refine cellUp ?_; assumption) | go_cell)
      have xq0 := kcb hb (b := w.heap.size + 1 + 1) (o := 0) (v := .int .i64 q.x) (by first | assumption | (refine cellUp ?_; assumption) | go_cell)
      have xq1 := kcb hb (b := w.heap.size + 1 + 1) (o := 1) (v := .int .i64 q.y) (by first | assumption | (refine cellUp ?_; assumption) | go_cell)
      have r0 := kcb hb (b := w.heap.size + 1 + 1 + 1) (o := 0) (v := .int .i64 0) (by first | assumption | (refine cellUp ?_; assumption) | go_cell)
      have r1 := kcb hb (b := w.heap.size + 1 + 1 + 1) (o := 1) (v := .int .i64 0) (by first | assumption | (refine cellUp ?_; assumption) | go_cell)
      have fr := fzb hb (b := w.heap.size + 1 + 1 + 1) (o := 0) (by (try simp only [frozen?_alloc_cells, World.frozen?_setCell]); first | assumption | exact fz_new (by (try simp only [World.size_alloc, World.size_setCell]); omega)) (by (try simp only [World.size_alloc, World.size_setCell]); omega)
      have fs := fzb hb (b := w.heap.size + 1 + 1 + 1) (o := 1) (by (try simp only [frozen?_alloc_cells, World.frozen?_setCell]); first | assumption | exact fz_new (by (try simp only [World.size_alloc, World.size_setCell]); omega)) (by (try simp only [World.size_alloc, World.size_setCell]); omega)
      have B3 : Bl w w3 := Below.trans (by go_grown) (hb.mono (by (try simp only [World.size_alloc, World.size_setCell]); omega))
      have l3 := ltb r1
      have l3_1 := ltb xq1
      have l3_2 := ltb xp1
      have l3_3 := ltb xa1
      have zz3 := B3.size
      clear hb
      go_wp2_with fail
      exact bodyPost_ret (v := rS (lagR a p q)) (by simp [results, Try.results15, go_sem, HI.out, rS, r0, r1]) rfl ⟨rfl, by go_grown⟩
    · have HI := Lib.hid (show lagR a p q = (0, 0, 7) by rw [lagR, if_pos ha, if_neg hpq])
      clear ha
      have Q1 := Lib.hid (show decide (allP (two p q) 2) = false from decide_eq_false fun h => hpq (allP_two.1 h))
      clear hpq
      go_enter Try.func15, Try.ntmps15
      go_wp2_with fail
      refine (validAir_any a _).mono ?_
      rintro q1 w1 ⟨rfl, hb⟩
      have xa0 := kcb hb (b := w.heap.size) (o := 0) (v := .int .i64 a.s) (by first | assumption | (refine cellUp ?_; assumption) | go_cell)
      have xa1 := kcb hb (b := w.heap.size) (o := 1) (v := .int .i64 a.w) (by first | assumption | (refine cellUp ?_; assumption) | go_cell)
      have xp0 := kcb hb (b := w.heap.size + 1) (o := 0) (v := .int .i64 p.x) (by first | assumption | (refine cellUp ?_; assumption) | go_cell)
      have xp1 := kcb hb (b := w.heap.size + 1) (o := 1) (v := .int .i64 p.y) (by first | assumption | (refine cellUp ?_; assumption) | go_cell)
      have xq0 := kcb hb (b := w.heap.size + 1 + 1) (o := 0) (v := .int .i64 q.x) (by first | assumption | (refine cellUp ?_; assumption) | go_cell)
      have xq1 := kcb hb (b := w.heap.size + 1 + 1) (o := 1) (v := .int .i64 q.y) (by first | assumption | (refine cellUp ?_; assumption) | go_cell)
      have r0 := kcb hb (b := w.heap.size + 1 + 1 + 1) (o := 0) (v := .int .i64 0) (by first | assumption | (refine cellUp ?_; assumption) | go_cell)
      have r1 := kcb hb (b := w.heap.size + 1 + 1 + 1) (o := 1) (v := .int .i64 0) (by first | assumption | (refine cellUp ?_; assumption) | go_cell)
      have fr := fzb hb (b := w.heap.size + 1 + 1 + 1) (o := 0) (by (try simp only [frozen?_alloc_cells, World.frozen?_setCell]); first | assumption | exact fz_new (by (try simp only [World.size_alloc, World.size_setCell]); omega)) (by (try simp only [World.size_alloc, World.size_setCell]); omega)
      have fs := fzb hb (b := w.heap.size + 1 + 1 + 1) (o := 1) (by (try simp only [frozen?_alloc_cells, World.frozen?_setCell]); first | assumption | exact fz_new (by (try simp only [World.size_alloc, World.size_setCell]); omega)) (by (try simp only [World.size_alloc, World.size_setCell]); omega)
      have B1 : Bl w w1 := Below.trans (by go_grown) (hb.mono (by (try simp only [World.size_alloc, World.size_setCell]); omega))
      have l1 := ltb r1
      have l1_1 := ltb xq1
      have l1_2 := ltb xp1
      have l1_3 := ltb xa1
      have zz1 := B1.size
      clear hb
      rw [Q0.out]
      go_wp2_with fail
      refine (arePl_any _ 2 2 (two p q) _ (pl_two (by go_cell) (by go_cell) (by go_cell) (by go_cell)) (by unfold maxLen; omega)).mono ?_
      rintro q2 w2 ⟨rfl, hb⟩
      have xa0 := kcb hb (b := w.heap.size) (o := 0) (v := .int .i64 a.s) (by first | assumption | (refine cellUp ?_; assumption) | go_cell)
      have xa1 := kcb hb (b := w.heap.size) (o := 1) (v := .int .i64 a.w) (by first | assumption | (refine cellUp ?_; assumption) | go_cell)
      have xp0 := kcb hb (b := w.heap.size + 1) (o := 0) (v := .int .i64 p.x) (by first | assumption | (refine cellUp ?_; assumption) | go_cell)
      have xp1 := kcb hb (b := w.heap.size + 1) (o := 1) (v := .int .i64 p.y) (by first | assumption | (refine cellUp ?_; assumption) | go_cell)
      have xq0 := kcb hb (b := w.heap.size + 1 + 1) (o := 0) (v := .int .i64 q.x) (by first | assumption | (refine cellUp ?_; assumption) | go_cell)
      have xq1 := kcb hb (b := w.heap.size + 1 + 1) (o := 1) (v := .int .i64 q.y) (by first | assumption | (refine cellUp ?_; assumption) | go_cell)
      have r0 := kcb hb (b := w.heap.size + 1 + 1 + 1) (o := 0) (v := .int .i64 0) (by first | assumption | (refine cellUp ?_; assumption) | go_cell)
      have r1 := kcb hb (b := w.heap.size + 1 + 1 + 1) (o := 1) (v := .int .i64 0) (by first | assumption | (refine cellUp ?_; assumption) | go_cell)
      have fr := fzb hb (b := w.heap.size + 1 + 1 + 1) (o := 0) (by (try simp only [frozen?_alloc_cells, World.frozen?_setCell]); first | assumption | exact fz_new (by (try simp only [World.size_alloc, World.size_setCell]); omega)) (by (try simp only [World.size_alloc, World.size_setCell]); omega)
      have fs := fzb hb (b := w.heap.size + 1 + 1 + 1) (o := 1) (by (try simp only [frozen?_alloc_cells, World.frozen?_setCell]); first | assumption | exact fz_new (by (try simp only [World.size_alloc, World.size_setCell]); omega)) (by (try simp only [World.size_alloc, World.size_setCell]); omega)
      have B2 : Bl w w2 := Below.trans (by go_grown) (hb.mono (by (try simp only [World.size_alloc, World.size_setCell]); omega))
      have l2 := ltb r1
      have l2_1 := ltb xq1
      have l2_2 := ltb xp1
      have l2_3 := ltb xa1
      have zz2 := B2.size
      clear hb
      rw [Q1.out]
      go_wp2_with fail
      exact bodyPost_ret (v := rS (lagR a p q)) (by simp [results, Try.results15, go_sem, HI.out, rS, r0, r1]) rfl ⟨rfl, by go_grown⟩
  · have Q0 := Lib.hid (show decide (VA a) = false from decide_eq_false ha)
    have HI := Lib.hid (show lagR a p q = (0, 0, 1) by rw [lagR, if_neg ha])
    clear ha
    go_enter Try.func15, Try.ntmps15
    go_wp2_with fail
    refine (validAir_any a _).mono ?_
    rintro q1 w1 ⟨rfl, hb⟩
    have xa0 := kcb hb (b := w.heap.size) (o := 0) (v := .int .i64 a.s) (by first | assumption | (refine cellUp ?_; assumption) | go_cell)
    have xa1 := kcb hb (b := w.heap.size) (o := 1) (v := .int .i64 a.w) (by first | assumption | (refine cellUp ?_; assumption) | go_cell)
    have xp0 := kcb hb (b := w.heap.size + 1) (o := 0) (v := .int .i64 p.x) (by first | assumption | (refine cellUp ?_; assumption) | go_cell)
    have xp1 := kcb hb (b := w.heap.size + 1) (o := 1) (v := .int .i64 p.y) (by first | assumption | (refine cellUp ?_; assumption) | go_cell)
    have xq0 := kcb hb (b := w.heap.size + 1 + 1) (o := 0) (v := .int .i64 q.x) (by first | assumption | (refine cellUp ?_; assumption) | go_cell)
    have xq1 := kcb hb (b := w.heap.size + 1 + 1) (o := 1) (v := .int .i64 q.y) (by first | assumption | (refine cellUp ?_; assumption) | go_cell)
    have r0 := kcb hb (b := w.heap.size + 1 + 1 + 1) (o := 0) (v := .int .i64 0) (by first | assumption | (refine cellUp ?_; assumption) | go_cell)
    have r1 := kcb hb (b := w.heap.size + 1 + 1 + 1) (o := 1) (v := .int .i64 0) (by first | assumption | (refine cellUp ?_; assumption) | go_cell)
    have fr := fzb hb (b := w.heap.size + 1 + 1 + 1) (o := 0) (by (try simp only [frozen?_alloc_cells, World.frozen?_setCell]); first | assumption | exact fz_new (by (try simp only [World.size_alloc, World.size_setCell]); omega)) (by (try simp only [World.size_alloc, World.size_setCell]); omega)
    have fs := fzb hb (b := w.heap.size + 1 + 1 + 1) (o := 1) (by (try simp only [frozen?_alloc_cells, World.frozen?_setCell]); first | assumption | exact fz_new (by (try simp only [World.size_alloc, World.size_setCell]); omega)) (by (try simp only [World.size_alloc, World.size_setCell]); omega)
    have B1 : Bl w w1 := Below.trans (by go_grown) (hb.mono (by (try simp only [World.size_alloc, World.size_setCell]); omega))
    have l1 := ltb r1
    have l1_1 := ltb xq1
    have l1_2 := ltb xp1
    have l1_3 := ltb xa1
    have zz1 := B1.size
    clear hb
    rw [Q0.out]
    go_wp2_with fail
    exact bodyPost_ret (v := rS (lagR a p q)) (by simp [results, Try.results15, go_sem, HI.out, rS, r0, r1]) rfl ⟨rfl, by go_grown⟩

set_option maxRecDepth 100000 in
set_option maxHeartbeats 1600000 in
theorem awakeG_any (w : World) : Calls Try.prog 7 #[] w fun e w' => e = .returned (.bool true) ∧ Bl w w' := by
  go_enter Try.func7, Try.ntmps7
  go_wp2_with fail
  refine (Lag_any ⟨340000, 0⟩ ⟨0, 0⟩ ⟨3000, 1600⟩ _).mono ?_
  rintro e1 w1 ⟨rfl, B1⟩
  rw [ex_lag]
  unfold rS
  have z1 := B1.size
  go_wp2_with fail
  refine (speed_any 15000 _).mono ?_
  rintro e2 w2 ⟨rfl, rfl⟩
  rw [ex_speed]
  unfold r2
  go_wp2_with fail
  go_ret
  exact ⟨rfl, by go_grown⟩
end Go.Proofs.Ythemoomfbbccjaa
