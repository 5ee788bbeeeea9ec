/-
  The reference's day of a date and date of a day.
-/
import Derived.Test.YtiljfhkkinddeaaDoorT
import Derived.Test.YtiljfhkkinddeaaDoorB
namespace Go.Proofs.YtiljfhkkinddeaaDoor
open Go.RowKit Cal
set_option linter.unusedSimpArgs false
set_option linter.unusedVariables false

set_option maxHeartbeats 1600000 in
theorem rdayOf_ok (y m d : Int) (w : World) (hv : vD y m d = true) :
    Calls Tryd.prog 45 #[.agg #[.int .i64 y, .int .i64 m, .int .i64 d]] w fun e w' => e = .returned (.tuple #[.int .i64 (ny y + cum y m + d - 1), .int .i64 0]) ∧ Bl w w' := by
  obtain ⟨y1, y2, m1, m2, d1, d2⟩ := vD_iff.1 hv
  have mb := mon_bd y m
  obtain ⟨mb1, mb2⟩ := mb
  have Hv := Lib.hid hv
  clear hv
  go_enter Tryd.func45, Tryd.ntmps45
  go_wp2_with fail
  refine (rvalid_any y m d _).mono ?_
  rintro e w1 ⟨rfl, hb⟩
  obtain ⟨u0, u1, u2, ul⟩ := kept3 (b := w.heap.size) (x := .int .i64 y) (y := .int .i64 m) (z := .int .i64 d) hb (by go_cell) (by go_cell) (by go_cell) (by (try simp only [World.size_alloc]); omega)
  have B1 : Bl w w1 := Bl.tr (by go_grown) hb
  clear hb
  rw [Hv.out]
  go_wp2
  go_loop [4, 5] (fun n v => ∃ k : Int, v = .int .i64 k ∧ 1700 ≤ k ∧ k ≤ y ∧ n = .int .i64 (d - 1 + ny k)) (fun _ v => (y - intOf v).toNat)
  case atStart => exact ⟨1700, rfl, by omega, by omega, by rw [ny_zero]; simp⟩
  case round =>
    obtain ⟨k, rfl, k1, k2, rfl⟩ := hrel
    by_cases hk : k < y
    · have s := ny_succ k k1 (by omega)
      have nb := ny_bd k k1 (by omega)
      have yb := lp_01 k
      have yy : yr k = 365 + lp k := rfl
      have S := Lib.hid s
      have b1 : 0 ≤ yr k := by omega
      have b2 : yr k ≤ 366 := by omega
      have b3 : 0 ≤ ny k := by omega
      have b4 : ny k ≤ 182986 := by omega
      clear s nb yb yy
      go_wp2_with (go_at_call 75; refine (ryear_any _ _).mono ?_; rintro e w' ⟨rfl, rfl⟩)
      go_round
      case rel => exact ⟨k + 1, rfl, by omega, by omega, by rw [S.out]; congr 1; omega⟩
      case measure => simp [intOf]; omega
    · obtain rfl : k = y := by omega
      have nb := ny_bd k k1 (by omega)
      obtain ⟨nb1, nb2, -, -⟩ := nb
      go_wp2
      go_loop [4, 6] (fun n v => ∃ j : Int, v = .int .i64 j ∧ 1 ≤ j ∧ j ≤ m ∧ n = .int .i64 (d - 1 + ny k + cum k j)) (fun _ v => (m - intOf v).toNat)
      case atStart => exact ⟨1, rfl, by omega, by omega, by rw [cum_one]; simp⟩
      case round =>
        obtain ⟨j, rfl, j1, j2, rfl⟩ := hrel
        have cb := cum_bd k j
        obtain ⟨cb1, cb2⟩ := cb
        by_cases hj : j < m
        · have s := cum_succ k j j1 (by omega)
          have S := Lib.hid s
          have b := mon_bd k j
          obtain ⟨b1, b2⟩ := b
          clear s
          go_wp2_with (go_at_call 76; refine (rmonth_any _ _ _ (by omega) (by omega)).mono ?_; rintro e w' ⟨rfl, rfl⟩)
          go_round
          case rel => exact ⟨j + 1, rfl, by omega, by omega, by rw [S.out]; congr 1; omega⟩
          case measure => simp [intOf]; omega
        · obtain rfl : j = m := by omega
          go_wp2
          go_ret2
          exact ⟨by rw [show ny k + cum k j + d - 1 = d - 1 + ny k + cum k j by omega]; rfl, by go_grown⟩

set_option maxHeartbeats 800000 in
theorem rdayOf_bad (y m d : Int) (w : World) (hv : vD y m d = false) :
    Calls Tryd.prog 45 #[.agg #[.int .i64 y, .int .i64 m, .int .i64 d]] w fun e w' => e = .returned (.tuple #[.int .i64 0, .int .i64 1]) ∧ Bl w w' := by
  have Hv := Lib.hid hv
  clear hv
  go_enter Tryd.func45, Tryd.ntmps45
  go_wp2_with fail
  refine (rvalid_any y m d _).mono ?_
  rintro e w1 ⟨rfl, hb⟩
  have B1 : Bl w w1 := Bl.tr (by go_grown) hb
  clear hb
  rw [Hv.out]
  go_wp2
  go_ret2
  exact ⟨rfl, by go_grown⟩

set_option maxHeartbeats 800000 in
theorem rdateOf_bad (t : Int) (w : World) (h : ¬ (0 ≤ t ∧ t ≤ 182985)) :
    Calls Tryd.prog 47 #[.int .i64 t] w fun e w' => e = .returned (rD 0 0 0 7) ∧ Bl w w' := by
  have h' : t < 0 ∨ 182985 < t := by omega
  clear h
  go_enter Tryd.func47, Tryd.ntmps47
  go_wp2_with (go_at_call 61; refine (within_f _ _ _ _ h').mono ?_; rintro e w' ⟨rfl, rfl⟩)
  go_returns
  exact ⟨rfl, by go_grown⟩

set_option maxHeartbeats 4000000 in
theorem rdateOf_ok (t : Int) (w : World) (t1 : 0 ≤ t) (t2 : t ≤ 182985) :
    Calls Tryd.prog 47 #[.int .i64 t] w fun e w' => (∃ y m d, IsDate t y m d ∧ e = .returned (rD y m d 0)) ∧ Bl w w' := by
  have hl := ny_last
  have HL := Lib.hid hl
  clear hl
  go_enter Tryd.func47, Tryd.ntmps47
  go_wp2_with (go_at_call 61; refine (within_t _ _ _ _ t1 t2).mono ?_; rintro e w' ⟨rfl, rfl⟩)
  go_loopw [0] (fun v wr => ∃ k : Int, v = .int .i64 (t - ny k) ∧ 1700 ≤ k ∧ k ≤ 2200 ∧ Hid (ny k ≤ t) ∧ (wr.cell? ⟨w.heap.size + 1, 0, none⟩ = some (.int .i64 k) ∧ wr.frozen? ⟨w.heap.size + 1, 0, none⟩ = false) ∧ (wr.cell? ⟨w.heap.size + 1, 1, none⟩ = some (.int .i64 1) ∧ wr.frozen? ⟨w.heap.size + 1, 1, none⟩ = false) ∧ (wr.cell? ⟨w.heap.size + 1, 2, none⟩ = some (.int .i64 0) ∧ wr.frozen? ⟨w.heap.size + 1, 2, none⟩ = false) ∧ (wr.cell? ⟨w.heap.size, 0, none⟩ = some (.int .i64 0) ∧ wr.frozen? ⟨w.heap.size, 0, none⟩ = false) ∧ (wr.cell? ⟨w.heap.size, 1, none⟩ = some (.int .i64 0) ∧ wr.frozen? ⟨w.heap.size, 1, none⟩ = false) ∧ (wr.cell? ⟨w.heap.size, 2, none⟩ = some (.int .i64 0) ∧ wr.frozen? ⟨w.heap.size, 2, none⟩ = false) ∧ Bl w wr) (fun v _ => (intOf v).toNat)
  case atStart => exact ⟨1700, by rw [ny_zero]; simp, by omega, by omega, by show ny 1700 ≤ t; rw [ny_zero]; exact t1, ⟨⟨by go_cell, by simp only [frozen?_alloc_cells, World.frozen?_setCell]; exact frozen_beyond (by omega)⟩, ⟨by go_cell, by simp only [frozen?_alloc_cells, World.frozen?_setCell]; exact frozen_beyond (by omega)⟩, ⟨by go_cell, by simp only [frozen?_alloc_cells, World.frozen?_setCell]; exact frozen_beyond (by omega)⟩, ⟨by go_cell, by simp only [frozen?_alloc_cells, World.frozen?_setCell]; exact frozen_beyond (by omega)⟩, ⟨by go_cell, by simp only [frozen?_alloc_cells, World.frozen?_setCell]; exact frozen_beyond (by omega)⟩, ⟨by go_cell, by simp only [frozen?_alloc_cells, World.frozen?_setCell]; exact frozen_beyond (by omega)⟩, by go_grown⟩⟩
  case round =>
    obtain ⟨k, rfl, k1, k2, k3, ⟨⟨q0, p0⟩, ⟨q1, p1⟩, ⟨q2, p2⟩, ⟨r0, g0⟩, ⟨r1, g1⟩, ⟨r2, g2⟩, B⟩⟩ := hrel
    have nb := ny_bd k k1 (by omega)
    obtain ⟨nb1, nb2, -, -⟩ := nb
    have yb := lp_01 k
    have yy : yr k = 365 + lp k := rfl
    have b1 : 365 ≤ yr k := by omega
    have b2 : yr k ≤ 366 := by omega
    clear yb yy
    have k3' := k3.out
    by_cases hk : yr k ≤ t - ny k
    · have s := ny_succ k k1 k2
      have k4 : k + 1 ≤ 2200 := by
        by_cases e : k = 2200
        · subst e; have := HL.out; rw [show (2200 : Int) + 1 = 2201 from rfl] at s; omega
        · omega
      have S := Lib.hid s
      have K : Hid (ny (k + 1) ≤ t) := by show ny (k + 1) ≤ t; omega
      clear s
      go_wp2_with (go_at_call 75; refine (ryear_any _ _).mono ?_; rintro e w' ⟨rfl, rfl⟩)
      go_roundw
      case rel => exact ⟨k + 1, by rw [S.out]; congr 1; omega, by omega, by omega, K, ⟨⟨by go_cell, by (try simp only [World.frozen?_setCell]); assumption⟩, ⟨by go_cell, by (try simp only [World.frozen?_setCell]); assumption⟩, ⟨by go_cell, by (try simp only [World.frozen?_setCell]); assumption⟩, ⟨by go_cell, by (try simp only [World.frozen?_setCell]); assumption⟩, ⟨by go_cell, by (try simp only [World.frozen?_setCell]); assumption⟩, ⟨by go_cell, by (try simp only [World.frozen?_setCell]); assumption⟩, by go_grown⟩⟩
      case measure => simp [intOf]; omega
    · have K : Hid (t < ny (k + 1)) := by show t < ny (k + 1); rw [ny_succ k k1 k2]; omega
      go_wp2_with (go_at_call 75; refine (ryear_any _ _).mono ?_; rintro e w' ⟨rfl, rfl⟩)
      obtain ⟨wo, rfl⟩ : ∃ wo : World, wo = wr := ⟨_, rfl⟩
      go_loopw [0] (fun v wr => ∃ j : Int, v = .int .i64 (t - ny k - cum k j) ∧ 1 ≤ j ∧ j ≤ 12 ∧ Hid (ny k + cum k j ≤ t) ∧ (wr.cell? ⟨w.heap.size + 1, 0, none⟩ = some (.int .i64 k) ∧ wr.frozen? ⟨w.heap.size + 1, 0, none⟩ = false) ∧ (wr.cell? ⟨w.heap.size + 1, 1, none⟩ = some (.int .i64 j) ∧ wr.frozen? ⟨w.heap.size + 1, 1, none⟩ = false) ∧ (wr.cell? ⟨w.heap.size + 1, 2, none⟩ = some (.int .i64 0) ∧ wr.frozen? ⟨w.heap.size + 1, 2, none⟩ = false) ∧ (wr.cell? ⟨w.heap.size, 0, none⟩ = some (.int .i64 0) ∧ wr.frozen? ⟨w.heap.size, 0, none⟩ = false) ∧ (wr.cell? ⟨w.heap.size, 1, none⟩ = some (.int .i64 0) ∧ wr.frozen? ⟨w.heap.size, 1, none⟩ = false) ∧ (wr.cell? ⟨w.heap.size, 2, none⟩ = some (.int .i64 0) ∧ wr.frozen? ⟨w.heap.size, 2, none⟩ = false) ∧ Bl w wr) (fun v _ => (intOf v).toNat)
      case atStart => exact ⟨1, by rw [cum_one]; simp, by omega, by omega, by show ny k + cum k 1 ≤ t; rw [cum_one]; omega, ⟨⟨q0, p0⟩, ⟨q1, p1⟩, ⟨q2, p2⟩, ⟨r0, g0⟩, ⟨r1, g1⟩, ⟨r2, g2⟩, B⟩⟩
      case round =>
        clear q0 p0 q1 p1 q2 p2 r0 g0 r1 g1 r2 g2 B
        obtain ⟨j, rfl, j1, j2, j3, ⟨⟨q0, p0⟩, ⟨q1, p1⟩, ⟨q2, p2⟩, ⟨r0, g0⟩, ⟨r1, g1⟩, ⟨r2, g2⟩, B⟩⟩ := hrel
        have cb := cum_bd k j
        obtain ⟨cb1, cb2⟩ := cb
        have mb := mon_bd k j
        obtain ⟨mb1, mb2⟩ := mb
        have j3' := j3.out
        by_cases hj : mon k j ≤ t - ny k - cum k j
        · have s := cum_succ k j j1 j2
          have j4 : j + 1 ≤ 12 := by
            by_cases e : j = 12
            · subst e
              have := K.out
              have := ny_succ k k1 k2
              rw [show (12 : Int) + 1 = 13 from rfl, cum_last] at s
              omega
            · omega
          have S := Lib.hid s
          have J : Hid (ny k + cum k (j + 1) ≤ t) := by show ny k + cum k (j + 1) ≤ t; omega
          clear s
          go_wp2_with (go_at_call 76; refine (rmonth_any _ _ _ j1 j2).mono ?_; rintro e w' ⟨rfl, rfl⟩)
          go_roundw
          case rel => exact ⟨j + 1, by rw [S.out]; congr 1; omega, by omega, by omega, J, ⟨⟨by go_cell, by (try simp only [World.frozen?_setCell]); assumption⟩, ⟨by go_cell, by (try simp only [World.frozen?_setCell]); assumption⟩, ⟨by go_cell, by (try simp only [World.frozen?_setCell]); assumption⟩, ⟨by go_cell, by (try simp only [World.frozen?_setCell]); assumption⟩, ⟨by go_cell, by (try simp only [World.frozen?_setCell]); assumption⟩, ⟨by go_cell, by (try simp only [World.frozen?_setCell]); assumption⟩, by go_grown⟩⟩
          case measure => simp [intOf]; omega
        · have D : Hid (IsDate t k j (t - ny k - cum k j + 1)) := ⟨k1, k2, j1, j2, by omega, by omega, by omega⟩
          go_wp2_with (go_at_call 76; refine (rmonth_any _ _ _ j1 j2).mono ?_; rintro e w' ⟨rfl, rfl⟩)
          refine bodyPost_ret (v := rD k j (t - ny k - cum k j + 1) 0) (by simp [results, Tryd.results47, go_sem, rD, r0, r1, r2]) rfl ⟨⟨k, j, _, D.out, rfl⟩, by go_grown⟩
end Go.Proofs.YtiljfhkkinddeaaDoor
