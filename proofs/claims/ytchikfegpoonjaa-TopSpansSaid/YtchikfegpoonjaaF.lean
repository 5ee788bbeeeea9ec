/-
  Contracts of the fractions: lowest terms.
-/
import Derived.Test.YtchikfegpoonjaaE
import Derived.Test.YtchikfegpoonjaaD
import Derived.RegionTactic
import Derived.ChangeAlike
import Derived.BigRegion
namespace Go.Proofs.Ytchikfegpoonjaa
open Go.RowKit
set_option linter.unusedSimpArgs false

/-- A fraction and an error as a result. -/
def rR (r : Int × Int × Int) : Value := .tuple #[.agg #[.int .i64 r.1, .int .i64 r.2.1], .int .i64 r.2.2]
def lowN (n d : Int) : Int := (if d < 0 then -n else n) / (Int.gcd n d : Int)
def lowD (n d : Int) : Int := (if d < 0 then -d else d) / (Int.gcd n d : Int)
def lowF (n d : Int) : Int × Int × Int := if 1000000000 < lowD n d ∨ lowN n d < -1000000000 ∨ 1000000000 < lowN n d then (0, 0, 4) else (lowN n d, lowD n d, 0)


set_option maxHeartbeats 800000 in
theorem divide_any (b : Nat) (n d k : Int) (w : World) (c0 : w.cell? ⟨b, 0, none⟩ = some (.int .i64 n)) (c1 : w.cell? ⟨b, 1, none⟩ = some (.int .i64 d)) (f0 : w.frozen? ⟨b, 0, none⟩ = false) (f1 : w.frozen? ⟨b, 1, none⟩ = false) (hk : k ≠ 0)
    (hn : -2000000000000000000 ≤ n.tdiv k) (hn' : n.tdiv k ≤ 2000000000000000000) (hd : -2000000000000000000 ≤ d.tdiv k) (hd' : d.tdiv k ≤ 2000000000000000000) :
    Calls Try.prog 38 #[.pointer (some ⟨b, 0, none⟩), .int .i64 k] w fun e w' => e = .returned (.tuple #[]) ∧ (w.setCell ⟨b, 0, none⟩ (.int .i64 (n.tdiv k))).setCell ⟨b, 1, none⟩ (.int .i64 (d.tdiv k)) = w' := by
  go_enter Try.func38, Try.ntmps38
  go_wp2
  go_end0
  exact ⟨rfl, rfl⟩

theorem tdiv_dvd {x g : Int} (h : g ∣ x) : x.tdiv g = x / g := Int.tdiv_eq_ediv_of_dvd h
theorem div_small {x g : Int} (hg : 0 < g) (h1 : -2000000000000000000 ≤ x) (h2 : x ≤ 2000000000000000000) : -2000000000000000000 ≤ x / g ∧ x / g ≤ 2000000000000000000 := by
  constructor
  · refine Int.le_trans ?_ (Int.ediv_le_ediv hg h1)
    exact Int.le_ediv_of_mul_le hg (by
      have : (2000000000000000000 : Int) * 1 ≤ 2000000000000000000 * g := Int.mul_le_mul_of_nonneg_left (by omega) (by omega)
      omega)
  · refine Int.le_trans (Int.ediv_le_ediv hg h2) ?_
    exact Int.ediv_le_of_le_mul hg (by
      have : (2000000000000000000 : Int) * 1 ≤ 2000000000000000000 * g := Int.mul_le_mul_of_nonneg_left (by omega) (by omega)
      omega)
theorem gcd_pos' {n d : Int} (h0 : d ≠ 0) : (0 : Int) < Int.gcd n d := by
  have : 0 < Int.gcd n d := Int.gcd_pos_of_ne_zero_right _ h0
  omega

theorem rR_eq {a b c : Int} {r : Int × Int × Int} (h1 : r.1 = a) (h2 : r.2.1 = b) (h3 : r.2.2 = c) : Ending.returned (.tuple #[.agg #[.int .i64 a, .int .i64 b], .int .i64 c]) = .returned (rR r) := by
  subst h1 h2 h3; rfl



set_option maxHeartbeats 800000 in
theorem lowest_any (n d : Int) (w : World) (hn : -2000000000000000000 ≤ n) (hn' : n ≤ 2000000000000000000) (hd : -2000000000000000000 ≤ d) (hd' : d ≤ 2000000000000000000) (h0 : d ≠ 0) :
    Calls Try.prog 28 #[.int .i64 n, .int .i64 d] w fun e w' => e = .returned (rR (lowF n d)) ∧ Bl w w' := by
  have hg := gcd_pos' (n := n) h0
  by_cases h1 : d < 0
  · have e1 : (-n).tdiv (Int.gcd n d : Int) = lowN n d := by rw [lowN, if_pos h1]; exact tdiv_dvd ((Int.dvd_neg).2 (Int.gcd_dvd_left _ _))
    have e2 : (-d).tdiv (Int.gcd n d : Int) = lowD n d := by rw [lowD, if_pos h1]; exact tdiv_dvd ((Int.dvd_neg).2 (Int.gcd_dvd_right _ _))
    have b := div_small (x := (-n)) hg (by omega) (by omega)
    have b' := div_small (x := (-d)) hg (by omega) (by omega)
    rw [show (-n) / (Int.gcd n d : Int) = lowN n d by rw [lowN, if_pos h1]] at b
    rw [show (-d) / (Int.gcd n d : Int) = lowD n d by rw [lowD, if_pos h1]] at b'
    obtain ⟨b1, b2⟩ := b
    obtain ⟨b3, b4⟩ := b'
    have E1 := Lib.hid e1
    have E2 := Lib.hid e2
    clear e1 e2
    go_enter Try.func28, Try.ntmps28
    go_wp2_with fail
    refine (divide_any (w.heap.size + 1) n d (-1) _ (by go_cell) (by go_cell) (by simp) (by simp) (by omega) (by rw [Int.tdiv_neg, Int.tdiv_one]; omega) (by rw [Int.tdiv_neg, Int.tdiv_one]; omega) (by rw [Int.tdiv_neg, Int.tdiv_one]; omega) (by rw [Int.tdiv_neg, Int.tdiv_one]; omega)).mono ?_
    rintro e w1 ⟨rfl, rfl⟩
    rw [Int.tdiv_neg, Int.tdiv_one, Int.tdiv_neg, Int.tdiv_one]
    go_wp2_with fail
    refine (cd_any _ _ _ (by omega) (by omega) (by omega) (by omega)).mono ?_
    rintro e w1 ⟨rfl, hb⟩
    obtain ⟨q0, q1, qf, qg, ql⟩ := kept2 (b := w.heap.size + 1) (x := .int .i64 (-n)) (y := .int .i64 (-d)) hb ⟨by go_cell, by go_cell, (by (try simp only [frozen?_alloc_cells, World.frozen?_setCell]); first | assumption | exact frozen_beyond (by omega)), (by (try simp only [frozen?_alloc_cells, World.frozen?_setCell]); first | assumption | exact frozen_beyond (by omega)), (by (try simp only [World.size_alloc, World.size_setCell]); omega)⟩
    obtain ⟨r0, r1, rf, rg, rl⟩ := kept2 (b := w.heap.size) (x := .int .i64 0) (y := .int .i64 0) hb ⟨by go_cell, by go_cell, (by (try simp only [frozen?_alloc_cells, World.frozen?_setCell]); first | assumption | exact frozen_beyond (by omega)), (by (try simp only [frozen?_alloc_cells, World.frozen?_setCell]); first | assumption | exact frozen_beyond (by omega)), (by (try simp only [World.size_alloc, World.size_setCell]); omega)⟩
    have B1 : Bl w w1 := Bl.tr (by go_grown) hb
    clear hb
    go_wp2_with fail
    refine (divide_any (w.heap.size + 1) (-n) (-d) _ _ q0 q1 qf qg (by omega) (by rw [E1.out]; omega) (by rw [E1.out]; omega) (by rw [E2.out]; omega) (by rw [E2.out]; omega)).mono ?_
    rintro e w1 ⟨rfl, rfl⟩
    rw [E1.out, E2.out]
    have F : Hid (lowF n d = if 1000000000 < lowD n d ∨ lowN n d < -1000000000 ∨ 1000000000 < lowN n d then (0, 0, 4) else (lowN n d, lowD n d, 0)) := rfl
    generalize lowN n d = N at *
    generalize lowD n d = D at *
    clear E1 E2 b1 b2 b3 b4 hg
    go_wp2
    all_goals (try (go_region; all_goals go_wp2))
    all_goals (refine bodyPost_ret (by simp [results, Try.results28, go_sem, r0, r1]; try rfl) rfl ⟨?_, by go_grown⟩)
    all_goals (rw [F.out]; refine rR_eq ?_ ?_ ?_ <;> ((repeat' split) <;> (try simp) <;> omega))
  · have e1 : n.tdiv (Int.gcd n d : Int) = lowN n d := by rw [lowN, if_neg h1]; exact tdiv_dvd (Int.gcd_dvd_left _ _)
    have e2 : d.tdiv (Int.gcd n d : Int) = lowD n d := by rw [lowD, if_neg h1]; exact tdiv_dvd (Int.gcd_dvd_right _ _)
    have b := div_small (x := n) hg (by omega) (by omega)
    have b' := div_small (x := d) hg (by omega) (by omega)
    rw [show n / (Int.gcd n d : Int) = lowN n d by rw [lowN, if_neg h1]] at b
    rw [show d / (Int.gcd n d : Int) = lowD n d by rw [lowD, if_neg h1]] at b'
    obtain ⟨b1, b2⟩ := b
    obtain ⟨b3, b4⟩ := b'
    have E1 := Lib.hid e1
    have E2 := Lib.hid e2
    clear e1 e2
    go_enter Try.func28, Try.ntmps28
    go_wp2_with fail
    refine (cd_any _ _ _ (by omega) (by omega) (by omega) (by omega)).mono ?_
    rintro e w1 ⟨rfl, hb⟩
    obtain ⟨q0, q1, qf, qg, ql⟩ := kept2 (b := w.heap.size + 1) (x := .int .i64 n) (y := .int .i64 d) hb ⟨by go_cell, by go_cell, (by (try simp only [frozen?_alloc_cells, World.frozen?_setCell]); first | assumption | exact frozen_beyond (by omega)), (by (try simp only [frozen?_alloc_cells, World.frozen?_setCell]); first | assumption | exact frozen_beyond (by omega)), (by (try simp only [World.size_alloc, World.size_setCell]); omega)⟩
    obtain ⟨r0, r1, rf, rg, rl⟩ := kept2 (b := w.heap.size) (x := .int .i64 0) (y := .int .i64 0) hb ⟨by go_cell, by go_cell, (by (try simp only [frozen?_alloc_cells, World.frozen?_setCell]); first | assumption | exact frozen_beyond (by omega)), (by (try simp only [frozen?_alloc_cells, World.frozen?_setCell]); first | assumption | exact frozen_beyond (by omega)), (by (try simp only [World.size_alloc, World.size_setCell]); omega)⟩
    have B1 : Bl w w1 := Bl.tr (by go_grown) hb
    clear hb
    go_wp2_with fail
    refine (divide_any (w.heap.size + 1) n d _ _ q0 q1 qf qg (by omega) (by rw [E1.out]; omega) (by rw [E1.out]; omega) (by rw [E2.out]; omega) (by rw [E2.out]; omega)).mono ?_
    rintro e w1 ⟨rfl, rfl⟩
    rw [E1.out, E2.out]
    have F : Hid (lowF n d = if 1000000000 < lowD n d ∨ lowN n d < -1000000000 ∨ 1000000000 < lowN n d then (0, 0, 4) else (lowN n d, lowD n d, 0)) := rfl
    generalize lowN n d = N at *
    generalize lowD n d = D at *
    clear E1 E2 b1 b2 b3 b4 hg
    go_wp2
    all_goals (try (go_region; all_goals go_wp2))
    all_goals (refine bodyPost_ret (by simp [results, Try.results28, go_sem, r0, r1]; try rfl) rfl ⟨?_, by go_grown⟩)
    all_goals (rw [F.out]; refine rR_eq ?_ ?_ ?_ <;> ((repeat' split) <;> (try simp) <;> omega))
end Go.Proofs.Ytchikfegpoonjaa
