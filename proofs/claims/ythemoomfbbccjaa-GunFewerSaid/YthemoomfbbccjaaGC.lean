/-
  Contracts of package gun and of its reference: roots, distances, lags.
-/
import Derived.Test.YthemoomfbbccjaaGB
import Derived.WalkMore
namespace Go.Proofs.Ythemoomfbbccjaa
open Go.RowKit
set_option linter.unusedSimpArgs false
set_option linter.unusedVariables false

theorem mid_bd {x y : Int} (h0 : 0 ≤ x) (h : x < y) : (x + y).tdiv 2 = (x + y) / 2 ∧ x ≤ (x + y) / 2 ∧ (x + y) / 2 < y := by
  rw [Int.tdiv_eq_ediv_of_nonneg (by omega)]
  omega
theorem sq_bd {m : Int} (h0 : 0 ≤ m) (h1 : m ≤ 1000000000) : 0 ≤ m * m ∧ m * m ≤ 1000000000000000000 := by
  have a := sq_nonneg m
  have b := sq_le h0 h1
  omega
theorem rt_here {x y n : Int} (h0 : 0 ≤ x) (h1 : x < y) (hy : y ≤ x + 1) (l : x * x ≤ n) (r : n < y * y) : x = rt n := by
  obtain rfl : y = x + 1 := by omega
  exact (rt_uniq h0 l r).symm

set_option maxHeartbeats 1600000 in
theorem rootG_any (n : Int) (w : World) (hn : 0 ≤ n) (hn' : n ≤ 1000000000000000000) :
    Calls Try.prog 59 #[.int .i64 n] w fun e w' => e = .returned (.int .i64 (rt n)) ∧ Bl w w' := by
  go_enter Try.func59, Try.ntmps59
  go_wp2_with fail
  go_step3
  go_wp2_with fail
  go_step3
  go_wp2_with fail
  go_loopw [3, 4] (fun u v wr => ∃ x y : Int, u = .int .i64 x ∧ v = .int .i64 y ∧ 0 ≤ x ∧ x < y ∧ y ≤ 1000000001 ∧ Hid (x * x ≤ n) ∧ Hid (n < y * y) ∧ Bl w wr) (fun u v _ => (RowKit.intOf v - RowKit.intOf u).toNat)
  case atStart => exact ⟨0, 1000000001, rfl, rfl, by omega, by omega, by omega, Lib.hid (by omega), Lib.hid (by omega), Bl.rf _⟩
  case round =>
    obtain ⟨x, y, rfl, rfl, x0, xy, y1, L, R, B⟩ := hrel
    obtain ⟨e1, m1, m2⟩ := mid_bd x0 xy
    obtain ⟨m, hm⟩ : ∃ m, m = (x + y) / 2 := ⟨_, rfl⟩
    rw [← hm] at e1 m1 m2
    by_cases q : m = x
    · have HQ := Lib.hid (show x = rt n from rt_here x0 xy (by omega) L.out R.out)
      clear hm
      obtain rfl := q
      go_wp2_with fail
      rw [Exit.noGoto_ret]
      go_ret
      exact ⟨ret_int HQ.out, by go_grown⟩
    · have q' : (m == x) = false := by simpa using q
      obtain ⟨s1, s2⟩ := sq_bd (m := m) (by omega) (by omega)
      obtain ⟨s, hs⟩ : ∃ s, m * m = s := ⟨_, rfl⟩
      rw [hs] at s1 s2
      have HS := Lib.hid hs
      clear hm
      by_cases q2 : s ≤ n
      · have L' : Hid (m * m ≤ n) := Lib.hid (by rw [HS.out]; exact q2)
        go_wp2_with fail
        go_roundw
        case rel => exact ⟨m, y, by go_num, by go_num, by omega, m2, y1, L', R, by go_grown⟩
        case measure => simp [RowKit.intOf]; omega
      · have R' : Hid (n < m * m) := Lib.hid (by rw [HS.out]; omega)
        go_wp2_with fail
        go_roundw
        case rel => exact ⟨x, m, by go_num, by go_num, by omega, by omega, by omega, L, R', by go_grown⟩
        case measure => simp [RowKit.intOf]; omega

set_option maxHeartbeats 1600000 in
theorem rrootG_any (n : Int) (w : World) (hn : 0 ≤ n) (hn' : n ≤ 1000000000000000000) :
    Calls Try.prog 57 #[.int .i64 n] w fun e w' => e = .returned (.int .i64 (rt n)) ∧ Bl w w' := by
  go_enter Try.func57, Try.ntmps57
  go_wp2_with fail
  go_loopw [3, 4] (fun u v wr => ∃ x y : Int, u = .int .i64 x ∧ v = .int .i64 y ∧ 0 ≤ x ∧ x < y ∧ y ≤ 1000000001 ∧ Hid (x * x ≤ n) ∧ Hid (n < y * y) ∧ Bl w wr) (fun u v _ => (RowKit.intOf v - RowKit.intOf u).toNat)
  case atStart => exact ⟨0, 1000000001, rfl, rfl, by omega, by omega, by omega, Lib.hid (by omega), Lib.hid (by omega), Bl.rf _⟩
  case round =>
    obtain ⟨x, y, rfl, rfl, x0, xy, y1, L, R, B⟩ := hrel
    obtain ⟨e1, m1, m2⟩ := mid_bd x0 xy
    obtain ⟨m, hm⟩ : ∃ m, m = (x + y) / 2 := ⟨_, rfl⟩
    rw [← hm] at e1 m1 m2
    by_cases q : y - x ≤ 1
    · have HQ := Lib.hid (show x = rt n from rt_here x0 xy (by omega) L.out R.out)
      clear hm
      go_wp2_with fail
      go_ret
      exact ⟨ret_int HQ.out, by go_grown⟩
    · obtain ⟨s1, s2⟩ := sq_bd (m := m) (by omega) (by omega)
      obtain ⟨s, hs⟩ : ∃ s, m * m = s := ⟨_, rfl⟩
      rw [hs] at s1 s2
      have HS := Lib.hid hs
      have mx : x < m := by omega
      clear hm
      by_cases q2 : s ≤ n
      · have L' : Hid (m * m ≤ n) := Lib.hid (by rw [HS.out]; exact q2)
        go_wp2_with fail
        go_roundw
        case rel => exact ⟨m, y, by go_num, by go_num, by omega, m2, y1, L', R, by go_grown⟩
        case measure => simp [RowKit.intOf]; omega
      · have R' : Hid (n < m * m) := Lib.hid (by rw [HS.out]; omega)
        go_wp2_with fail
        go_roundw
        case rel => exact ⟨x, m, by go_num, by go_num, by omega, by omega, by omega, L, R', by go_grown⟩
        case measure => simp [RowKit.intOf]; omega
end Go.Proofs.Ythemoomfbbccjaa
