/-
  Contracts of the fractions: Make, sums, differences, products, comparison, rounding down.
-/
import Derived.Test.YtchikfegpoonjaaG
namespace Go.Proofs.Ytchikfegpoonjaa
open Go.RowKit
set_option linter.unusedSimpArgs false
set_option linter.unusedVariables false

theorem mul_bd {x y : Int} (h1 : -1000000000 ≤ x) (h2 : x ≤ 1000000000) (h3 : -1000000000 ≤ y) (h4 : y ≤ 1000000000) : -1000000000000000000 ≤ x * y ∧ x * y ≤ 1000000000000000000 := by
  have : (x * y).natAbs ≤ 1000000000 * 1000000000 := by rw [Int.natAbs_mul]; exact Nat.mul_le_mul (by omega) (by omega)
  omega
theorem mul_pos' {x y : Int} (h1 : 1 ≤ x) (h2 : 1 ≤ y) : 1 ≤ x * y := by
  have := Int.mul_le_mul h1 h2 (by omega) (by omega); omega

def makeF (n d : Int) : Int × Int × Int := if n < -1000000000000000000 ∨ 1000000000000000000 < n ∨ d < -1000000000000000000 ∨ 1000000000000000000 < d ∨ d = 0 then (0, 0, 7) else lowF n d
def addF (an ad bn bd : Int) : Int × Int × Int := if vR an ad && vR bn bd then lowF (an * bd + bn * ad) (ad * bd) else (0, 0, 1)
def subF (an ad bn bd : Int) : Int × Int × Int := if vR an ad && vR bn bd then lowF (an * bd - bn * ad) (ad * bd) else (0, 0, 1)
def mulF (an ad bn bd : Int) : Int × Int × Int := if vR an ad && vR bn bd then lowF (an * bn) (ad * bd) else (0, 0, 1)
def ordF (x y : Int) : Int := if x < y then -1 else if y < x then 1 else 0
def cmpF (an ad bn bd : Int) : Int := if vR an ad && vR bn bd then ordF (an * bd) (bn * ad) else 0
def floorF (n d : Int) : Int × Int := if vR n d then (n / d, 0) else (0, 1)

theorem down_eq {n d : Int} (h : 0 < d) : (n.tmod d < 0 → n.tdiv d - 1 = n / d) ∧ (0 ≤ n.tmod d → n.tdiv d = n / d) := by
  have e := Int.mul_tdiv_add_tmod n d
  have h1 := Int.tmod_lt_of_pos n h
  have h2 : -d < n.tmod d := by
    have := Int.tmod_lt_of_pos (-n) h
    rw [Int.neg_tmod] at this; omega
  constructor
  · intro hr
    refine ((Int.ediv_emod_unique h).2 (⟨?_, ?_, ?_⟩ : n.tmod d + d + d * (n.tdiv d - 1) = n ∧ 0 ≤ n.tmod d + d ∧ n.tmod d + d < d)).1.symm
    · rw [Int.mul_sub]; omega
    · omega
    · omega
  · intro hr
    refine ((Int.ediv_emod_unique h).2 (⟨?_, ?_, ?_⟩ : n.tmod d + d * n.tdiv d = n ∧ 0 ≤ n.tmod d ∧ n.tmod d < d)).1.symm
    · omega
    · omega
    · omega
theorem tdiv_bd {n d B : Int} (hB : 0 ≤ B) (h : 0 < d) (h1 : -B ≤ n) (h2 : n ≤ B) : -B ≤ n.tdiv d ∧ n.tdiv d ≤ B := by
  have : (n.tdiv d).natAbs ≤ n.natAbs := by rw [Int.natAbs_tdiv]; exact Nat.div_le_self _ _
  omega

set_option maxHeartbeats 800000 in
theorem make_any (n d : Int) (w : World) :
    Calls Try.prog 18 #[.int .i64 n, .int .i64 d] w fun e w' => e = .returned (rR (makeF n d)) ∧ Bl w w' := by
  by_cases h : n < -1000000000000000000 ∨ 1000000000000000000 < n ∨ d < -1000000000000000000 ∨ 1000000000000000000 < d ∨ d = 0
  · have hs : makeF n d = (0, 0, 7) := by rw [makeF, if_pos h]
    have Hs := Lib.hid hs
    clear hs
    have Hd := Lib.hid h
    clear h
    go_enter Try.func18, Try.ntmps18
    go_wp2_with fail
    all_goals first
      | (exfalso; have := Hd.out; simp at *; omega)
      | (refine bodyPost_ret (v := rR (0, 0, 7)) (by simp [results, Try.results18, go_sem, rR]) rfl ⟨by rw [Hs.out], by go_grown⟩)
  · have hs : makeF n d = lowF n d := by rw [makeF, if_neg h]
    have Hs := Lib.hid hs
    clear hs
    have h1 : -1000000000000000000 ≤ n := by omega
    have h2 : n ≤ 1000000000000000000 := by omega
    have h3 : -1000000000000000000 ≤ d := by omega
    have h4 : d ≤ 1000000000000000000 := by omega
    have h5 : d ≠ 0 := by omega
    have h6 : (d == 0) = false := by simpa using h5
    clear h
    go_enter Try.func18, Try.ntmps18
    go_wp2_with fail
    refine (lowest_any _ _ _ (by omega) (by omega) (by omega) (by omega) h5).mono ?_
    rintro e w1 ⟨rfl, hb⟩
    obtain ⟨r0, r1, rf, rg, rl⟩ := kept2 (b := w.heap.size) (x := .int .i64 0) (y := .int .i64 0) hb ⟨by go_cell, by go_cell, (by (try simp only [frozen?_alloc_cells, World.frozen?_setCell, fz_drew, fz_drewN]); first | assumption | exact frozen_beyond (by (try simp only [World.size_alloc, World.size_setCell, World.size_drew, sz_drewN]); omega)), (by (try simp only [frozen?_alloc_cells, World.frozen?_setCell, fz_drew, fz_drewN]); first | assumption | exact frozen_beyond (by (try simp only [World.size_alloc, World.size_setCell, World.size_drew, sz_drewN]); omega)), (by (try simp only [World.size_alloc, World.size_setCell, World.size_drew, sz_drewN]); omega)⟩
    have B1 : Bl w w1 := Bl.tr (by go_grown) hb
    clear hb
    generalize lowF n d = q at Hs ⊢
    obtain ⟨q1, q2, q3⟩ := q
    unfold rR
    go_wp2
    refine bodyPost_ret (v := rR (q1, q2, q3)) (by simp [results, Try.results18, go_sem, rR, r0, r1]) rfl ⟨by rw [Hs.out], ?_⟩
    go_grown
