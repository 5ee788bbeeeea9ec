/-
  Contracts of the fractions: Make, sums, differences, products, comparison, rounding down.
-/
import Derived.Test.YtdelgijalnmehaaDoorG
namespace Go.Proofs.YtdelgijalnmehaaDoor
open Go.RowKit
set_option linter.unusedSimpArgs false
set_option linter.unusedVariables false

theorem mul_bd {x y : Int} (h1 : -1000000000 ≤ x) (h2 : x ≤ 1000000000) (h3 : -1000000000 ≤ y) (h4 : y ≤ 1000000000) : -1000000000000000000 ≤ x * y ∧ x * y ≤ 1000000000000000000 := by
  have : (x * y).natAbs ≤ 1000000000 * 1000000000 := by rw [Int.natAbs_mul]; exact Nat.mul_le_mul (by omega) (by omega)
  omega
theorem mul_pos' {x y : Int} (h1 : 1 ≤ x) (h2 : 1 ≤ y) : 1 ≤ x * y := by
  have := Int.mul_le_mul h1 h2 (by omega) (by omega); omega

def makeF (n d : Int) : Int × Int × Int := if n < -1000000000000000000 ∨ 1000000000000000000 < n ∨ d < -1000000000000000000 ∨ 1000000000000000000 < d ∨ d = 0 then (0, 0, 7) else lowF n d
def addF (an ad bn bd : Int) : Int × Int × Int := if vR an ad && vR bn bd then lowF (an * bd + bn * ad) (ad * bd) else (0, 0, 1)
def subF (an ad bn bd : Int) : Int × Int × Int := if vR an ad && vR bn bd then lowF (an * bd - bn * ad) (ad * bd) else (0, 0, 1)
def mulF (an ad bn bd : Int) : Int × Int × Int := if vR an ad && vR bn bd then lowF (an * bn) (ad * bd) else (0, 0, 1)
def ordF (x y : Int) : Int := if x < y then -1 else if y < x then 1 else 0
def cmpF (an ad bn bd : Int) : Int := if vR an ad && vR bn bd then ordF (an * bd) (bn * ad) else 0
def floorF (n d : Int) : Int × Int := if vR n d then (n / d, 0) else (0, 1)

theorem down_eq {n d : Int} (h : 0 < d) : (n.tmod d < 0 → n.tdiv d - 1 = n / d) ∧ (0 ≤ n.tmod d → n.tdiv d = n / d) := by
  have e := Int.mul_tdiv_add_tmod n d
  have h1 := Int.tmod_lt_of_pos n h
  have h2 : -d < n.tmod d := by
    have := Int.tmod_lt_of_pos (-n) h
    rw [Int.neg_tmod] at this; omega
  constructor
  · intro hr
    refine ((Int.ediv_emod_unique h).2 (⟨?_, ?_, ?_⟩ : n.tmod d + d + d * (n.tdiv d - 1) = n ∧ 0 ≤ n.tmod d + d ∧ n.tmod d + d < d)).1.symm
    · rw [Int.mul_sub]; omega
    · omega
    · omega
  · intro hr
    refine ((Int.ediv_emod_unique h).2 (⟨?_, ?_, ?_⟩ : n.tmod d + d * n.tdiv d = n ∧ 0 ≤ n.tmod d ∧ n.tmod d < d)).1.symm
    · omega
    · omega
    · omega
theorem tdiv_bd {n d B : Int} (hB : 0 ≤ B) (h : 0 < d) (h1 : -B ≤ n) (h2 : n ≤ B) : -B ≤ n.tdiv d ∧ n.tdiv d ≤ B := by
  have : (n.tdiv d).natAbs ≤ n.natAbs := by rw [Int.natAbs_tdiv]; exact Nat.div_le_self _ _
  omega

set_option maxHeartbeats 800000 in
theorem down_any (n d : Int) (w : World) (h : 0 < d) (hd : d ≤ 4000000000000000000) (h1 : -4000000000000000000 ≤ n) (h2 : n ≤ 4000000000000000000) :
    Calls Tryd.prog 43 #[.int .i64 n, .int .i64 d] w fun e w' => e = .returned (.int .i64 (n / d)) ∧ w = w' := by
  obtain ⟨b1, b2⟩ := tdiv_bd (n := n) (d := d) (B := 4000000000000000000) (by omega) h (by omega) h2
  have e := down_eq (n := n) h
  have m1 : -4000000000000000000 ≤ n.tmod d ∧ n.tmod d ≤ 4000000000000000000 := by
    have h1 := Int.tmod_lt_of_pos n h
    have h2 := Int.tmod_lt_of_pos (-n) h
    rw [Int.neg_tmod] at h2; omega
  obtain ⟨m1, m2⟩ := m1
  have E := Lib.hid e
  clear e
  by_cases hr : n.tmod d < 0
  · by_cases hn : 0 ≤ n
    · have := Int.tmod_nonneg d hn; omega
    · go_enter Tryd.func43, Tryd.ntmps43
      go_wp2
      go_ret
      exact ⟨ret_int (E.out.1 hr), rfl⟩
  · by_cases hn : 0 ≤ n
    · have e1 : n.tdiv d = n / d := E.out.2 (by omega)
      have e2 := Int.emod_nonneg n (show d ≠ 0 by omega)
      go_enter Tryd.func43, Tryd.ntmps43
      go_wp2
      go_ret
      exact ⟨rfl, rfl⟩
    · go_enter Tryd.func43, Tryd.ntmps43
      go_wp2
      go_ret
      exact ⟨ret_int (E.out.2 (by omega)), rfl⟩

set_option maxHeartbeats 800000 in
theorem cmpint_any (x y : Int) (w : World) :
    Calls Tryd.prog 24 #[.int .i64 x, .int .i64 y] w fun e w' => e = .returned (.int .i64 (ordF x y)) ∧ w = w' := by
  go_enter Tryd.func24, Tryd.ntmps24
  go_wp2
  all_goals (go_ret; refine ⟨ret_int ?_, rfl⟩; unfold ordF; (repeat' split) <;> omega)


set_option maxHeartbeats 800000 in
theorem add_any (an ad bn bd : Int) (w : World) :
    Calls Tryd.prog 8 #[.agg #[.int .i64 an, .int .i64 ad], .agg #[.int .i64 bn, .int .i64 bd]] w fun e w' => e = .returned (rR (addF an ad bn bd)) ∧ Bl w w' := by
  by_cases hva : vR an ad = true
  · by_cases hvb : vR bn bd = true
    · obtain ⟨⟨a1, a2, a3, a4⟩, -⟩ := vR_iff.1 hva
      obtain ⟨⟨b1, b2, b3, b4⟩, -⟩ := vR_iff.1 hvb
      have Ha := Lib.hid hva
      clear hva
      have Hb := Lib.hid hvb
      clear hvb
      obtain ⟨p1, p2⟩ := mul_bd (x := an) (y := bd) (by omega) (by omega) (by omega) (by omega)
      obtain ⟨p3, p4⟩ := mul_bd (x := bn) (y := ad) (by omega) (by omega) (by omega) (by omega)
      obtain ⟨p5, p6⟩ := mul_bd (x := ad) (y := bd) (by omega) (by omega) (by omega) (by omega)
      obtain ⟨p8, p9⟩ := mul_bd (x := an) (y := bn) (by omega) (by omega) (by omega) (by omega)
      have p7 := mul_pos' a1 b1
      go_enter Tryd.func8, Tryd.ntmps8
      go_wp2_with fail
      refine (validRatio_any _ _ _).mono ?_
      rintro e w1 ⟨rfl, hb⟩
      obtain ⟨u0, u1, uf, ug, ul⟩ := kept2 (b := w.heap.size) (x := .int .i64 an) (y := .int .i64 ad) hb ⟨by go_cell, by go_cell, (by (try simp only [frozen?_alloc_cells, World.frozen?_setCell, fz_drew, fz_drewN]); first | assumption | exact frozen_beyond (by (try simp only [World.size_alloc, World.size_setCell, World.size_drew, sz_drewN]); omega)), (by (try simp only [frozen?_alloc_cells, World.frozen?_setCell, fz_drew, fz_drewN]); first | assumption | exact frozen_beyond (by (try simp only [World.size_alloc, World.size_setCell, World.size_drew, sz_drewN]); omega)), (by (try simp only [World.size_alloc, World.size_setCell, World.size_drew, sz_drewN]); omega)⟩
      obtain ⟨v0, v1, vf, vg, vl⟩ := kept2 (b := w.heap.size + 1) (x := .int .i64 bn) (y := .int .i64 bd) hb ⟨by go_cell, by go_cell, (by (try simp only [frozen?_alloc_cells, World.frozen?_setCell, fz_drew, fz_drewN]); first | assumption | exact frozen_beyond (by (try simp only [World.size_alloc, World.size_setCell, World.size_drew, sz_drewN]); omega)), (by (try simp only [frozen?_alloc_cells, World.frozen?_setCell, fz_drew, fz_drewN]); first | assumption | exact frozen_beyond (by (try simp only [World.size_alloc, World.size_setCell, World.size_drew, sz_drewN]); omega)), (by (try simp only [World.size_alloc, World.size_setCell, World.size_drew, sz_drewN]); omega)⟩
      obtain ⟨r0, r1, rf, rg, rl⟩ := kept2 (b := w.heap.size + 1 + 1) (x := .int .i64 0) (y := .int .i64 0) hb ⟨by go_cell, by go_cell, (by (try simp only [frozen?_alloc_cells, World.frozen?_setCell, fz_drew, fz_drewN]); first | assumption | exact frozen_beyond (by (try simp only [World.size_alloc, World.size_setCell, World.size_drew, sz_drewN]); omega)), (by (try simp only [frozen?_alloc_cells, World.frozen?_setCell, fz_drew, fz_drewN]); first | assumption | exact frozen_beyond (by (try simp only [World.size_alloc, World.size_setCell, World.size_drew, sz_drewN]); omega)), (by (try simp only [World.size_alloc, World.size_setCell, World.size_drew, sz_drewN]); omega)⟩
      have B1 : Bl w w1 := Bl.tr (by go_grown) hb
      clear hb
      rw [Ha.out]
      go_wp2_with fail
      refine (validRatio_any _ _ _).mono ?_
      rintro e w2 ⟨rfl, hb⟩
      obtain ⟨u0, u1, uf, ug, ul⟩ := kept2 (b := w.heap.size) (x := .int .i64 an) (y := .int .i64 ad) hb ⟨by go_cell, by go_cell, (by (try simp only [frozen?_alloc_cells, World.frozen?_setCell, fz_drew, fz_drewN]); first | assumption | exact frozen_beyond (by (try simp only [World.size_alloc, World.size_setCell, World.size_drew, sz_drewN]); omega)), (by (try simp only [frozen?_alloc_cells, World.frozen?_setCell, fz_drew, fz_drewN]); first | assumption | exact frozen_beyond (by (try simp only [World.size_alloc, World.size_setCell, World.size_drew, sz_drewN]); omega)), (by (try simp only [World.size_alloc, World.size_setCell, World.size_drew, sz_drewN]); omega)⟩
      obtain ⟨v0, v1, vf, vg, vl⟩ := kept2 (b := w.heap.size + 1) (x := .int .i64 bn) (y := .int .i64 bd) hb ⟨by go_cell, by go_cell, (by (try simp only [frozen?_alloc_cells, World.frozen?_setCell, fz_drew, fz_drewN]); first | assumption | exact frozen_beyond (by (try simp only [World.size_alloc, World.size_setCell, World.size_drew, sz_drewN]); omega)), (by (try simp only [frozen?_alloc_cells, World.frozen?_setCell, fz_drew, fz_drewN]); first | assumption | exact frozen_beyond (by (try simp only [World.size_alloc, World.size_setCell, World.size_drew, sz_drewN]); omega)), (by (try simp only [World.size_alloc, World.size_setCell, World.size_drew, sz_drewN]); omega)⟩
      obtain ⟨r0, r1, rf, rg, rl⟩ := kept2 (b := w.heap.size + 1 + 1) (x := .int .i64 0) (y := .int .i64 0) hb ⟨by go_cell, by go_cell, (by (try simp only [frozen?_alloc_cells, World.frozen?_setCell, fz_drew, fz_drewN]); first | assumption | exact frozen_beyond (by (try simp only [World.size_alloc, World.size_setCell, World.size_drew, sz_drewN]); omega)), (by (try simp only [frozen?_alloc_cells, World.frozen?_setCell, fz_drew, fz_drewN]); first | assumption | exact frozen_beyond (by (try simp only [World.size_alloc, World.size_setCell, World.size_drew, sz_drewN]); omega)), (by (try simp only [World.size_alloc, World.size_setCell, World.size_drew, sz_drewN]); omega)⟩
      have B2 : Bl w w2 := Below.trans (by go_grown) (hb.mono (by (try simp only [World.size_alloc, World.size_setCell, World.size_drew, sz_drewN]); omega))
      clear hb
      rw [Hb.out]
      go_wp2_with fail
      refine (lowest_any _ _ _ (by omega) (by omega) (by omega) (by omega) (by omega)).mono ?_
      rintro e w3 ⟨rfl, hb⟩
      obtain ⟨r0, r1, rf, rg, rl⟩ := kept2 (b := w.heap.size + 1 + 1) (x := .int .i64 0) (y := .int .i64 0) hb ⟨by go_cell, by go_cell, (by (try simp only [frozen?_alloc_cells, World.frozen?_setCell, fz_drew, fz_drewN]); first | assumption | exact frozen_beyond (by (try simp only [World.size_alloc, World.size_setCell, World.size_drew, sz_drewN]); omega)), (by (try simp only [frozen?_alloc_cells, World.frozen?_setCell, fz_drew, fz_drewN]); first | assumption | exact frozen_beyond (by (try simp only [World.size_alloc, World.size_setCell, World.size_drew, sz_drewN]); omega)), (by (try simp only [World.size_alloc, World.size_setCell, World.size_drew, sz_drewN]); omega)⟩
      have B3 : Bl w w3 := Below.trans (by go_grown) (hb.mono (by (try simp only [World.size_alloc, World.size_setCell, World.size_drew, sz_drewN]); omega))
      clear hb
      have hs : addF an ad bn bd = lowF (an * bd + bn * ad) (ad * bd) := by rw [addF, if_pos (by rw [Ha.out, Hb.out]; rfl)]
      have Hs := Lib.hid hs
      clear hs
      generalize lowF (an * bd + bn * ad) (ad * bd) = q at Hs ⊢
      obtain ⟨q1, q2, q3⟩ := q
      unfold rR
      go_wp2
      refine bodyPost_ret (v := rR (q1, q2, q3)) (by simp [results, Tryd.results8, go_sem, rR, r0, r1]) rfl ⟨by rw [Hs.out], ?_⟩
      go_grown
    · have hvb : vR bn bd = false := by simpa using hvb
      have Ha := Lib.hid hva
      clear hva
      have Hb := Lib.hid hvb
      clear hvb
      go_enter Tryd.func8, Tryd.ntmps8
      go_wp2_with fail
      refine (validRatio_any _ _ _).mono ?_
      rintro e w1 ⟨rfl, hb⟩
      obtain ⟨u0, u1, uf, ug, ul⟩ := kept2 (b := w.heap.size) (x := .int .i64 an) (y := .int .i64 ad) hb ⟨by go_cell, by go_cell, (by (try simp only [frozen?_alloc_cells, World.frozen?_setCell, fz_drew, fz_drewN]); first | assumption | exact frozen_beyond (by (try simp only [World.size_alloc, World.size_setCell, World.size_drew, sz_drewN]); omega)), (by (try simp only [frozen?_alloc_cells, World.frozen?_setCell, fz_drew, fz_drewN]); first | assumption | exact frozen_beyond (by (try simp only [World.size_alloc, World.size_setCell, World.size_drew, sz_drewN]); omega)), (by (try simp only [World.size_alloc, World.size_setCell, World.size_drew, sz_drewN]); omega)⟩
      obtain ⟨v0, v1, vf, vg, vl⟩ := kept2 (b := w.heap.size + 1) (x := .int .i64 bn) (y := .int .i64 bd) hb ⟨by go_cell, by go_cell, (by (try simp only [frozen?_alloc_cells, World.frozen?_setCell, fz_drew, fz_drewN]); first | assumption | exact frozen_beyond (by (try simp only [World.size_alloc, World.size_setCell, World.size_drew, sz_drewN]); omega)), (by (try simp only [frozen?_alloc_cells, World.frozen?_setCell, fz_drew, fz_drewN]); first | assumption | exact frozen_beyond (by (try simp only [World.size_alloc, World.size_setCell, World.size_drew, sz_drewN]); omega)), (by (try simp only [World.size_alloc, World.size_setCell, World.size_drew, sz_drewN]); omega)⟩
      obtain ⟨r0, r1, rf, rg, rl⟩ := kept2 (b := w.heap.size + 1 + 1) (x := .int .i64 0) (y := .int .i64 0) hb ⟨by go_cell, by go_cell, (by (try simp only [frozen?_alloc_cells, World.frozen?_setCell, fz_drew, fz_drewN]); first | assumption | exact frozen_beyond (by (try simp only [World.size_alloc, World.size_setCell, World.size_drew, sz_drewN]); omega)), (by (try simp only [frozen?_alloc_cells, World.frozen?_setCell, fz_drew, fz_drewN]); first | assumption | exact frozen_beyond (by (try simp only [World.size_alloc, World.size_setCell, World.size_drew, sz_drewN]); omega)), (by (try simp only [World.size_alloc, World.size_setCell, World.size_drew, sz_drewN]); omega)⟩
      have B1 : Bl w w1 := Bl.tr (by go_grown) hb
      clear hb
      rw [Ha.out]
      go_wp2_with fail
      refine (validRatio_any _ _ _).mono ?_
      rintro e w2 ⟨rfl, hb⟩
      obtain ⟨u0, u1, uf, ug, ul⟩ := kept2 (b := w.heap.size) (x := .int .i64 an) (y := .int .i64 ad) hb ⟨by go_cell, by go_cell, (by (try simp only [frozen?_alloc_cells, World.frozen?_setCell, fz_drew, fz_drewN]); first | assumption | exact frozen_beyond (by (try simp only [World.size_alloc, World.size_setCell, World.size_drew, sz_drewN]); omega)), (by (try simp only [frozen?_alloc_cells, World.frozen?_setCell, fz_drew, fz_drewN]); first | assumption | exact frozen_beyond (by (try simp only [World.size_alloc, World.size_setCell, World.size_drew, sz_drewN]); omega)), (by (try simp only [World.size_alloc, World.size_setCell, World.size_drew, sz_drewN]); omega)⟩
      obtain ⟨v0, v1, vf, vg, vl⟩ := kept2 (b := w.heap.size + 1) (x := .int .i64 bn) (y := .int .i64 bd) hb ⟨by go_cell, by go_cell, (by (try simp only [frozen?_alloc_cells, World.frozen?_setCell, fz_drew, fz_drewN]); first | assumption | exact frozen_beyond (by (try simp only [World.size_alloc, World.size_setCell, World.size_drew, sz_drewN]); omega)), (by (try simp only [frozen?_alloc_cells, World.frozen?_setCell, fz_drew, fz_drewN]); first | assumption | exact frozen_beyond (by (try simp only [World.size_alloc, World.size_setCell, World.size_drew, sz_drewN]); omega)), (by (try simp only [World.size_alloc, World.size_setCell, World.size_drew, sz_drewN]); omega)⟩
      obtain ⟨r0, r1, rf, rg, rl⟩ := kept2 (b := w.heap.size + 1 + 1) (x := .int .i64 0) (y := .int .i64 0) hb ⟨by go_cell, by go_cell, (by (try simp only [frozen?_alloc_cells, World.frozen?_setCell, fz_drew, fz_drewN]); first | assumption | exact frozen_beyond (by (try simp only [World.size_alloc, World.size_setCell, World.size_drew, sz_drewN]); omega)), (by (try simp only [frozen?_alloc_cells, World.frozen?_setCell, fz_drew, fz_drewN]); first | assumption | exact frozen_beyond (by (try simp only [World.size_alloc, World.size_setCell, World.size_drew, sz_drewN]); omega)), (by (try simp only [World.size_alloc, World.size_setCell, World.size_drew, sz_drewN]); omega)⟩
      have B2 : Bl w w2 := Below.trans (by go_grown) (hb.mono (by (try simp only [World.size_alloc, World.size_setCell, World.size_drew, sz_drewN]); omega))
      clear hb
      rw [Hb.out]
      go_wp2
      all_goals (refine bodyPost_ret (by simp [results, Tryd.results8, go_sem, r0, r1]; try rfl) rfl ⟨?_, by go_grown⟩)
      all_goals (refine rR_eq (r := addF an ad bn bd) ?_ ?_ ?_ <;> (rw [addF, if_neg (by rw [Ha.out, Hb.out]; simp)] <;> (repeat' split) <;> (try simp) <;> omega))
  · have hva : vR an ad = false := by simpa using hva
    have Ha := Lib.hid hva
    clear hva
    go_enter Tryd.func8, Tryd.ntmps8
    go_wp2_with fail
    refine (validRatio_any _ _ _).mono ?_
    rintro e w1 ⟨rfl, hb⟩
    obtain ⟨u0, u1, uf, ug, ul⟩ := kept2 (b := w.heap.size) (x := .int .i64 an) (y := .int .i64 ad) hb ⟨by go_cell, by go_cell, (by (try simp only [frozen?_alloc_cells, World.frozen?_setCell, fz_drew, fz_drewN]); first | assumption | exact frozen_beyond (by (try simp only [World.size_alloc, World.size_setCell, World.size_drew, sz_drewN]); omega)), (by (try simp only [frozen?_alloc_cells, World.frozen?_setCell, fz_drew, fz_drewN]); first | assumption | exact frozen_beyond (by (try simp only [World.size_alloc, World.size_setCell, World.size_drew, sz_drewN]); omega)), (by (try simp only [World.size_alloc, World.size_setCell, World.size_drew, sz_drewN]); omega)⟩
    obtain ⟨v0, v1, vf, vg, vl⟩ := kept2 (b := w.heap.size + 1) (x := .int .i64 bn) (y := .int .i64 bd) hb ⟨by go_cell, by go_cell, (by (try simp only [frozen?_alloc_cells, World.frozen?_setCell, fz_drew, fz_drewN]); first | assumption | exact frozen_beyond (by (try simp only [World.size_alloc, World.size_setCell, World.size_drew, sz_drewN]); omega)), (by (try simp only [frozen?_alloc_cells, World.frozen?_setCell, fz_drew, fz_drewN]); first | assumption | exact frozen_beyond (by (try simp only [World.size_alloc, World.size_setCell, World.size_drew, sz_drewN]); omega)), (by (try simp only [World.size_alloc, World.size_setCell, World.size_drew, sz_drewN]); omega)⟩
    obtain ⟨r0, r1, rf, rg, rl⟩ := kept2 (b := w.heap.size + 1 + 1) (x := .int .i64 0) (y := .int .i64 0) hb ⟨by go_cell, by go_cell, (by (try simp only [frozen?_alloc_cells, World.frozen?_setCell, fz_drew, fz_drewN]); first | assumption | exact frozen_beyond (by (try simp only [World.size_alloc, World.size_setCell, World.size_drew, sz_drewN]); omega)), (by (try simp only [frozen?_alloc_cells, World.frozen?_setCell, fz_drew, fz_drewN]); first | assumption | exact frozen_beyond (by (try simp only [World.size_alloc, World.size_setCell, World.size_drew, sz_drewN]); omega)), (by (try simp only [World.size_alloc, World.size_setCell, World.size_drew, sz_drewN]); omega)⟩
    have B1 : Bl w w1 := Bl.tr (by go_grown) hb
    clear hb
    rw [Ha.out]
    go_wp2
    all_goals (refine bodyPost_ret (by simp [results, Tryd.results8, go_sem, r0, r1]; try rfl) rfl ⟨?_, by go_grown⟩)
    all_goals (refine rR_eq (r := addF an ad bn bd) ?_ ?_ ?_ <;> (rw [addF, if_neg (by rw [Ha.out]; simp)] <;> (repeat' split) <;> (try simp) <;> omega))

set_option maxHeartbeats 800000 in
theorem sub_any (an ad bn bd : Int) (w : World) :
    Calls Tryd.prog 11 #[.agg #[.int .i64 an, .int .i64 ad], .agg #[.int .i64 bn, .int .i64 bd]] w fun e w' => e = .returned (rR (subF an ad bn bd)) ∧ Bl w w' := by
  by_cases hva : vR an ad = true
  · by_cases hvb : vR bn bd = true
    · obtain ⟨⟨a1, a2, a3, a4⟩, -⟩ := vR_iff.1 hva
      obtain ⟨⟨b1, b2, b3, b4⟩, -⟩ := vR_iff.1 hvb
      have Ha := Lib.hid hva
      clear hva
      have Hb := Lib.hid hvb
      clear hvb
      obtain ⟨p1, p2⟩ := mul_bd (x := an) (y := bd) (by omega) (by omega) (by omega) (by omega)
      obtain ⟨p3, p4⟩ := mul_bd (x := bn) (y := ad) (by omega) (by omega) (by omega) (by omega)
      obtain ⟨p5, p6⟩ := mul_bd (x := ad) (y := bd) (by omega) (by omega) (by omega) (by omega)
      obtain ⟨p8, p9⟩ := mul_bd (x := an) (y := bn) (by omega) (by omega) (by omega) (by omega)
      have p7 := mul_pos' a1 b1
      go_enter Tryd.func11, Tryd.ntmps11
      go_wp2_with fail
      refine (validRatio_any _ _ _).mono ?_
      rintro e w1 ⟨rfl, hb⟩
      obtain ⟨u0, u1, uf, ug, ul⟩ := kept2 (b := w.heap.size) (x := .int .i64 an) (y := .int .i64 ad) hb ⟨by go_cell, by go_cell, (by (try simp only [frozen?_alloc_cells, World.frozen?_setCell, fz_drew, fz_drewN]); first | assumption | exact frozen_beyond (by (try simp only [World.size_alloc, World.size_setCell, World.size_drew, sz_drewN]); omega)), (by (try simp only [frozen?_alloc_cells, World.frozen?_setCell, fz_drew, fz_drewN]); first | assumption | exact frozen_beyond (by (try simp only [World.size_alloc, World.size_setCell, World.size_drew, sz_drewN]); omega)), (by (try simp only [World.size_alloc, World.size_setCell, World.size_drew, sz_drewN]); omega)⟩
      obtain ⟨v0, v1, vf, vg, vl⟩ := kept2 (b := w.heap.size + 1) (x := .int .i64 bn) (y := .int .i64 bd) hb ⟨by go_cell, by go_cell, (by (try simp only [frozen?_alloc_cells, World.frozen?_setCell, fz_drew, fz_drewN]); first | assumption | exact frozen_beyond (by (try simp only [World.size_alloc, World.size_setCell, World.size_drew, sz_drewN]); omega)), (by (try simp only [frozen?_alloc_cells, World.frozen?_setCell, fz_drew, fz_drewN]); first | assumption | exact frozen_beyond (by (try simp only [World.size_alloc, World.size_setCell, World.size_drew, sz_drewN]); omega)), (by (try simp only [World.size_alloc, World.size_setCell, World.size_drew, sz_drewN]); omega)⟩
      obtain ⟨r0, r1, rf, rg, rl⟩ := kept2 (b := w.heap.size + 1 + 1) (x := .int .i64 0) (y := .int .i64 0) hb ⟨by go_cell, by go_cell, (by (try simp only [frozen?_alloc_cells, World.frozen?_setCell, fz_drew, fz_drewN]); first | assumption | exact frozen_beyond (by (try simp only [World.size_alloc, World.size_setCell, World.size_drew, sz_drewN]); omega)), (by (try simp only [frozen?_alloc_cells, World.frozen?_setCell, fz_drew, fz_drewN]); first | assumption | exact frozen_beyond (by (try simp only [World.size_alloc, World.size_setCell, World.size_drew, sz_drewN]); omega)), (by (try simp only [World.size_alloc, World.size_setCell, World.size_drew, sz_drewN]); omega)⟩
      have B1 : Bl w w1 := Bl.tr (by go_grown) hb
      clear hb
      rw [Ha.out]
      go_wp2_with fail
      refine (validRatio_any _ _ _).mono ?_
      rintro e w2 ⟨rfl, hb⟩
      obtain ⟨u0, u1, uf, ug, ul⟩ := kept2 (b := w.heap.size) (x := .int .i64 an) (y := .int .i64 ad) hb ⟨by go_cell, by go_cell, (by (try simp only [frozen?_alloc_cells, World.frozen?_setCell, fz_drew, fz_drewN]); first | assumption | exact frozen_beyond (by (try simp only [World.size_alloc, World.size_setCell, World.size_drew, sz_drewN]); omega)), (by (try simp only [frozen?_alloc_cells, World.frozen?_setCell, fz_drew, fz_drewN]); first | assumption | exact frozen_beyond (by (try simp only [World.size_alloc, World.size_setCell, World.size_drew, sz_drewN]); omega)), (by (try simp only [World.size_alloc, World.size_setCell, World.size_drew, sz_drewN]); omega)⟩
      obtain ⟨v0, v1, vf, vg, vl⟩ := kept2 (b := w.heap.size + 1) (x := .int .i64 bn) (y := .int .i64 bd) hb ⟨by go_cell, by go_cell, (by (try simp only [frozen?_alloc_cells, World.frozen?_setCell, fz_drew, fz_drewN]); first | assumption | exact frozen_beyond (by (try simp only [World.size_alloc, World.size_setCell, World.size_drew, sz_drewN]); omega)), (by (try simp only [frozen?_alloc_cells, World.frozen?_setCell, fz_drew, fz_drewN]); first | assumption | exact frozen_beyond (by (try simp only [World.size_alloc, World.size_setCell, World.size_drew, sz_drewN]); omega)), (by (try simp only [World.size_alloc, World.size_setCell, World.size_drew, sz_drewN]); omega)⟩
      obtain ⟨r0, r1, rf, rg, rl⟩ := kept2 (b := w.heap.size + 1 + 1) (x := .int .i64 0) (y := .int .i64 0) hb ⟨by go_cell, by go_cell, (by (try simp only [frozen?_alloc_cells, World.frozen?_setCell, fz_drew, fz_drewN]); first | assumption | exact frozen_beyond (by (try simp only [World.size_alloc, World.size_setCell, World.size_drew, sz_drewN]); omega)), (by (try simp only [frozen?_alloc_cells, World.frozen?_setCell, fz_drew, fz_drewN]); first | assumption | exact frozen_beyond (by (try simp only [World.size_alloc, World.size_setCell, World.size_drew, sz_drewN]); omega)), (by (try simp only [World.size_alloc, World.size_setCell, World.size_drew, sz_drewN]); omega)⟩
      have B2 : Bl w w2 := Below.trans (by go_grown) (hb.mono (by (try simp only [World.size_alloc, World.size_setCell, World.size_drew, sz_drewN]); omega))
      clear hb
      rw [Hb.out]
      go_wp2_with fail
      refine (lowest_any _ _ _ (by omega) (by omega) (by omega) (by omega) (by omega)).mono ?_
      rintro e w3 ⟨rfl, hb⟩
      obtain ⟨r0, r1, rf, rg, rl⟩ := kept2 (b := w.heap.size + 1 + 1) (x := .int .i64 0) (y := .int .i64 0) hb ⟨by go_cell, by go_cell, (by (try simp only [frozen?_alloc_cells, World.frozen?_setCell, fz_drew, fz_drewN]); first | assumption | exact frozen_beyond (by (try simp only [World.size_alloc, World.size_setCell, World.size_drew, sz_drewN]); omega)), (by (try simp only [frozen?_alloc_cells, World.frozen?_setCell, fz_drew, fz_drewN]); first | assumption | exact frozen_beyond (by (try simp only [World.size_alloc, World.size_setCell, World.size_drew, sz_drewN]); omega)), (by (try simp only [World.size_alloc, World.size_setCell, World.size_drew, sz_drewN]); omega)⟩
      have B3 : Bl w w3 := Below.trans (by go_grown) (hb.mono (by (try simp only [World.size_alloc, World.size_setCell, World.size_drew, sz_drewN]); omega))
      clear hb
      have hs : subF an ad bn bd = lowF (an * bd - bn * ad) (ad * bd) := by rw [subF, if_pos (by rw [Ha.out, Hb.out]; rfl)]
      have Hs := Lib.hid hs
      clear hs
      generalize lowF (an * bd - bn * ad) (ad * bd) = q at Hs ⊢
      obtain ⟨q1, q2, q3⟩ := q
      unfold rR
      go_wp2
      refine bodyPost_ret (v := rR (q1, q2, q3)) (by simp [results, Tryd.results11, go_sem, rR, r0, r1]) rfl ⟨by rw [Hs.out], ?_⟩
      go_grown
    · have hvb : vR bn bd = false := by simpa using hvb
      have Ha := Lib.hid hva
      clear hva
      have Hb := Lib.hid hvb
      clear hvb
      go_enter Tryd.func11, Tryd.ntmps11
      go_wp2_with fail
      refine (validRatio_any _ _ _).mono ?_
      rintro e w1 ⟨rfl, hb⟩
      obtain ⟨u0, u1, uf, ug, ul⟩ := kept2 (b := w.heap.size) (x := .int .i64 an) (y := .int .i64 ad) hb ⟨by go_cell, by go_cell, (by (try simp only [frozen?_alloc_cells, World.frozen?_setCell, fz_drew, fz_drewN]); first | assumption | exact frozen_beyond (by (try simp only [World.size_alloc, World.size_setCell, World.size_drew, sz_drewN]); omega)), (by (try simp only [frozen?_alloc_cells, World.frozen?_setCell, fz_drew, fz_drewN]); first | assumption | exact frozen_beyond (by (try simp only [World.size_alloc, World.size_setCell, World.size_drew, sz_drewN]); omega)), (by (try simp only [World.size_alloc, World.size_setCell, World.size_drew, sz_drewN]); omega)⟩
      obtain ⟨v0, v1, vf, vg, vl⟩ := kept2 (b := w.heap.size + 1) (x := .int .i64 bn) (y := .int .i64 bd) hb ⟨by go_cell, by go_cell, (by (try simp only [frozen?_alloc_cells, World.frozen?_setCell, fz_drew, fz_drewN]); first | assumption | exact frozen_beyond (by (try simp only [World.size_alloc, World.size_setCell, World.size_drew, sz_drewN]); omega)), (by (try simp only [frozen?_alloc_cells, World.frozen?_setCell, fz_drew, fz_drewN]); first | assumption | exact frozen_beyond (by (try simp only [World.size_alloc, World.size_setCell, World.size_drew, sz_drewN]); omega)), (by (try simp only [World.size_alloc, World.size_setCell, World.size_drew, sz_drewN]); omega)⟩
      obtain ⟨r0, r1, rf, rg, rl⟩ := kept2 (b := w.heap.size + 1 + 1) (x := .int .i64 0) (y := .int .i64 0) hb ⟨by go_cell, by go_cell, (by (try simp only [frozen?_alloc_cells, World.frozen?_setCell, fz_drew, fz_drewN]); first | assumption | exact frozen_beyond (by (try simp only [World.size_alloc, World.size_setCell, World.size_drew, sz_drewN]); omega)), (by (try simp only [frozen?_alloc_cells, World.frozen?_setCell, fz_drew, fz_drewN]); first | assumption | exact frozen_beyond (by (try simp only [World.size_alloc, World.size_setCell, World.size_drew, sz_drewN]); omega)), (by (try simp only [World.size_alloc, World.size_setCell, World.size_drew, sz_drewN]); omega)⟩
      have B1 : Bl w w1 := Bl.tr (by go_grown) hb
      clear hb
      rw [Ha.out]
      go_wp2_with fail
      refine (validRatio_any _ _ _).mono ?_
      rintro e w2 ⟨rfl, hb⟩
      obtain ⟨u0, u1, uf, ug, ul⟩ := kept2 (b := w.heap.size) (x := .int .i64 an) (y := .int .i64 ad) hb ⟨by go_cell, by go_cell, (by (try simp only [frozen?_alloc_cells, World.frozen?_setCell, fz_drew, fz_drewN]); first | assumption | exact frozen_beyond (by (try simp only [World.size_alloc, World.size_setCell, World.size_drew, sz_drewN]); omega)), (by (try simp only [frozen?_alloc_cells, World.frozen?_setCell, fz_drew, fz_drewN]); first | assumption | exact frozen_beyond (by (try simp only [World.size_alloc, World.size_setCell, World.size_drew, sz_drewN]); omega)), (by (try simp only [World.size_alloc, World.size_setCell, World.size_drew, sz_drewN]); omega)⟩
      obtain ⟨v0, v1, vf, vg, vl⟩ := kept2 (b := w.heap.size + 1) (x := .int .i64 bn) (y := .int .i64 bd) hb ⟨by go_cell, by go_cell, (by (try simp only [frozen?_alloc_cells, World.frozen?_setCell, fz_drew, fz_drewN]); first | assumption | exact frozen_beyond (by (try simp only [World.size_alloc, World.size_setCell, World.size_drew, sz_drewN]); omega)), (by (try simp only [frozen?_alloc_cells, World.frozen?_setCell, fz_drew, fz_drewN]); first | assumption | exact frozen_beyond (by (try simp only [World.size_alloc, World.size_setCell, World.size_drew, sz_drewN]); omega)), (by (try simp only [World.size_alloc, World.size_setCell, World.size_drew, sz_drewN]); omega)⟩
      obtain ⟨r0, r1, rf, rg, rl⟩ := kept2 (b := w.heap.size + 1 + 1) (x := .int .i64 0) (y := .int .i64 0) hb ⟨by go_cell, by go_cell, (by (try simp only [frozen?_alloc_cells, World.frozen?_setCell, fz_drew, fz_drewN]); first | assumption | exact frozen_beyond (by (try simp only [World.size_alloc, World.size_setCell, World.size_drew, sz_drewN]); omega)), (by (try simp only [frozen?_alloc_cells, World.frozen?_setCell, fz_drew, fz_drewN]); first | assumption | exact frozen_beyond (by (try simp only [World.size_alloc, World.size_setCell, World.size_drew, sz_drewN]); omega)), (by (try simp only [World.size_alloc, World.size_setCell, World.size_drew, sz_drewN]); omega)⟩
      have B2 : Bl w w2 := Below.trans (by go_grown) (hb.mono (by (try simp only [World.size_alloc, World.size_setCell, World.size_drew, sz_drewN]); omega))
      clear hb
      rw [Hb.out]
      go_wp2
      all_goals (refine bodyPost_ret (by simp [results, Tryd.results11, go_sem, r0, r1]; try rfl) rfl ⟨?_, by go_grown⟩)
      all_goals (refine rR_eq (r := subF an ad bn bd) ?_ ?_ ?_ <;> (rw [subF, if_neg (by rw [Ha.out, Hb.out]; simp)] <;> (repeat' split) <;> (try simp) <;> omega))
  · have hva : vR an ad = false := by simpa using hva
    have Ha := Lib.hid hva
    clear hva
    go_enter Tryd.func11, Tryd.ntmps11
    go_wp2_with fail
    refine (validRatio_any _ _ _).mono ?_
    rintro e w1 ⟨rfl, hb⟩
    obtain ⟨u0, u1, uf, ug, ul⟩ := kept2 (b := w.heap.size) (x := .int .i64 an) (y := .int .i64 ad) hb ⟨by go_cell, by go_cell, (by (try simp only [frozen?_alloc_cells, World.frozen?_setCell, fz_drew, fz_drewN]); first | assumption | exact frozen_beyond (by (try simp only [World.size_alloc, World.size_setCell, World.size_drew, sz_drewN]); omega)), (by (try simp only [frozen?_alloc_cells, World.frozen?_setCell, fz_drew, fz_drewN]); first | assumption | exact frozen_beyond (by (try simp only [World.size_alloc, World.size_setCell, World.size_drew, sz_drewN]); omega)), (by (try simp only [World.size_alloc, World.size_setCell, World.size_drew, sz_drewN]); omega)⟩
    obtain ⟨v0, v1, vf, vg, vl⟩ := kept2 (b := w.heap.size + 1) (x := .int .i64 bn) (y := .int .i64 bd) hb ⟨by go_cell, by go_cell, (by (try simp only [frozen?_alloc_cells, World.frozen?_setCell, fz_drew, fz_drewN]); first | assumption | exact frozen_beyond (by (try simp only [World.size_alloc, World.size_setCell, World.size_drew, sz_drewN]); omega)), (by (try simp only [frozen?_alloc_cells, World.frozen?_setCell, fz_drew, fz_drewN]); first | assumption | exact frozen_beyond (by (try simp only [World.size_alloc, World.size_setCell, World.size_drew, sz_drewN]); omega)), (by (try simp only [World.size_alloc, World.size_setCell, World.size_drew, sz_drewN]); omega)⟩
    obtain ⟨r0, r1, rf, rg, rl⟩ := kept2 (b := w.heap.size + 1 + 1) (x := .int .i64 0) (y := .int .i64 0) hb ⟨by go_cell, by go_cell, (by (try simp only [frozen?_alloc_cells, World.frozen?_setCell, fz_drew, fz_drewN]); first | assumption | exact frozen_beyond (by (try simp only [World.size_alloc, World.size_setCell, World.size_drew, sz_drewN]); omega)), (by (try simp only [frozen?_alloc_cells, World.frozen?_setCell, fz_drew, fz_drewN]); first | assumption | exact frozen_beyond (by (try simp only [World.size_alloc, World.size_setCell, World.size_drew, sz_drewN]); omega)), (by (try simp only [World.size_alloc, World.size_setCell, World.size_drew, sz_drewN]); omega)⟩
    have B1 : Bl w w1 := Bl.tr (by go_grown) hb
    clear hb
    rw [Ha.out]
    go_wp2
    all_goals (refine bodyPost_ret (by simp [results, Tryd.results11, go_sem, r0, r1]; try rfl) rfl ⟨?_, by go_grown⟩)
    all_goals (refine rR_eq (r := subF an ad bn bd) ?_ ?_ ?_ <;> (rw [subF, if_neg (by rw [Ha.out]; simp)] <;> (repeat' split) <;> (try simp) <;> omega))

set_option maxHeartbeats 800000 in
theorem mul_any (an ad bn bd : Int) (w : World) :
    Calls Tryd.prog 9 #[.agg #[.int .i64 an, .int .i64 ad], .agg #[.int .i64 bn, .int .i64 bd]] w fun e w' => e = .returned (rR (mulF an ad bn bd)) ∧ Bl w w' := by
  by_cases hva : vR an ad = true
  · by_cases hvb : vR bn bd = true
    · obtain ⟨⟨a1, a2, a3, a4⟩, -⟩ := vR_iff.1 hva
      obtain ⟨⟨b1, b2, b3, b4⟩, -⟩ := vR_iff.1 hvb
      have Ha := Lib.hid hva
      clear hva
      have Hb := Lib.hid hvb
      clear hvb
      obtain ⟨p1, p2⟩ := mul_bd (x := an) (y := bd) (by omega) (by omega) (by omega) (by omega)
      obtain ⟨p3, p4⟩ := mul_bd (x := bn) (y := ad) (by omega) (by omega) (by omega) (by omega)
      obtain ⟨p5, p6⟩ := mul_bd (x := ad) (y := bd) (by omega) (by omega) (by omega) (by omega)
      obtain ⟨p8, p9⟩ := mul_bd (x := an) (y := bn) (by omega) (by omega) (by omega) (by omega)
      have p7 := mul_pos' a1 b1
      go_enter Tryd.func9, Tryd.ntmps9
      go_wp2_with fail
      refine (validRatio_any _ _ _).mono ?_
      rintro e w1 ⟨rfl, hb⟩
      obtain ⟨u0, u1, uf, ug, ul⟩ := kept2 (b := w.heap.size) (x := .int .i64 an) (y := .int .i64 ad) hb ⟨by go_cell, by go_cell, (by (try simp only [frozen?_alloc_cells, World.frozen?_setCell, fz_drew, fz_drewN]); first | assumption | exact frozen_beyond (by (try simp only [World.size_alloc, World.size_setCell, World.size_drew, sz_drewN]); omega)), (by (try simp only [frozen?_alloc_cells, World.frozen?_setCell, fz_drew, fz_drewN]); first | assumption | exact frozen_beyond (by (try simp only [World.size_alloc, World.size_setCell, World.size_drew, sz_drewN]); omega)), (by (try simp only [World.size_alloc, World.size_setCell, World.size_drew, sz_drewN]); omega)⟩
      obtain ⟨v0, v1, vf, vg, vl⟩ := kept2 (b := w.heap.size + 1) (x := .int .i64 bn) (y := .int .i64 bd) hb ⟨by go_cell, by go_cell, (by (try simp only [frozen?_alloc_cells, World.frozen?_setCell, fz_drew, fz_drewN]); first | assumption | exact frozen_beyond (by (try simp only [World.size_alloc, World.size_setCell, World.size_drew, sz_drewN]); omega)), (by (try simp only [frozen?_alloc_cells, World.frozen?_setCell, fz_drew, fz_drewN]); first | assumption | exact frozen_beyond (by (try simp only [World.size_alloc, World.size_setCell, World.size_drew, sz_drewN]); omega)), (by (try simp only [World.size_alloc, World.size_setCell, World.size_drew, sz_drewN]); omega)⟩
      obtain ⟨r0, r1, rf, rg, rl⟩ := kept2 (b := w.heap.size + 1 + 1) (x := .int .i64 0) (y := .int .i64 0) hb ⟨by go_cell, by go_cell, (by (try simp only [frozen?_alloc_cells, World.frozen?_setCell, fz_drew, fz_drewN]); first | assumption | exact frozen_beyond (by (try simp only [World.size_alloc, World.size_setCell, World.size_drew, sz_drewN]); omega)), (by (try simp only [frozen?_alloc_cells, World.frozen?_setCell, fz_drew, fz_drewN]); first | assumption | exact frozen_beyond (by (try simp only [World.size_alloc, World.size_setCell, World.size_drew, sz_drewN]); omega)), (by (try simp only [World.size_alloc, World.size_setCell, World.size_drew, sz_drewN]); omega)⟩
      have B1 : Bl w w1 := Bl.tr (by go_grown) hb
      clear hb
      rw [Ha.out]
      go_wp2_with fail
      refine (validRatio_any _ _ _).mono ?_
      rintro e w2 ⟨rfl, hb⟩
      obtain ⟨u0, u1, uf, ug, ul⟩ := kept2 (b := w.heap.size) (x := .int .i64 an) (y := .int .i64 ad) hb ⟨by go_cell, by go_cell, (by (try simp only [frozen?_alloc_cells, World.frozen?_setCell, fz_drew, fz_drewN]); first | assumption | exact frozen_beyond (by (try simp only [World.size_alloc, World.size_setCell, World.size_drew, sz_drewN]); omega)), (by (try simp only [frozen?_alloc_cells, World.frozen?_setCell, fz_drew, fz_drewN]); first | assumption | exact frozen_beyond (by (try simp only [World.size_alloc, World.size_setCell, World.size_drew, sz_drewN]); omega)), (by (try simp only [World.size_alloc, World.size_setCell, World.size_drew, sz_drewN]); omega)⟩
      obtain ⟨v0, v1, vf, vg, vl⟩ := kept2 (b := w.heap.size + 1) (x := .int .i64 bn) (y := .int .i64 bd) hb ⟨by go_cell, by go_cell, (by (try simp only [frozen?_alloc_cells, World.frozen?_setCell, fz_drew, fz_drewN]); first | assumption | exact frozen_beyond (by (try simp only [World.size_alloc, World.size_setCell, World.size_drew, sz_drewN]); omega)), (by (try simp only [frozen?_alloc_cells, World.frozen?_setCell, fz_drew, fz_drewN]); first | assumption | exact frozen_beyond (by (try simp only [World.size_alloc, World.size_setCell, World.size_drew, sz_drewN]); omega)), (by (try simp only [World.size_alloc, World.size_setCell, World.size_drew, sz_drewN]); omega)⟩
      obtain ⟨r0, r1, rf, rg, rl⟩ := kept2 (b := w.heap.size + 1 + 1) (x := .int .i64 0) (y := .int .i64 0) hb ⟨by go_cell, by go_cell, (by (try simp only [frozen?_alloc_cells, World.frozen?_setCell, fz_drew, fz_drewN]); first | assumption | exact frozen_beyond (by (try simp only [World.size_alloc, World.size_setCell, World.size_drew, sz_drewN]); omega)), (by (try simp only [frozen?_alloc_cells, World.frozen?_setCell, fz_drew, fz_drewN]); first | assumption | exact frozen_beyond (by (try simp only [World.size_alloc, World.size_setCell, World.size_drew, sz_drewN]); omega)), (by (try simp only [World.size_alloc, World.size_setCell, World.size_drew, sz_drewN]); omega)⟩
      have B2 : Bl w w2 := Below.trans (by go_grown) (hb.mono (by (try simp only [World.size_alloc, World.size_setCell, World.size_drew, sz_drewN]); omega))
      clear hb
      rw [Hb.out]
      go_wp2_with fail
      refine (lowest_any _ _ _ (by omega) (by omega) (by omega) (by omega) (by omega)).mono ?_
      rintro e w3 ⟨rfl, hb⟩
      obtain ⟨r0, r1, rf, rg, rl⟩ := kept2 (b := w.heap.size + 1 + 1) (x := .int .i64 0) (y := .int .i64 0) hb ⟨by go_cell, by go_cell, (by (try simp only [frozen?_alloc_cells, World.frozen?_setCell, fz_drew, fz_drewN]); first | assumption | exact frozen_beyond (by (try simp only [World.size_alloc, World.size_setCell, World.size_drew, sz_drewN]); omega)), (by (try simp only [frozen?_alloc_cells, World.frozen?_setCell, fz_drew, fz_drewN]); first | assumption | exact frozen_beyond (by (try simp only [World.size_alloc, World.size_setCell, World.size_drew, sz_drewN]); omega)), (by (try simp only [World.size_alloc, World.size_setCell, World.size_drew, sz_drewN]); omega)⟩
      have B3 : Bl w w3 := Below.trans (by go_grown) (hb.mono (by (try simp only [World.size_alloc, World.size_setCell, World.size_drew, sz_drewN]); omega))
      clear hb
      have hs : mulF an ad bn bd = lowF (an * bn) (ad * bd) := by rw [mulF, if_pos (by rw [Ha.out, Hb.out]; rfl)]
      have Hs := Lib.hid hs
      clear hs
      generalize lowF (an * bn) (ad * bd) = q at Hs ⊢
      obtain ⟨q1, q2, q3⟩ := q
      unfold rR
      go_wp2
      refine bodyPost_ret (v := rR (q1, q2, q3)) (by simp [results, Tryd.results9, go_sem, rR, r0, r1]) rfl ⟨by rw [Hs.out], ?_⟩
      go_grown
    · have hvb : vR bn bd = false := by simpa using hvb
      have Ha := Lib.hid hva
      clear hva
      have Hb := Lib.hid hvb
      clear hvb
      go_enter Tryd.func9, Tryd.ntmps9
      go_wp2_with fail
      refine (validRatio_any _ _ _).mono ?_
      rintro e w1 ⟨rfl, hb⟩
      obtain ⟨u0, u1, uf, ug, ul⟩ := kept2 (b := w.heap.size) (x := .int .i64 an) (y := .int .i64 ad) hb ⟨by go_cell, by go_cell, (by (try simp only [frozen?_alloc_cells, World.frozen?_setCell, fz_drew, fz_drewN]); first | assumption | exact frozen_beyond (by (try simp only [World.size_alloc, World.size_setCell, World.size_drew, sz_drewN]); omega)), (by (try simp only [frozen?_alloc_cells, World.frozen?_setCell, fz_drew, fz_drewN]); first | assumption | exact frozen_beyond (by (try simp only [World.size_alloc, World.size_setCell, World.size_drew, sz_drewN]); omega)), (by (try simp only [World.size_alloc, World.size_setCell, World.size_drew, sz_drewN]); omega)⟩
      obtain ⟨v0, v1, vf, vg, vl⟩ := kept2 (b := w.heap.size + 1) (x := .int .i64 bn) (y := .int .i64 bd) hb ⟨by go_cell, by go_cell, (by (try simp only [frozen?_alloc_cells, World.frozen?_setCell, fz_drew, fz_drewN]); first | assumption | exact frozen_beyond (by (try simp only [World.size_alloc, World.size_setCell, World.size_drew, sz_drewN]); omega)), (by (try simp only [frozen?_alloc_cells, World.frozen?_setCell, fz_drew, fz_drewN]); first | assumption | exact frozen_beyond (by (try simp only [World.size_alloc, World.size_setCell, World.size_drew, sz_drewN]); omega)), (by (try simp only [World.size_alloc, World.size_setCell, World.size_drew, sz_drewN]); omega)⟩
      obtain ⟨r0, r1, rf, rg, rl⟩ := kept2 (b := w.heap.size + 1 + 1) (x := .int .i64 0) (y := .int .i64 0) hb ⟨by go_cell, by go_cell, (by (try simp only [frozen?_alloc_cells, World.frozen?_setCell, fz_drew, fz_drewN]); first | assumption | exact frozen_beyond (by (try simp only [World.size_alloc, World.size_setCell, World.size_drew, sz_drewN]); omega)), (by (try simp only [frozen?_alloc_cells, World.frozen?_setCell, fz_drew, fz_drewN]); first | assumption | exact frozen_beyond (by (try simp only [World.size_alloc, World.size_setCell, World.size_drew, sz_drewN]); omega)), (by (try simp only [World.size_alloc, World.size_setCell, World.size_drew, sz_drewN]); omega)⟩
      have B1 : Bl w w1 := Bl.tr (by go_grown) hb
      clear hb
      rw [Ha.out]
      go_wp2_with fail
      refine (validRatio_any _ _ _).mono ?_
      rintro e w2 ⟨rfl, hb⟩
      obtain ⟨u0, u1, uf, ug, ul⟩ := kept2 (b := w.heap.size) (x := .int .i64 an) (y := .int .i64 ad) hb ⟨by go_cell, by go_cell, (by (try simp only [frozen?_alloc_cells, World.frozen?_setCell, fz_drew, fz_drewN]); first | assumption | exact frozen_beyond (by (try simp only [World.size_alloc, World.size_setCell, World.size_drew, sz_drewN]); omega)), (by (try simp only [frozen?_alloc_cells, World.frozen?_setCell, fz_drew, fz_drewN]); first | assumption | exact frozen_beyond (by (try simp only [World.size_alloc, World.size_setCell, World.size_drew, sz_drewN]); omega)), (by (try simp only [World.size_alloc, World.size_setCell, World.size_drew, sz_drewN]); omega)⟩
      obtain ⟨v0, v1, vf, vg, vl⟩ := kept2 (b := w.heap.size + 1) (x := .int .i64 bn) (y := .int .i64 bd) hb ⟨by go_cell, by go_cell, (by (try simp only [frozen?_alloc_cells, World.frozen?_setCell, fz_drew, fz_drewN]); first | assumption | exact frozen_beyond (by (try simp only [World.size_alloc, World.size_setCell, World.size_drew, sz_drewN]); omega)), (by (try simp only [frozen?_alloc_cells, World.frozen?_setCell, fz_drew, fz_drewN]); first | assumption | exact frozen_beyond (by (try simp only [World.size_alloc, World.size_setCell, World.size_drew, sz_drewN]); omega)), (by (try simp only [World.size_alloc, World.size_setCell, World.size_drew, sz_drewN]); omega)⟩
      obtain ⟨r0, r1, rf, rg, rl⟩ := kept2 (b := w.heap.size + 1 + 1) (x := .int .i64 0) (y := .int .i64 0) hb ⟨by go_cell, by go_cell, (by (try simp only [frozen?_alloc_cells, World.frozen?_setCell, fz_drew, fz_drewN]); first | assumption | exact frozen_beyond (by (try simp only [World.size_alloc, World.size_setCell, World.size_drew, sz_drewN]); omega)), (by (try simp only [frozen?_alloc_cells, World.frozen?_setCell, fz_drew, fz_drewN]); first | assumption | exact frozen_beyond (by (try simp only [World.size_alloc, World.size_setCell, World.size_drew, sz_drewN]); omega)), (by (try simp only [World.size_alloc, World.size_setCell, World.size_drew, sz_drewN]); omega)⟩
      have B2 : Bl w w2 := Below.trans (by go_grown) (hb.mono (by (try simp only [World.size_alloc, World.size_setCell, World.size_drew, sz_drewN]); omega))
      clear hb
      rw [Hb.out]
      go_wp2
      all_goals (refine bodyPost_ret (by simp [results, Tryd.results9, go_sem, r0, r1]; try rfl) rfl ⟨?_, by go_grown⟩)
      all_goals (refine rR_eq (r := mulF an ad bn bd) ?_ ?_ ?_ <;> (rw [mulF, if_neg (by rw [Ha.out, Hb.out]; simp)] <;> (repeat' split) <;> (try simp) <;> omega))
  · have hva : vR an ad = false := by simpa using hva
    have Ha := Lib.hid hva
    clear hva
    go_enter Tryd.func9, Tryd.ntmps9
    go_wp2_with fail
    refine (validRatio_any _ _ _).mono ?_
    rintro e w1 ⟨rfl, hb⟩
    obtain ⟨u0, u1, uf, ug, ul⟩ := kept2 (b := w.heap.size) (x := .int .i64 an) (y := .int .i64 ad) hb ⟨by go_cell, by go_cell, (by (try simp only [frozen?_alloc_cells, World.frozen?_setCell, fz_drew, fz_drewN]); first | assumption | exact frozen_beyond (by (try simp only [World.size_alloc, World.size_setCell, World.size_drew, sz_drewN]); omega)), (by (try simp only [frozen?_alloc_cells, World.frozen?_setCell, fz_drew, fz_drewN]); first | assumption | exact frozen_beyond (by (try simp only [World.size_alloc, World.size_setCell, World.size_drew, sz_drewN]); omega)), (by (try simp only [World.size_alloc, World.size_setCell, World.size_drew, sz_drewN]); omega)⟩
    obtain ⟨v0, v1, vf, vg, vl⟩ := kept2 (b := w.heap.size + 1) (x := .int .i64 bn) (y := .int .i64 bd) hb ⟨by go_cell, by go_cell, (by (try simp only [frozen?_alloc_cells, World.frozen?_setCell, fz_drew, fz_drewN]); first | assumption | exact frozen_beyond (by (try simp only [World.size_alloc, World.size_setCell, World.size_drew, sz_drewN]); omega)), (by (try simp only [frozen?_alloc_cells, World.frozen?_setCell, fz_drew, fz_drewN]); first | assumption | exact frozen_beyond (by (try simp only [World.size_alloc, World.size_setCell, World.size_drew, sz_drewN]); omega)), (by (try simp only [World.size_alloc, World.size_setCell, World.size_drew, sz_drewN]); omega)⟩
    obtain ⟨r0, r1, rf, rg, rl⟩ := kept2 (b := w.heap.size + 1 + 1) (x := .int .i64 0) (y := .int .i64 0) hb ⟨by go_cell, by go_cell, (by (try simp only [frozen?_alloc_cells, World.frozen?_setCell, fz_drew, fz_drewN]); first | assumption | exact frozen_beyond (by (try simp only [World.size_alloc, World.size_setCell, World.size_drew, sz_drewN]); omega)), (by (try simp only [frozen?_alloc_cells, World.frozen?_setCell, fz_drew, fz_drewN]); first | assumption | exact frozen_beyond (by (try simp only [World.size_alloc, World.size_setCell, World.size_drew, sz_drewN]); omega)), (by (try simp only [World.size_alloc, World.size_setCell, World.size_drew, sz_drewN]); omega)⟩
    have B1 : Bl w w1 := Bl.tr (by go_grown) hb
    clear hb
    rw [Ha.out]
    go_wp2
    all_goals (refine bodyPost_ret (by simp [results, Tryd.results9, go_sem, r0, r1]; try rfl) rfl ⟨?_, by go_grown⟩)
    all_goals (refine rR_eq (r := mulF an ad bn bd) ?_ ?_ ?_ <;> (rw [mulF, if_neg (by rw [Ha.out]; simp)] <;> (repeat' split) <;> (try simp) <;> omega))

set_option maxHeartbeats 800000 in
theorem cmp_any (an ad bn bd : Int) (w : World) :
    Calls Tryd.prog 10 #[.agg #[.int .i64 an, .int .i64 ad], .agg #[.int .i64 bn, .int .i64 bd]] w fun e w' => e = .returned (.int .i64 (cmpF an ad bn bd)) ∧ Bl w w' := by
  by_cases hva : vR an ad = true
  · by_cases hvb : vR bn bd = true
    · obtain ⟨⟨a1, a2, a3, a4⟩, -⟩ := vR_iff.1 hva
      obtain ⟨⟨b1, b2, b3, b4⟩, -⟩ := vR_iff.1 hvb
      have Ha := Lib.hid hva
      clear hva
      have Hb := Lib.hid hvb
      clear hvb
      obtain ⟨p1, p2⟩ := mul_bd (x := an) (y := bd) (by omega) (by omega) (by omega) (by omega)
      obtain ⟨p3, p4⟩ := mul_bd (x := bn) (y := ad) (by omega) (by omega) (by omega) (by omega)
      obtain ⟨p5, p6⟩ := mul_bd (x := ad) (y := bd) (by omega) (by omega) (by omega) (by omega)
      obtain ⟨p8, p9⟩ := mul_bd (x := an) (y := bn) (by omega) (by omega) (by omega) (by omega)
      have p7 := mul_pos' a1 b1
      go_enter Tryd.func10, Tryd.ntmps10
      go_wp2_with fail
      refine (validRatio_any _ _ _).mono ?_
      rintro e w1 ⟨rfl, hb⟩
      obtain ⟨u0, u1, uf, ug, ul⟩ := kept2 (b := w.heap.size) (x := .int .i64 an) (y := .int .i64 ad) hb ⟨by go_cell, by go_cell, (by (try simp only [frozen?_alloc_cells, World.frozen?_setCell, fz_drew, fz_drewN]); first | assumption | exact frozen_beyond (by (try simp only [World.size_alloc, World.size_setCell, World.size_drew, sz_drewN]); omega)), (by (try simp only [frozen?_alloc_cells, World.frozen?_setCell, fz_drew, fz_drewN]); first | assumption | exact frozen_beyond (by (try simp only [World.size_alloc, World.size_setCell, World.size_drew, sz_drewN]); omega)), (by (try simp only [World.size_alloc, World.size_setCell, World.size_drew, sz_drewN]); omega)⟩
      obtain ⟨v0, v1, vf, vg, vl⟩ := kept2 (b := w.heap.size + 1) (x := .int .i64 bn) (y := .int .i64 bd) hb ⟨by go_cell, by go_cell, (by (try simp only [frozen?_alloc_cells, World.frozen?_setCell, fz_drew, fz_drewN]); first | assumption | exact frozen_beyond (by (try simp only [World.size_alloc, World.size_setCell, World.size_drew, sz_drewN]); omega)), (by (try simp only [frozen?_alloc_cells, World.frozen?_setCell, fz_drew, fz_drewN]); first | assumption | exact frozen_beyond (by (try simp only [World.size_alloc, World.size_setCell, World.size_drew, sz_drewN]); omega)), (by (try simp only [World.size_alloc, World.size_setCell, World.size_drew, sz_drewN]); omega)⟩
      have B1 : Bl w w1 := Bl.tr (by go_grown) hb
      clear hb
      rw [Ha.out]
      go_wp2_with fail
      refine (validRatio_any _ _ _).mono ?_
      rintro e w2 ⟨rfl, hb⟩
      obtain ⟨u0, u1, uf, ug, ul⟩ := kept2 (b := w.heap.size) (x := .int .i64 an) (y := .int .i64 ad) hb ⟨by go_cell, by go_cell, (by (try simp only [frozen?_alloc_cells, World.frozen?_setCell, fz_drew, fz_drewN]); first | assumption | exact frozen_beyond (by (try simp only [World.size_alloc, World.size_setCell, World.size_drew, sz_drewN]); omega)), (by (try simp only [frozen?_alloc_cells, World.frozen?_setCell, fz_drew, fz_drewN]); first | assumption | exact frozen_beyond (by (try simp only [World.size_alloc, World.size_setCell, World.size_drew, sz_drewN]); omega)), (by (try simp only [World.size_alloc, World.size_setCell, World.size_drew, sz_drewN]); omega)⟩
      obtain ⟨v0, v1, vf, vg, vl⟩ := kept2 (b := w.heap.size + 1) (x := .int .i64 bn) (y := .int .i64 bd) hb ⟨by go_cell, by go_cell, (by (try simp only [frozen?_alloc_cells, World.frozen?_setCell, fz_drew, fz_drewN]); first | assumption | exact frozen_beyond (by (try simp only [World.size_alloc, World.size_setCell, World.size_drew, sz_drewN]); omega)), (by (try simp only [frozen?_alloc_cells, World.frozen?_setCell, fz_drew, fz_drewN]); first | assumption | exact frozen_beyond (by (try simp only [World.size_alloc, World.size_setCell, World.size_drew, sz_drewN]); omega)), (by (try simp only [World.size_alloc, World.size_setCell, World.size_drew, sz_drewN]); omega)⟩
      have B2 : Bl w w2 := Below.trans (by go_grown) (hb.mono (by (try simp only [World.size_alloc, World.size_setCell, World.size_drew, sz_drewN]); omega))
      clear hb
      rw [Hb.out]
      go_wp2_with (go_at_call 24; refine (cmpint_any _ _ _).mono ?_; rintro e w' ⟨rfl, rfl⟩)
      go_ret
      exact ⟨ret_int (by rw [cmpF, if_pos (by rw [Ha.out, Hb.out]; rfl)]), by go_grown⟩
    · have hvb : vR bn bd = false := by simpa using hvb
      have Ha := Lib.hid hva
      clear hva
      have Hb := Lib.hid hvb
      clear hvb
      go_enter Tryd.func10, Tryd.ntmps10
      go_wp2_with fail
      refine (validRatio_any _ _ _).mono ?_
      rintro e w1 ⟨rfl, hb⟩
      obtain ⟨u0, u1, uf, ug, ul⟩ := kept2 (b := w.heap.size) (x := .int .i64 an) (y := .int .i64 ad) hb ⟨by go_cell, by go_cell, (by (try simp only [frozen?_alloc_cells, World.frozen?_setCell, fz_drew, fz_drewN]); first | assumption | exact frozen_beyond (by (try simp only [World.size_alloc, World.size_setCell, World.size_drew, sz_drewN]); omega)), (by (try simp only [frozen?_alloc_cells, World.frozen?_setCell, fz_drew, fz_drewN]); first | assumption | exact frozen_beyond (by (try simp only [World.size_alloc, World.size_setCell, World.size_drew, sz_drewN]); omega)), (by (try simp only [World.size_alloc, World.size_setCell, World.size_drew, sz_drewN]); omega)⟩
      obtain ⟨v0, v1, vf, vg, vl⟩ := kept2 (b := w.heap.size + 1) (x := .int .i64 bn) (y := .int .i64 bd) hb ⟨by go_cell, by go_cell, (by (try simp only [frozen?_alloc_cells, World.frozen?_setCell, fz_drew, fz_drewN]); first | assumption | exact frozen_beyond (by (try simp only [World.size_alloc, World.size_setCell, World.size_drew, sz_drewN]); omega)), (by (try simp only [frozen?_alloc_cells, World.frozen?_setCell, fz_drew, fz_drewN]); first | assumption | exact frozen_beyond (by (try simp only [World.size_alloc, World.size_setCell, World.size_drew, sz_drewN]); omega)), (by (try simp only [World.size_alloc, World.size_setCell, World.size_drew, sz_drewN]); omega)⟩
      have B1 : Bl w w1 := Bl.tr (by go_grown) hb
      clear hb
      rw [Ha.out]
      go_wp2_with fail
      refine (validRatio_any _ _ _).mono ?_
      rintro e w2 ⟨rfl, hb⟩
      obtain ⟨u0, u1, uf, ug, ul⟩ := kept2 (b := w.heap.size) (x := .int .i64 an) (y := .int .i64 ad) hb ⟨by go_cell, by go_cell, (by (try simp only [frozen?_alloc_cells, World.frozen?_setCell, fz_drew, fz_drewN]); first | assumption | exact frozen_beyond (by (try simp only [World.size_alloc, World.size_setCell, World.size_drew, sz_drewN]); omega)), (by (try simp only [frozen?_alloc_cells, World.frozen?_setCell, fz_drew, fz_drewN]); first | assumption | exact frozen_beyond (by (try simp only [World.size_alloc, World.size_setCell, World.size_drew, sz_drewN]); omega)), (by (try simp only [World.size_alloc, World.size_setCell, World.size_drew, sz_drewN]); omega)⟩
      obtain ⟨v0, v1, vf, vg, vl⟩ := kept2 (b := w.heap.size + 1) (x := .int .i64 bn) (y := .int .i64 bd) hb ⟨by go_cell, by go_cell, (by (try simp only [frozen?_alloc_cells, World.frozen?_setCell, fz_drew, fz_drewN]); first | assumption | exact frozen_beyond (by (try simp only [World.size_alloc, World.size_setCell, World.size_drew, sz_drewN]); omega)), (by (try simp only [frozen?_alloc_cells, World.frozen?_setCell, fz_drew, fz_drewN]); first | assumption | exact frozen_beyond (by (try simp only [World.size_alloc, World.size_setCell, World.size_drew, sz_drewN]); omega)), (by (try simp only [World.size_alloc, World.size_setCell, World.size_drew, sz_drewN]); omega)⟩
      have B2 : Bl w w2 := Below.trans (by go_grown) (hb.mono (by (try simp only [World.size_alloc, World.size_setCell, World.size_drew, sz_drewN]); omega))
      clear hb
      rw [Hb.out]
      go_wp2
      go_ret
      exact ⟨ret_int (by rw [cmpF, if_neg (by rw [Ha.out, Hb.out]; simp)]), by go_grown⟩
  · have hva : vR an ad = false := by simpa using hva
    have Ha := Lib.hid hva
    clear hva
    go_enter Tryd.func10, Tryd.ntmps10
    go_wp2_with fail
    refine (validRatio_any _ _ _).mono ?_
    rintro e w1 ⟨rfl, hb⟩
    obtain ⟨u0, u1, uf, ug, ul⟩ := kept2 (b := w.heap.size) (x := .int .i64 an) (y := .int .i64 ad) hb ⟨by go_cell, by go_cell, (by (try simp only [frozen?_alloc_cells, World.frozen?_setCell, fz_drew, fz_drewN]); first | assumption | exact frozen_beyond (by (try simp only [World.size_alloc, World.size_setCell, World.size_drew, sz_drewN]); omega)), (by (try simp only [frozen?_alloc_cells, World.frozen?_setCell, fz_drew, fz_drewN]); first | assumption | exact frozen_beyond (by (try simp only [World.size_alloc, World.size_setCell, World.size_drew, sz_drewN]); omega)), (by (try simp only [World.size_alloc, World.size_setCell, World.size_drew, sz_drewN]); omega)⟩
    obtain ⟨v0, v1, vf, vg, vl⟩ := kept2 (b := w.heap.size + 1) (x := .int .i64 bn) (y := .int .i64 bd) hb ⟨by go_cell, by go_cell, (by (try simp only [frozen?_alloc_cells, World.frozen?_setCell, fz_drew, fz_drewN]); first | assumption | exact frozen_beyond (by (try simp only [World.size_alloc, World.size_setCell, World.size_drew, sz_drewN]); omega)), (by (try simp only [frozen?_alloc_cells, World.frozen?_setCell, fz_drew, fz_drewN]); first | assumption | exact frozen_beyond (by (try simp only [World.size_alloc, World.size_setCell, World.size_drew, sz_drewN]); omega)), (by (try simp only [World.size_alloc, World.size_setCell, World.size_drew, sz_drewN]); omega)⟩
    have B1 : Bl w w1 := Bl.tr (by go_grown) hb
    clear hb
    rw [Ha.out]
    go_wp2
    go_ret
    exact ⟨ret_int (by rw [cmpF, if_neg (by rw [Ha.out]; simp)]), by go_grown⟩
