/-
  The walk of GunWhere.
-/
import Derived.Test.YthemoomfbbccjaaHI
import Derived.Test.YthemoomfbbccjaaGW
import Derived.Test.YthemoomfbbccjaaGR
namespace Go.Proofs.Ythemoomfbbccjaa
open Go.RowKit
set_option linter.unusedSimpArgs false
set_option linter.unusedVariables false

def HvPost (w : World) (e : Ending) (w' : World) : Prop := (∃ b, e = .returned (.bool b)) ∧ Bl w w'
set_option maxRecDepth 100000 in
set_option maxHeartbeats 6400000 in
theorem heavy_any (lo hi : Pt) (st : Int) (w : World) :
    Calls Try.prog 6 #[.agg #[.int .i64 lo.x, .int .i64 lo.y, .int .i64 hi.x, .int .i64 hi.y, .int .i64 st]] w (HvPost w) := by
  by_cases h0 : st < 1
  · go_enter Try.func6, Try.ntmps6
    go_wp2_with fail
    go_ret
    exact ⟨⟨_, rfl⟩, by go_grown⟩
  have g0 : 1 ≤ st := by omega
  clear h0
  by_cases h1 : 10000 < st
  · go_enter Try.func6, Try.ntmps6
    go_wp2_with fail
    go_ret
    exact ⟨⟨_, rfl⟩, by go_grown⟩
  have g1 : st ≤ 10000 := by omega
  clear h1
  by_cases h2 : lo.x < -50000
  · go_enter Try.func6, Try.ntmps6
    go_wp2_with fail
    go_ret
    exact ⟨⟨_, rfl⟩, by go_grown⟩
  have g2 : -50000 ≤ lo.x := by omega
  clear h2
  by_cases h3 : lo.y < -50000
  · go_enter Try.func6, Try.ntmps6
    go_wp2_with fail
    go_ret
    exact ⟨⟨_, rfl⟩, by go_grown⟩
  have g3 : -50000 ≤ lo.y := by omega
  clear h3
  by_cases h4 : 50000 < hi.x
  · go_enter Try.func6, Try.ntmps6
    go_wp2_with fail
    go_ret
    exact ⟨⟨_, rfl⟩, by go_grown⟩
  have g4 : hi.x ≤ 50000 := by omega
  clear h4
  by_cases h5 : 50000 < hi.y
  · go_enter Try.func6, Try.ntmps6
    go_wp2_with fail
    go_ret
    exact ⟨⟨_, rfl⟩, by go_grown⟩
  have g5 : hi.y ≤ 50000 := by omega
  clear h5
  by_cases h6 : hi.x < lo.x
  · go_enter Try.func6, Try.ntmps6
    go_wp2_with fail
    go_ret
    exact ⟨⟨_, rfl⟩, by go_grown⟩
  have g6 : lo.x ≤ hi.x := by omega
  clear h6
  by_cases h7 : hi.y < lo.y
  · go_enter Try.func6, Try.ntmps6
    go_wp2_with fail
    go_ret
    exact ⟨⟨_, rfl⟩, by go_grown⟩
  have g7 : lo.y ≤ hi.y := by omega
  clear h7
  obtain ⟨qx, hqx⟩ : ∃ q, q = (hi.x - lo.x) / st := ⟨_, rfl⟩
  obtain ⟨qy, hqy⟩ : ∃ q, q = (hi.y - lo.y) / st := ⟨_, rfl⟩
  obtain ⟨dx, hdx⟩ : ∃ q, q = hi.x - lo.x := ⟨_, rfl⟩
  obtain ⟨dy, hdy⟩ : ∃ q, q = hi.y - lo.y := ⟨_, rfl⟩
  have bx := cols_bd (st := st) g0 g6
  have by_ := cols_bd (st := st) g0 g7
  rw [← hqx] at bx
  rw [← hqy] at by_
  obtain ⟨bx1, bx2⟩ := bx
  obtain ⟨by1, by2⟩ := by_
  rw [← hdx] at hqx bx2
  rw [← hdy] at hqy by2
  have tx : dx.tdiv st = qx := by rw [hqx]; exact Int.tdiv_eq_ediv_of_nonneg (by omega)
  have ty : dy.tdiv st = qy := by rw [hqy]; exact Int.tdiv_eq_ediv_of_nonneg (by omega)
  obtain ⟨m, hm⟩ : ∃ m, (qx + 1) * (qy + 1) = m := ⟨_, rfl⟩
  have hm0 : 0 ≤ m := by rw [← hm]; exact Int.mul_nonneg (by omega) (by omega)
  have hm1 : m ≤ 100001 * 100001 := by rw [← hm]; exact Int.mul_le_mul (by omega) (by omega) (by omega) (by omega)
  have e1 : IntKind.i64.wrap (hi.x - lo.x) = dx := by rw [hdx]; exact IntWalk.i64_in _ (by omega)
  have e2 : IntKind.i64.wrap (hi.y - lo.y) = dy := by rw [hdy]; exact IntWalk.i64_in _ (by omega)
  have e3 : IntKind.i64.wrap (dx.tdiv st) = qx := by rw [tx]; exact IntWalk.i64_in _ (by omega)
  have e4 : IntKind.i64.wrap (dy.tdiv st) = qy := by rw [ty]; exact IntWalk.i64_in _ (by omega)
  have e5 : IntKind.i64.wrap (qx + 1) = qx + 1 := IntWalk.i64_in _ (by omega)
  have e6 : IntKind.i64.wrap (qy + 1) = qy + 1 := IntWalk.i64_in _ (by omega)
  have e7 : IntKind.i64.wrap ((qx + 1) * (qy + 1)) = m := by rw [hm]; exact IntWalk.i64_in _ (by omega)
  have e8 : (st == 0) = false := by simp; omega
  have e9 : st ≠ 0 := by omega
  have e10 : IntKind.i64.wrap qx = qx := IntWalk.i64_in _ (by omega)
  have e11 : IntKind.i64.wrap qy = qy := IntWalk.i64_in _ (by omega)
  have e12 : dx / st = qx := hqx.symm
  have e13 : dy / st = qy := hqy.symm
  clear hdx hdy hqx hqy hm
  by_cases hm4 : 400 < m
  · go_enter Try.func6, Try.ntmps6
    go_wp2_with fail
    go_quiet (fail)
    go_wp2_with fail
    go_ret
    exact ⟨⟨_, rfl⟩, Bl.tr (by go_grown) (Bl.dr _ _)⟩
  · go_enter Try.func6, Try.ntmps6
    go_wp2_with fail
    go_quiet (fail)
    go_wp2_with fail
    go_ret
    exact ⟨⟨_, rfl⟩, Bl.tr (by go_grown) (Bl.dr _ _)⟩
theorem exclR_shape (a : Air) (S : Nat → Sho) (n : Nat) (lo hi : Pt) : ∃ (x : Bool) (e : Int), exclR a S n lo hi = (x, e) ∧ (x = true → ¬ allB a lo hi S n) := by
  unfold exclR
  split
  · split
    · exact ⟨_, _, rfl, fun h => by simpa using h⟩
    · exact ⟨_, _, rfl, fun h => by cases h⟩
  · exact ⟨_, _, rfl, fun h => by cases h⟩
theorem suits_of {a : Air} {S : Nat → Sho} {n : Nat} {lo hi : Pt} {st : Int} {p : Pt} (h : p ∈ whL a S n lo hi st) : rB (suitsR a S n p) = .tuple #[.bool true, .int .i64 0] := by
  obtain ⟨h0, hb, hs⟩ := whL_mem h
  obtain ⟨ha, hv, hbo, _⟩ := whE_ok h0
  unfold suitsR
  rw [if_pos ⟨ha, hv⟩, if_pos (inBox_isP hbo hb)]
  show Value.tuple #[.bool (decide (suitN a S n p)), .int .i64 0] = _
  rw [decide_eq_true hs]
set_option maxRecDepth 100000 in
set_option maxHeartbeats 16000000 in
theorem where_walk (a : Air) (A : Option Addr) (n c : Nat) (S : Nat → Sho) (lo hi : Pt) (st : Int) (w : World) (hn : n ≤ maxLen) (hA : Shl w A n S) :
    Calls Try.prog 3 #[encA a, .slice A n c, .agg #[.int .i64 lo.x, .int .i64 lo.y, .int .i64 hi.x, .int .i64 hi.y, .int .i64 st]] w fun e w' => e = .returned (.bool true) ∧ Bl w w' := by
  have HA := Lib.hid hA
  have HN := Lib.hid hn
  clear hA hn
  by_cases hf : n ≤ 50
  rotate_left
  · have Q0 := Lib.hid (show decide (n ≤ 50) = false from decide_eq_false hf)
    clear hf
    go_enter Try.func3, Try.ntmps3
    go_wp2_with fail
    refine (few_any A n c _ HN.out).mono ?_
    rintro q1 w1 ⟨rfl, hb⟩
    have xa0 := kcb hb (b := w.heap.size) (o := 0) (v := .int .i64 a.s) (by first | assumption | (refine cellUp ?_; assumption) | go_cell)
    have xa1 := kcb hb (b := w.heap.size) (o := 1) (v := .int .i64 a.w) (by first | assumption | (refine cellUp ?_; assumption) | go_cell)
    have xb0 := kcb hb (b := w.heap.size + 1) (o := 0) (v := .int .i64 lo.x) (by first | assumption | (refine cellUp ?_; assumption) | go_cell)
    have xb1 := kcb hb (b := w.heap.size + 1) (o := 1) (v := .int .i64 lo.y) (by first | assumption | (refine cellUp ?_; assumption) | go_cell)
    have xb2 := kcb hb (b := w.heap.size + 1) (o := 2) (v := .int .i64 hi.x) (by first | assumption | (refine cellUp ?_; assumption) | go_cell)
    have xb3 := kcb hb (b := w.heap.size + 1) (o := 3) (v := .int .i64 hi.y) (by first | assumption | (refine cellUp ?_; assumption) | go_cell)
    have xb4 := kcb hb (b := w.heap.size + 1) (o := 4) (v := .int .i64 st) (by first | assumption | (refine cellUp ?_; assumption) | go_cell)
    have B1 : Bl w w1 := Below.trans (by go_grown) (hb.mono (by (try simp only [World.size_alloc, World.size_setCell, World.size_drew]); omega))
    have l1 := ltb xb4
    have l1_1 := ltb xa1
    have zz1 := B1.size
    clear hb
    rw [Q0.out]
    go_wp2_with fail
    have HB0 := Lib.hid (by first | exact B1 | exact B1.tr (by go_grown))
    refine (awakeG_any _).mono ?_
    rintro e9 w9 ⟨rfl, hb9⟩
    go_wp2_with fail
    go_ret
    exact ⟨rfl, Bl.tr HB0.out hb9⟩
  have Q0 := Lib.hid (show decide (n ≤ 50) = true from decide_eq_true hf)
  clear hf
  have HL := Lib.hid (show ∀ j, j < (whL a S n lo hi st).length → rB (suitsR a S n ((whL a S n lo hi st).getD j ⟨0, 0⟩)) = .tuple #[.bool true, .int .i64 0] from fun j hj => suits_of (by rw [List.getD_eq_getElem?_getD, List.getElem?_eq_getElem hj]; exact List.getElem_mem hj))
  have HEX := Lib.hid (fun h => whL_excl (a := a) (S := S) (n := n) (lo := lo) (hi := hi) (st := st) h)
  obtain ⟨x, xe, hxe, hxo⟩ := exclR_shape a S n lo hi
  have HX := Lib.hid (show rB (exclR a S n lo hi) = .tuple #[.bool x, .int .i64 xe] from by rw [hxe]; rfl)
  have HXO := Lib.hid hxo
  have xx : (xe != xe) = false := by simp
  have bb : (x != x) = false := by simp
  clear hxe hxo
  go_enter Try.func3, Try.ntmps3
  go_wp2_with fail
  refine (few_any A n c _ HN.out).mono ?_
  rintro q1 w1 ⟨rfl, hb⟩
  have xa0 := kcb hb (b := w.heap.size) (o := 0) (v := .int .i64 a.s) (by first | assumption | (refine cellUp ?_; assumption) | go_cell)
  have xa1 := kcb hb (b := w.heap.size) (o := 1) (v := .int .i64 a.w) (by first | assumption | (refine cellUp ?_; assumption) | go_cell)
  have xb0 := kcb hb (b := w.heap.size + 1) (o := 0) (v := .int .i64 lo.x) (by first | assumption | (refine cellUp ?_; assumption) | go_cell)
  have xb1 := kcb hb (b := w.heap.size + 1) (o := 1) (v := .int .i64 lo.y) (by first | assumption | (refine cellUp ?_; assumption) | go_cell)
  have xb2 := kcb hb (b := w.heap.size + 1) (o := 2) (v := .int .i64 hi.x) (by first | assumption | (refine cellUp ?_; assumption) | go_cell)
  have xb3 := kcb hb (b := w.heap.size + 1) (o := 3) (v := .int .i64 hi.y) (by first | assumption | (refine cellUp ?_; assumption) | go_cell)
  have xb4 := kcb hb (b := w.heap.size + 1) (o := 4) (v := .int .i64 st) (by first | assumption | (refine cellUp ?_; assumption) | go_cell)
  have B1 : Bl w w1 := Below.trans (by go_grown) (hb.mono (by (try simp only [World.size_alloc, World.size_setCell, World.size_drew]); omega))
  have l1 := ltb xb4
  have l1_1 := ltb xa1
  have zz1 := B1.size
  clear hb
  rw [Q0.out]
  go_wp2_with fail
  refine (heavy_any lo hi st _).mono ?_
  rintro q2 w2 ⟨⟨hy, rfl⟩, hb⟩
  have xa0 := kcb hb (b := w.heap.size) (o := 0) (v := .int .i64 a.s) (by first | assumption | (refine cellUp ?_; assumption) | go_cell)
  have xa1 := kcb hb (b := w.heap.size) (o := 1) (v := .int .i64 a.w) (by first | assumption | (refine cellUp ?_; assumption) | go_cell)
  have xb0 := kcb hb (b := w.heap.size + 1) (o := 0) (v := .int .i64 lo.x) (by first | assumption | (refine cellUp ?_; assumption) | go_cell)
  have xb1 := kcb hb (b := w.heap.size + 1) (o := 1) (v := .int .i64 lo.y) (by first | assumption | (refine cellUp ?_; assumption) | go_cell)
  have xb2 := kcb hb (b := w.heap.size + 1) (o := 2) (v := .int .i64 hi.x) (by first | assumption | (refine cellUp ?_; assumption) | go_cell)
  have xb3 := kcb hb (b := w.heap.size + 1) (o := 3) (v := .int .i64 hi.y) (by first | assumption | (refine cellUp ?_; assumption) | go_cell)
  have xb4 := kcb hb (b := w.heap.size + 1) (o := 4) (v := .int .i64 st) (by first | assumption | (refine cellUp ?_; assumption) | go_cell)
  have B2 : Bl w w2 := Below.trans (by go_grown) (hb.mono (by (try simp only [World.size_alloc, World.size_setCell, World.size_drew]); omega))
  have l2 := ltb xb4
  have l2_1 := ltb xa1
  have zz2 := B2.size
  clear hb
  cases hy with
  | true =>
    go_wp2_with fail
    have HB0 := Lib.hid (by first | exact B2 | exact B2.tr (by go_grown))
    refine (awakeG_any _).mono ?_
    rintro e9 w9 ⟨rfl, hb9⟩
    go_wp2_with fail
    go_ret
    exact ⟨rfl, Bl.tr HB0.out hb9⟩
  | false =>
    go_wp2_with fail
    refine (Where_any a A n c S lo hi st _ (HA.out.below (by first | exact B2 | exact B2.tr (by go_grown))) HN.out).mono ?_
    rintro e3 w3 ⟨⟨A1, c1, rfl, p1, q1, r1⟩, hb⟩
    have xa0 := kcb hb (b := w.heap.size) (o := 0) (v := .int .i64 a.s) (by first | assumption | (refine cellUp ?_; assumption) | go_cell)
    have xa1 := kcb hb (b := w.heap.size) (o := 1) (v := .int .i64 a.w) (by first | assumption | (refine cellUp ?_; assumption) | go_cell)
    have xb0 := kcb hb (b := w.heap.size + 1) (o := 0) (v := .int .i64 lo.x) (by first | assumption | (refine cellUp ?_; assumption) | go_cell)
    have xb1 := kcb hb (b := w.heap.size + 1) (o := 1) (v := .int .i64 lo.y) (by first | assumption | (refine cellUp ?_; assumption) | go_cell)
    have xb2 := kcb hb (b := w.heap.size + 1) (o := 2) (v := .int .i64 hi.x) (by first | assumption | (refine cellUp ?_; assumption) | go_cell)
    have xb3 := kcb hb (b := w.heap.size + 1) (o := 3) (v := .int .i64 hi.y) (by first | assumption | (refine cellUp ?_; assumption) | go_cell)
    have xb4 := kcb hb (b := w.heap.size + 1) (o := 4) (v := .int .i64 st) (by first | assumption | (refine cellUp ?_; assumption) | go_cell)
    have B3 : Bl w w3 := Below.trans (by first | exact B2 | exact B2.tr (by go_grown)) (hb.mono (by (try simp only [World.size_alloc, World.size_setCell, World.size_drew]); omega))
    have l3 := ltb xa0
    have m3 := ltb xb0
    have zz3 := B3.size
    have R1 := Lib.hid r1
    obtain ⟨L, hL⟩ : ∃ L, L = (whL a S n lo hi st).length := ⟨_, rfl⟩
    obtain ⟨we, hwe⟩ : ∃ we, we = whE a S n lo hi st := ⟨_, rfl⟩
    have HLL := Lib.hid hL
    have HWE := Lib.hid hwe
    rw [← hL] at p1 R1 HL ⊢
    rw [← hwe]
    have we2 : (we != we) = false := by simp
    unfold maxLen at q1
    clear hb r1 hL hwe
    go_wp2_with fail
    refine (rWhere_any a A n c S lo hi st _ (HA.out.below (by first | exact B3 | exact B3.tr (by go_grown))) HN.out).mono ?_
    rintro e4 w4 ⟨⟨A2, c2, rfl, p2, q2, r2⟩, hb⟩
    rw [← HLL.out] at p2 r2 ⊢
    rw [← HWE.out]
    have xa0 := kcb hb (b := w.heap.size) (o := 0) (v := .int .i64 a.s) (by first | assumption | (refine cellUp ?_; assumption) | go_cell)
    have xa1 := kcb hb (b := w.heap.size) (o := 1) (v := .int .i64 a.w) (by first | assumption | (refine cellUp ?_; assumption) | go_cell)
    have xb0 := kcb hb (b := w.heap.size + 1) (o := 0) (v := .int .i64 lo.x) (by first | assumption | (refine cellUp ?_; assumption) | go_cell)
    have xb1 := kcb hb (b := w.heap.size + 1) (o := 1) (v := .int .i64 lo.y) (by first | assumption | (refine cellUp ?_; assumption) | go_cell)
    have xb2 := kcb hb (b := w.heap.size + 1) (o := 2) (v := .int .i64 hi.x) (by first | assumption | (refine cellUp ?_; assumption) | go_cell)
    have xb3 := kcb hb (b := w.heap.size + 1) (o := 3) (v := .int .i64 hi.y) (by first | assumption | (refine cellUp ?_; assumption) | go_cell)
    have xb4 := kcb hb (b := w.heap.size + 1) (o := 4) (v := .int .i64 st) (by first | assumption | (refine cellUp ?_; assumption) | go_cell)
    have B4 : Bl w w4 := Below.trans (by first | exact B3 | exact B3.tr (by go_grown)) (hb.mono (by (try simp only [World.size_alloc, World.size_setCell, World.size_drew]); omega))
    have l4 := ltb xa0
    have m4 := ltb xb0
    have zz4 := B4.size
    have R1 := Lib.hid (R1.out.below (Bl.tr (by go_grown) hb))
    have R2 := Lib.hid r2
    unfold maxLen at q2
    clear hb r2
    go_wp2_with fail
    refine (Excluded_any a A n c S lo hi _ (HA.out.below (by first | exact B4 | exact B4.tr (by go_grown))) HN.out).mono ?_
    rintro e5 w5 ⟨rfl, hb⟩
    rw [HX.out]
    have xa0 := kcb hb (b := w.heap.size) (o := 0) (v := .int .i64 a.s) (by first | assumption | (refine cellUp ?_; assumption) | go_cell)
    have xa1 := kcb hb (b := w.heap.size) (o := 1) (v := .int .i64 a.w) (by first | assumption | (refine cellUp ?_; assumption) | go_cell)
    have xb0 := kcb hb (b := w.heap.size + 1) (o := 0) (v := .int .i64 lo.x) (by first | assumption | (refine cellUp ?_; assumption) | go_cell)
    have xb1 := kcb hb (b := w.heap.size + 1) (o := 1) (v := .int .i64 lo.y) (by first | assumption | (refine cellUp ?_; assumption) | go_cell)
    have xb2 := kcb hb (b := w.heap.size + 1) (o := 2) (v := .int .i64 hi.x) (by first | assumption | (refine cellUp ?_; assumption) | go_cell)
    have xb3 := kcb hb (b := w.heap.size + 1) (o := 3) (v := .int .i64 hi.y) (by first | assumption | (refine cellUp ?_; assumption) | go_cell)
    have xb4 := kcb hb (b := w.heap.size + 1) (o := 4) (v := .int .i64 st) (by first | assumption | (refine cellUp ?_; assumption) | go_cell)
    have B5 : Bl w w5 := Below.trans (by first | exact B4 | exact B4.tr (by go_grown)) (hb.mono (by (try simp only [World.size_alloc, World.size_setCell, World.size_drew]); omega))
    have l5 := ltb xa0
    have m5 := ltb xb0
    have zz5 := B5.size
    have R1 := Lib.hid (R1.out.below (Bl.tr (by go_grown) hb))
    have R2 := Lib.hid (R2.out.below (Bl.tr (by go_grown) hb))
    clear hb
    go_wp2_with fail
    refine (rExcluded_any a A n c S lo hi _ (HA.out.below (by first | exact B5 | exact B5.tr (by go_grown))) HN.out).mono ?_
    rintro e6 w6 ⟨rfl, hb⟩
    rw [HX.out]
    have xa0 := kcb hb (b := w.heap.size) (o := 0) (v := .int .i64 a.s) (by first | assumption | (refine cellUp ?_; assumption) | go_cell)
    have xa1 := kcb hb (b := w.heap.size) (o := 1) (v := .int .i64 a.w) (by first | assumption | (refine cellUp ?_; assumption) | go_cell)
    have xb0 := kcb hb (b := w.heap.size + 1) (o := 0) (v := .int .i64 lo.x) (by first | assumption | (refine cellUp ?_; assumption) | go_cell)
    have xb1 := kcb hb (b := w.heap.size + 1) (o := 1) (v := .int .i64 lo.y) (by first | assumption | (refine cellUp ?_; assumption) | go_cell)
    have xb2 := kcb hb (b := w.heap.size + 1) (o := 2) (v := .int .i64 hi.x) (by first | assumption | (refine cellUp ?_; assumption) | go_cell)
    have xb3 := kcb hb (b := w.heap.size + 1) (o := 3) (v := .int .i64 hi.y) (by first | assumption | (refine cellUp ?_; assumption) | go_cell)
    have xb4 := kcb hb (b := w.heap.size + 1) (o := 4) (v := .int .i64 st) (by first | assumption | (refine cellUp ?_; assumption) | go_cell)
    have B6 : Bl w w6 := Below.trans (by first | exact B5 | exact B5.tr (by go_grown)) (hb.mono (by (try simp only [World.size_alloc, World.size_setCell, World.size_drew]); omega))
    have l6 := ltb xa0
    have m6 := ltb xb0
    have zz6 := B6.size
    have R1 := Lib.hid (R1.out.below (Bl.tr (by go_grown) hb))
    have R2 := Lib.hid (R2.out.below (Bl.tr (by go_grown) hb))
    clear hb
    go_wp2_with fail
    refine (samePts_any A1 L c1 A2 c2 (fun j => (whL a S n lo hi st).getD j ⟨0, 0⟩) _ (by unfold maxLen; omega) R1.out R2.out).mono ?_
    rintro e7 w7 ⟨rfl, hb⟩
    have xa0 := kcb hb (b := w.heap.size) (o := 0) (v := .int .i64 a.s) (by first | assumption | (refine cellUp ?_; assumption) | go_cell)
    have xa1 := kcb hb (b := w.heap.size) (o := 1) (v := .int .i64 a.w) (by first | assumption | (refine cellUp ?_; assumption) | go_cell)
    have xb0 := kcb hb (b := w.heap.size + 1) (o := 0) (v := .int .i64 lo.x) (by first | assumption | (refine cellUp ?_; assumption) | go_cell)
    have xb1 := kcb hb (b := w.heap.size + 1) (o := 1) (v := .int .i64 lo.y) (by first | assumption | (refine cellUp ?_; assumption) | go_cell)
    have xb2 := kcb hb (b := w.heap.size + 1) (o := 2) (v := .int .i64 hi.x) (by first | assumption | (refine cellUp ?_; assumption) | go_cell)
    have xb3 := kcb hb (b := w.heap.size + 1) (o := 3) (v := .int .i64 hi.y) (by first | assumption | (refine cellUp ?_; assumption) | go_cell)
    have xb4 := kcb hb (b := w.heap.size + 1) (o := 4) (v := .int .i64 st) (by first | assumption | (refine cellUp ?_; assumption) | go_cell)
    have B7 : Bl w w7 := Below.trans (by first | exact B6 | exact B6.tr (by go_grown)) (hb.mono (by (try simp only [World.size_alloc, World.size_setCell, World.size_drew]); omega))
    have l7 := ltb xa0
    have m7 := ltb xb0
    have zz7 := B7.size
    have R1 := Lib.hid (R1.out.below (Bl.tr (by go_grown) hb))
    clear hb
    have HR := Lib.hid (And.intro xa0 xa1)
    have HBB := Lib.hid B7
    have l7' : w.heap.size < w7.heap.size := l7
    cases x with
    | true =>
      have HL0 := Lib.hid (show L = 0 from by rw [HLL.out, HEX.out (HXO.out rfl)]; rfl)
      have L0 : ¬ 0 < L := by have := HL0.out; omega
      go_wp2_with fail
      go_loopw [100] (fun i wr => ∃ j : Nat, j ≤ L ∧ i = .int .i64 j ∧ Bl w7 wr) (fun i _ => L - (RowKit.intOf i).toNat)
      case atStart => exact ⟨0, Nat.zero_le _, rfl, Bl.rf _⟩
      case round =>
        obtain ⟨j, hj, rfl, hb⟩ := hrel
        have HBj := Lib.hid hb
        have zj := hb.size
        have c0 := kcb hb HR.out.1
        have c1' := kcb hb HR.out.2
        have l9 := ltb c0
        clear hb
        by_cases hlt : j < L
        · exact absurd hlt (by have := HL0.out; omega)
        · obtain rfl : j = L := by omega
          go_wp2_with fail
          have HB0 := Lib.hid (Bl.tr HBB.out HBj.out)
          refine (awakeG_any _).mono ?_
          rintro e9 w9 ⟨rfl, hb9⟩
          go_wp2_with fail
          go_ret
          exact ⟨rfl, Bl.tr HB0.out hb9⟩
    | false =>
      go_wp2_with fail
      go_loopw [100] (fun i wr => ∃ j : Nat, j ≤ L ∧ i = .int .i64 j ∧ Bl w7 wr) (fun i _ => L - (RowKit.intOf i).toNat)
      case atStart => exact ⟨0, Nat.zero_le _, rfl, Bl.rf _⟩
      case round =>
        obtain ⟨j, hj, rfl, hb⟩ := hrel
        have HBj := Lib.hid hb
        have zj := hb.size
        have c0 := kcb hb HR.out.1
        have c1' := kcb hb HR.out.2
        have l9 := ltb c0
        clear hb
        by_cases hlt : j < L
        · obtain ⟨b, off, rfl, hbb, hcc⟩ := R1.out (by omega)
          obtain ⟨g0, g1⟩ := hcc j hlt
          have g0 := kcb HBj.out g0
          have g1 := kcb HBj.out g1
          have hbb' := Nat.lt_of_lt_of_le hbb zj
          have HS := Lib.hid (HL.out j hlt)
          obtain ⟨p, hp⟩ : ∃ p, p = (whL a S n lo hi st).getD j ⟨0, 0⟩ := ⟨_, rfl⟩
          dsimp only at g0 g1
          rw [← hp] at g0 g1 HS
          clear hcc hp
          go_wp2_with fail
          refine (Suits_any a A n c S p _ (HA.out.below (Bl.tr (HBB.out.tr HBj.out) (by go_grown))) HN.out).mono ?_
          rintro e8 w8 ⟨rfl, hb8⟩
          rw [HS.out]
          have HB8 := Lib.hid (show Bl w7 w8 from Bl.tr HBj.out (Bl.tr (by go_grown) hb8))
          clear hb8
          go_wp2_with fail
          go_roundw
          case rel => exact ⟨j + 1, by omega, by go_num, HB8.out⟩
          case measure => simp [RowKit.intOf]; omega
        · obtain rfl : j = L := by omega
          go_wp2_with fail
          have HB0 := Lib.hid (Bl.tr HBB.out HBj.out)
          refine (awakeG_any _).mono ?_
          rintro e9 w9 ⟨rfl, hb9⟩
          go_wp2_with fail
          go_ret
          exact ⟨rfl, Bl.tr HB0.out hb9⟩
end Go.Proofs.Ythemoomfbbccjaa
