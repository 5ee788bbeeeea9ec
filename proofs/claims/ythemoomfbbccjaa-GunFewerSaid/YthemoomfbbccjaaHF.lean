/-
  Contracts of the reference of package gun: Where.
-/
import Derived.Test.YthemoomfbbccjaaHE
namespace Go.Proofs.Ythemoomfbbccjaa
open Go.RowKit
set_option linter.unusedSimpArgs false
set_option linter.unusedVariables false

set_option maxRecDepth 100000 in
set_option maxHeartbeats 6400000 in
theorem rWhere_any (a : Air) (A : Option Addr) (n c : Nat) (S : Nat → Sho) (lo hi : Pt) (st : Int) (w : World) (hA : Shl w A n S) (hn : n ≤ maxLen) :
    Calls Try.prog 9 #[encA a, .slice A n c, encP lo, encP hi, .int .i64 st] w (WhPost a S n lo hi st w) := by
  obtain ⟨i0, hi0, hz0, hz1, hz2⟩ := info_parts point_info
  have HI := Lib.hid (And.intro hi0 (And.intro hz0 (And.intro hz1 hz2)))
  clear hi0 hz0 hz1 hz2
  have HA := Lib.hid hA
  have HN := Lib.hid hn
  clear hA hn
  by_cases hv : VA a ∧ VSh S n
  · have Q0 := Lib.hid (show decide (VA a ∧ VSh S n) = true from decide_eq_true hv)
    have HAA := Lib.hid hv.1
    have HV := Lib.hid hv.2.2.2
    by_cases hb : boxOk lo hi
    · have Q1 := Lib.hid (show decide (boxOk lo hi) = true from decide_eq_true hb)
      have HB := Lib.hid hb
      by_cases hs : stOk st
      · have Q2 := Lib.hid (show decide (1 ≤ st ∧ st ≤ 10000) = true from decide_eq_true hs)
        have HST := Lib.hid hs
        obtain ⟨s1, s2⟩ := hs
        obtain ⟨qx, hqx⟩ : ∃ q, q = (hi.x - lo.x) / st := ⟨_, rfl⟩
        obtain ⟨qy, hqy⟩ : ∃ q, q = (hi.y - lo.y) / st := ⟨_, rfl⟩
        obtain ⟨dx, hdx⟩ : ∃ q, q = hi.x - lo.x := ⟨_, rfl⟩
        obtain ⟨dy, hdy⟩ : ∃ q, q = hi.y - lo.y := ⟨_, rfl⟩
        have bx := cols_bd (st := st) s1 hb.2.2.1
        have by_ := cols_bd (st := st) s1 hb.2.2.2
        have lx := hb.1.1.1
        have lx' := hb.1.1.2
        have ly := hb.1.2.1
        have ly' := hb.1.2.2
        have hx := hb.2.1.1.1
        have hx' := hb.2.1.1.2
        have hy := hb.2.1.2.1
        have hy' := hb.2.1.2.2
        have ox := hb.2.2.1
        have oy := hb.2.2.2
        rw [← hqx] at bx
        rw [← hqy] at by_
        obtain ⟨bx1, bx2⟩ := bx
        obtain ⟨by1, by2⟩ := by_
        rw [← hdx] at hqx bx2
        rw [← hdy] at hqy by2
        have tx : dx.tdiv st = qx := by rw [hqx]; exact Int.tdiv_eq_ediv_of_nonneg (by omega)
        have ty : dy.tdiv st = qy := by rw [hqy]; exact Int.tdiv_eq_ediv_of_nonneg (by omega)
        obtain ⟨m, hm⟩ : ∃ m, (qx + 1) * (qy + 1) = m := ⟨_, rfl⟩
        have hm0 : 0 ≤ m := by rw [← hm]; exact Int.mul_nonneg (by omega) (by omega)
        have hm1 : m ≤ 100001 * 100001 := by rw [← hm]; exact Int.mul_le_mul (by omega) (by omega) (by omega) (by omega)
        have HC := Lib.hid (show cntF lo hi st = m by unfold cntF; rw [← hdx, ← hdy, ← hqx, ← hqy]; exact hm)
        have e1 : IntKind.i64.wrap (hi.x - lo.x) = dx := by rw [hdx]; exact IntWalk.i64_in _ (by omega)
        have e2 : IntKind.i64.wrap (hi.y - lo.y) = dy := by rw [hdy]; exact IntWalk.i64_in _ (by omega)
        have e3 : IntKind.i64.wrap (dx.tdiv st) = qx := by rw [tx]; exact IntWalk.i64_in _ (by omega)
        have e4 : IntKind.i64.wrap (dy.tdiv st) = qy := by rw [ty]; exact IntWalk.i64_in _ (by omega)
        have e5 : IntKind.i64.wrap (qx + 1) = qx + 1 := IntWalk.i64_in _ (by omega)
        have e6 : IntKind.i64.wrap (qy + 1) = qy + 1 := IntWalk.i64_in _ (by omega)
        have e7 : IntKind.i64.wrap ((qx + 1) * (qy + 1)) = m := by rw [hm]; exact IntWalk.i64_in _ (by omega)
        have e8 : (st == 0) = false := by simp; omega
        have e9 : st ≠ 0 := by omega
        have e10 : IntKind.i64.wrap qx = qx := IntWalk.i64_in _ (by omega)
        have e11 : IntKind.i64.wrap qy = qy := IntWalk.i64_in _ (by omega)
        have e12 : dx / st = qx := hqx.symm
        have e13 : dy / st = qy := hqy.symm
        by_cases hc : 10000 < m
        · have HE := Lib.hid (show whE a S n lo hi st = 4 by unfold whE; rw [if_pos hv, if_pos ⟨hb, s1, s2⟩, HC.out, if_pos hc])
          clear hv hb hdx hdy hqx hqy hm lx lx' ly ly' hx hx' hy hy' ox oy
          go_enter Try.func9, Try.ntmps9
          go_wp2_with fail
          refine (valid5_any a A n c S _ (HA.out.below (by go_grown)) HN.out).mono ?_
          rintro q1 w1 ⟨rfl, hb⟩
          have xa0 := kcb hb (b := w.heap.size) (o := 0) (v := .int .i64 a.s) (by first | assumption | (refine cellUp ?_; assumption) | go_cell)
          have xa1 := kcb hb (b := w.heap.size) (o := 1) (v := .int .i64 a.w) (by first | assumption | (refine cellUp ?_; assumption) | go_cell)
          have xlo0 := kcb hb (b := w.heap.size + 1) (o := 0) (v := .int .i64 lo.x) (by first | assumption | (refine cellUp ?_; assumption) | go_cell)
          have xlo1 := kcb hb (b := w.heap.size + 1) (o := 1) (v := .int .i64 lo.y) (by first | assumption | (refine cellUp ?_; assumption) | go_cell)
          have xhi0 := kcb hb (b := w.heap.size + 1 + 1) (o := 0) (v := .int .i64 hi.x) (by first | assumption | (refine cellUp ?_; assumption) | go_cell)
          have xhi1 := kcb hb (b := w.heap.size + 1 + 1) (o := 1) (v := .int .i64 hi.y) (by first | assumption | (refine cellUp ?_; assumption) | go_cell)
          have B1 : Bl w w1 := Below.trans (by go_grown) (hb.mono (by (try simp only [World.size_alloc, World.size_setCell]); omega))
          have l1 := ltb xhi1
          have l1_1 := ltb xlo1
          have l1_2 := ltb xa1
          have zz1 := B1.size
          clear hb
          rw [Q0.out]
          go_wp2_with fail
          refine (box5_any lo hi _).mono ?_
          rintro q2 w2 ⟨rfl, hb⟩
          have xa0 := kcb hb (b := w.heap.size) (o := 0) (v := .int .i64 a.s) (by first | assumption | (refine cellUp ?_; assumption) | go_cell)
          have xa1 := kcb hb (b := w.heap.size) (o := 1) (v := .int .i64 a.w) (by first | assumption | (refine cellUp ?_; assumption) | go_cell)
          have xlo0 := kcb hb (b := w.heap.size + 1) (o := 0) (v := .int .i64 lo.x) (by first | assumption | (refine cellUp ?_; assumption) | go_cell)
          have xlo1 := kcb hb (b := w.heap.size + 1) (o := 1) (v := .int .i64 lo.y) (by first | assumption | (refine cellUp ?_; assumption) | go_cell)
          have xhi0 := kcb hb (b := w.heap.size + 1 + 1) (o := 0) (v := .int .i64 hi.x) (by first | assumption | (refine cellUp ?_; assumption) | go_cell)
          have xhi1 := kcb hb (b := w.heap.size + 1 + 1) (o := 1) (v := .int .i64 hi.y) (by first | assumption | (refine cellUp ?_; assumption) | go_cell)
          have B2 : Bl w w2 := Below.trans (by go_grown) (hb.mono (by (try simp only [World.size_alloc, World.size_setCell]); omega))
          have l2 := ltb xhi1
          have l2_1 := ltb xlo1
          have l2_2 := ltb xa1
          have zz2 := B2.size
          clear hb
          rw [Q1.out]
          go_wp2_with fail
          refine (within5_any _ _ _ _).mono ?_
          rintro e9 w9 ⟨rfl, rfl⟩
          rw [Q2.out]
          go_wp2_with fail
          go_quiet (fail)
          go_wp2_with fail
          go_ret2
          exact wh_bad HE.out (by decide) (by first | exact B2.tr (Bl.dr _ _) | go_grown)
        · have HE := Lib.hid (show whE a S n lo hi st = 0 by unfold whE; rw [if_pos hv, if_pos ⟨hb, s1, s2⟩, HC.out, if_neg hc])
          have HCN := Lib.hid (cnt_nat hb ⟨s1, s2⟩ (by rw [HC.out]; exact hc))
          clear hv hb hdx hdy hqx hqy hm
          go_enter Try.func9, Try.ntmps9
          go_wp2_with fail
          refine (valid5_any a A n c S _ (HA.out.below (by go_grown)) HN.out).mono ?_
          rintro q1 w1 ⟨rfl, hb⟩
          have xa0 := kcb hb (b := w.heap.size) (o := 0) (v := .int .i64 a.s) (by first | assumption | (refine cellUp ?_; assumption) | go_cell)
          have xa1 := kcb hb (b := w.heap.size) (o := 1) (v := .int .i64 a.w) (by first | assumption | (refine cellUp ?_; assumption) | go_cell)
          have xlo0 := kcb hb (b := w.heap.size + 1) (o := 0) (v := .int .i64 lo.x) (by first | assumption | (refine cellUp ?_; assumption) | go_cell)
          have xlo1 := kcb hb (b := w.heap.size + 1) (o := 1) (v := .int .i64 lo.y) (by first | assumption | (refine cellUp ?_; assumption) | go_cell)
          have xhi0 := kcb hb (b := w.heap.size + 1 + 1) (o := 0) (v := .int .i64 hi.x) (by first | assumption | (refine cellUp ?_; assumption) | go_cell)
          have xhi1 := kcb hb (b := w.heap.size + 1 + 1) (o := 1) (v := .int .i64 hi.y) (by first | assumption | (refine cellUp ?_; assumption) | go_cell)
          have B1 : Bl w w1 := Below.trans (by go_grown) (hb.mono (by (try simp only [World.size_alloc, World.size_setCell]); omega))
          have l1 := ltb xhi1
          have l1_1 := ltb xlo1
          have l1_2 := ltb xa1
          have zz1 := B1.size
          clear hb
          rw [Q0.out]
          go_wp2_with fail
          refine (box5_any lo hi _).mono ?_
          rintro q2 w2 ⟨rfl, hb⟩
          have xa0 := kcb hb (b := w.heap.size) (o := 0) (v := .int .i64 a.s) (by first | assumption | (refine cellUp ?_; assumption) | go_cell)
          have xa1 := kcb hb (b := w.heap.size) (o := 1) (v := .int .i64 a.w) (by first | assumption | (refine cellUp ?_; assumption) | go_cell)
          have xlo0 := kcb hb (b := w.heap.size + 1) (o := 0) (v := .int .i64 lo.x) (by first | assumption | (refine cellUp ?_; assumption) | go_cell)
          have xlo1 := kcb hb (b := w.heap.size + 1) (o := 1) (v := .int .i64 lo.y) (by first | assumption | (refine cellUp ?_; assumption) | go_cell)
          have xhi0 := kcb hb (b := w.heap.size + 1 + 1) (o := 0) (v := .int .i64 hi.x) (by first | assumption | (refine cellUp ?_; assumption) | go_cell)
          have xhi1 := kcb hb (b := w.heap.size + 1 + 1) (o := 1) (v := .int .i64 hi.y) (by first | assumption | (refine cellUp ?_; assumption) | go_cell)
          have B2 : Bl w w2 := Below.trans (by go_grown) (hb.mono (by (try simp only [World.size_alloc, World.size_setCell]); omega))
          have l2 := ltb xhi1
          have l2_1 := ltb xlo1
          have l2_2 := ltb xa1
          have zz2 := B2.size
          clear hb
          rw [Q1.out]
          go_wp2_with fail
          refine (within5_any _ _ _ _).mono ?_
          rintro e9 w9 ⟨rfl, rfl⟩
          rw [Q2.out]
          go_wp2_with fail
          go_quiet (fail)
          go_wp2_with fail
          clear e1 e2 e3 e4 e5 e6 e7 e8 e9 e10 e11 e12 e13 tx ty hm0 hm1 bx1 bx2 by1 by2 hc
          obtain ⟨V, hV⟩ : ∃ V, V = w2.drewN nq := ⟨_, rfl⟩
          (try rw [← hV])
          have BV2 : Bl w2 V := by rw [hV]; exact Bl.dr _ _
          have EV : Eo w a lo hi V := ⟨kcb BV2 xa0, kcb BV2 xa1, kcb BV2 xlo0, kcb BV2 xlo1, kcb BV2 xhi0, kcb BV2 xhi1⟩
          have BV : Bl w V := B2.tr BV2
          have NV : World.ownsRow V (w.heap.size + 3) 26 2 (.slice none 0 0) 0 [] := World.ownsRow_nil _ _ _ _
          clear hV BV2 xa0 xa1 xlo0 xlo1 xhi0 xhi1
          obtain ⟨cols, hcols⟩ : ∃ q, q = colsN lo.x hi.x st := ⟨_, rfl⟩
          obtain ⟨rows, hrows⟩ : ∃ q, q = colsN lo.y hi.y st := ⟨_, rfl⟩
          obtain ⟨P, hP⟩ : ∃ q, q = whP a S n := ⟨_, rfl⟩
          have LX : Hid (∀ c : Nat, lo.x + (c : Int) * st ≤ hi.x ↔ c < cols) := Lib.hid (fun c => by rw [hcols]; exact cols_lt s1 ox c)
          have LY : Hid (∀ c : Nat, lo.y + (c : Int) * st ≤ hi.y ↔ c < rows) := Lib.hid (fun c => by rw [hrows]; exact cols_lt s1 oy c)
          rw [← hcols, ← hrows] at HCN
          have HG : Hid (∀ (w' : World) (v : Value), w'.ownsRow (w.heap.size + 3) 26 2 v (gridL P lo st cols rows).length (ptC (gridL P lo st cols rows)) → Bl w w' → WhPost a S n lo hi st w (.returned (.tuple #[v, .int .i64 0])) w') := Lib.hid (fun w' v h hb => by rw [hP, hcols, hrows] at h; exact wh_good HE.out h hb)
          have HPP := Lib.hid hP
          clear hcols hrows hP
          go_loopw [12, 13] (fun v yy wr => ∃ (r : Nat) (y : Int), yy = .int .i64 y ∧ Hid (y = lo.y + (r : Int) * st) ∧ r ≤ rows ∧ -50000 ≤ y ∧ y ≤ 60000 ∧ Hid (wr.ownsRow (w.heap.size + 3) 26 2 v (gridL P lo st cols r).length (ptC (gridL P lo st cols r))) ∧ Hid (Eo w a lo hi wr) ∧ Bl w wr) (fun _ yy _ => (60001 - RowKit.intOf yy).toNat)
          case atStart => exact ⟨0, lo.y, rfl, Lib.hid (by simp), Nat.zero_le _, by omega, by omega, NV, EV, BV⟩
          case round =>
            obtain ⟨r, y, rfl, HY, hr, y0, y1, HO, HEo, hB⟩ := hrel
            obtain ⟨Wo, hWo⟩ : ∃ Wo, Wo = wr := ⟨_, rfl⟩
            subst hWo
            obtain ⟨ca0, ca1, cl0, cl1, ch0, ch1⟩ := HEo.out
            have la := ltb ca0
            have ll := ltb cl0
            have lh := ltb ch0
            by_cases hlt : y ≤ hi.y
            · have rlt : r < rows := (LY.out r).1 (by rw [← HY.out]; exact hlt)
              go_wp2_with fail
              clear ca0 ca1 cl0 cl1 ch0 ch1
              go_loopw [12, 14] (fun v xx wr => ∃ (k : Nat) (x : Int), xx = .int .i64 x ∧ Hid (x = lo.x + (k : Int) * st) ∧ k ≤ cols ∧ -50000 ≤ x ∧ x ≤ 60000 ∧ Hid (wr.ownsRow (w.heap.size + 3) 26 2 v (gridL P lo st cols r ++ rowL P lo.x y st k).length (ptC (gridL P lo st cols r ++ rowL P lo.x y st k))) ∧ Hid (Eo w a lo hi wr) ∧ Bl w wr) (fun _ xx _ => (60001 - RowKit.intOf xx).toNat)
              case atStart => exact ⟨0, lo.x, rfl, Lib.hid (by simp), Nat.zero_le _, by omega, by omega, Lib.hid (by rw [rowL, List.append_nil]; exact HO.out), HEo, hB⟩
              case round =>
                obtain ⟨k, x, rfl, HX, hk, x0, x1, HO1, HE1, hB1⟩ := hrel
                obtain ⟨ca0, ca1, cl0, cl1, ch0, ch1⟩ := HE1.out
                have la := ltb ca0
                have ll := ltb cl0
                have lh := ltb ch0
                have zB := hB1.size
                by_cases hxt : x ≤ hi.x
                · have klt : k < cols := (LX.out k).1 (by rw [← HX.out]; exact hxt)
                  have HP1 : Hid (isP ⟨x, y⟩) := Lib.hid ⟨⟨by show -50000 ≤ x; omega, by show x ≤ 50000; omega⟩, by show -50000 ≤ y; omega, by show y ≤ 50000; omega⟩
                  have HX1 : Hid (x + st = lo.x + ((k + 1 : Nat) : Int) * st) := Lib.hid (by have := HX.out; rw [Int.natCast_add, Int.add_mul]; simp; omega)
                  have len : (gridL P lo st cols r ++ rowL P lo.x y st k).length < 10000 := by
                    have h1 := gridL_len P lo st cols r
                    have h2 := rowL_len P lo.x y st k
                    have h3 := part_len rlt klt HCN.out
                    rw [List.length_append]; omega
                  obtain ⟨L, hL⟩ : ∃ L, L = gridL P lo st cols r ++ rowL P lo.x y st k := ⟨_, rfl⟩
                  rw [← hL] at HO1 len
                  by_cases q : suitN a S n ⟨x, y⟩
                  · have Q := Lib.hid (show decide (suitN a S n ⟨x, y⟩) = true from decide_eq_true q)
                    have HL1 := Lib.hid (show gridL P lo st cols r ++ rowL P lo.x y st (k + 1) = L ++ [⟨x, y⟩] by
                      rw [rowL, ← HX.out, if_pos (by rw [HPP.out]; exact decide_eq_true q), ← List.append_assoc, ← hL])
                    clear q hL
                    go_wp2_with fail
                    refine (rsuits_any a A n c S ⟨x, y⟩ _ (HA.out.below (by go_grown)) HN.out HAA.out HP1.out HV.out).mono ?_
                    rintro q3 w3 ⟨rfl, hb⟩
                    rw [Q.out]
                    have X3 : Bl wr w3 := Below.trans (by go_grown) (hb.mono (by (try simp only [World.size_alloc]); omega))
                    have p0 := kcb hb (b := wr.heap.size) (o := 0) (v := .int .i64 x) (by go_cell)
                    have p1 := kcb hb (b := wr.heap.size) (o := 1) (v := .int .i64 y) (by go_cell)
                    have lp := ltb p0
                    have z3 := X3.size
                    have HO3 := Lib.hid (own_b HO1.out X3)
                    have HE3 := Lib.hid (HE1.out.bl X3)
                    have hB3 := hB1.tr X3
                    clear hb ca0 ca1 cl0 cl1 ch0 ch1
                    have hnew := Lib.hid (show (w3.alloc (.cells #[.int .i64 x, .int .i64 y] 26)).heap[w3.heap.size]? = some (.cells #[.int .i64 x, .int .i64 y] 26 (0, 0)) from heap_alloc_new w3 _)
                    go_wp2_with (at_builtin; refine wpList_append_lies _ rfl _ _ _ rfl (w.heap.size + 3) 26 i0 _ 2 16 Try.underlying32 HI.out.1 HI.out.2.1 HI.out.2.2.1 HI.out.2.2.2 rfl (by omega) _ L.length (ptC L) rfl (HO3.out.alloc _) ⟨w3.heap.size, 0, none⟩ 1 1 [.int .i64 x, .int .i64 y] rfl rfl (World.news_of_block hnew.out) (by simp [Value.oneCell']) (by omega) (by unfold maxLen; omega) (by omega) (by (try simp only [World.size_alloc]); omega) _ rfl ?_; intro gg cap w9 hown1 hgrow hat hlt9)
                    have HO9 := Lib.hid (show w9.ownsRow (w.heap.size + 3) 26 2 (.slice (some ⟨gg, 0, none⟩) (L.length + 1) cap) (gridL P lo st cols r ++ rowL P lo.x y st (k + 1)).length (ptC (gridL P lo st cols r ++ rowL P lo.x y st (k + 1))) by
                      rw [HL1.out, ptC_snoc, List.length_append, List.length_singleton]; exact hown1)
                    have hl := HO3.out.lt
                    have X9 : Below (w.heap.size + 3) w3 w9 := Below.grown (w := w3.alloc (.cells #[.int .i64 x, .int .i64 y] 26)) (by go_grown) hgrow (by (try simp only [World.size_alloc]); omega) (fun j hj => (hl j hj).1)
                    go_roundw
                    case rel => exact ⟨k + 1, x + st, by go_num, HX1, by omega, by omega, by omega, HO9, Lib.hid (HE3.out.below X9 (by omega)), Below.trans hB3 (X9.mono (by omega))⟩
                    case measure => simp [RowKit.intOf]; omega
                  · have Q := Lib.hid (show decide (suitN a S n ⟨x, y⟩) = false from decide_eq_false q)
                    have HL1 := Lib.hid (show gridL P lo st cols r ++ rowL P lo.x y st (k + 1) = L by
                      rw [rowL, ← HX.out, if_neg (by rw [HPP.out]; intro g; exact q (of_decide_eq_true g)), List.append_nil, ← hL])
                    clear q hL
                    go_wp2_with fail
                    refine (rsuits_any a A n c S ⟨x, y⟩ _ (HA.out.below (by go_grown)) HN.out HAA.out HP1.out HV.out).mono ?_
                    rintro q3 w3 ⟨rfl, hb⟩
                    rw [Q.out]
                    have X3 : Bl wr w3 := Below.trans (by go_grown) (hb.mono (by (try simp only [World.size_alloc]); omega))
                    have HO3 := Lib.hid (own_b HO1.out X3)
                    have HE3 := Lib.hid (HE1.out.bl X3)
                    have hB3 := hB1.tr X3
                    clear hb ca0 ca1 cl0 cl1 ch0 ch1
                    go_wp2_with fail
                    go_roundw
                    case rel => exact ⟨k + 1, x + st, by go_num, HX1, by omega, by omega, by omega, Lib.hid (by rw [HL1.out]; exact HO3.out), HE3, hB3⟩
                    case measure => simp [RowKit.intOf]; omega
                · have kc : k = cols := by
                    have := (LX.out k).2
                    have h2 := HX.out
                    refine Nat.le_antisymm hk (Nat.not_lt.1 fun g => ?_)
                    have := this g
                    omega
                  have HGe := Lib.hid (show gridL P lo st cols (r + 1) = gridL P lo st cols r ++ rowL P lo.x y st k by rw [gridL, ← HY.out, ← kc])
                  have HY1 : Hid (y + st = lo.y + ((r + 1 : Nat) : Int) * st) := Lib.hid (by have := HY.out; rw [Int.natCast_add, Int.add_mul]; simp; omega)
                  go_wp2_with fail
                  go_roundw
                  case rel => exact ⟨r + 1, y + st, by go_num, HY1, by omega, by omega, by omega, Lib.hid (by rw [HGe.out]; exact HO1.out), HE1, hB1⟩
                  case measure => simp [RowKit.intOf]; omega
            · have rc : r = rows := by
                have := (LY.out r).2
                have h2 := HY.out
                refine Nat.le_antisymm hr (Nat.not_lt.1 fun g => ?_)
                have := this g
                omega
              go_wp2_with fail
              go_ret2
              exact HG.out _ _ (by rw [← rc]; exact HO.out) hB
      · have Q2 := Lib.hid (show decide (1 ≤ st ∧ st ≤ 10000) = false from decide_eq_false hs)
        have HE := Lib.hid (show whE a S n lo hi st = 7 by unfold whE; rw [if_pos hv, if_neg (fun g => hs g.2)])
        clear hv hb hs
        go_enter Try.func9, Try.ntmps9
        go_wp2_with fail
        refine (valid5_any a A n c S _ (HA.out.below (by go_grown)) HN.out).mono ?_
        rintro q1 w1 ⟨rfl, hb⟩
        have xa0 := kcb hb (b := w.heap.size) (o := 0) (v := .int .i64 a.s) (by first | assumption | (refine cellUp ?_; assumption) | go_cell)
        have xa1 := kcb hb (b := w.heap.size) (o := 1) (v := .int .i64 a.w) (by first | assumption | (refine cellUp ?_; assumption) | go_cell)
        have xlo0 := kcb hb (b := w.heap.size + 1) (o := 0) (v := .int .i64 lo.x) (by first | assumption | (refine cellUp ?_; assumption) | go_cell)
        have xlo1 := kcb hb (b := w.heap.size + 1) (o := 1) (v := .int .i64 lo.y) (by first | assumption | (refine cellUp ?_; assumption) | go_cell)
        have xhi0 := kcb hb (b := w.heap.size + 1 + 1) (o := 0) (v := .int .i64 hi.x) (by first | assumption | (refine cellUp ?_; assumption) | go_cell)
        have xhi1 := kcb hb (b := w.heap.size + 1 + 1) (o := 1) (v := .int .i64 hi.y) (by first | assumption | (refine cellUp ?_; assumption) | go_cell)
        have B1 : Bl w w1 := Below.trans (by go_grown) (hb.mono (by (try simp only [World.size_alloc, World.size_setCell]); omega))
        have l1 := ltb xhi1
        have l1_1 := ltb xlo1
        have l1_2 := ltb xa1
        have zz1 := B1.size
        clear hb
        rw [Q0.out]
        go_wp2_with fail
        refine (box5_any lo hi _).mono ?_
        rintro q2 w2 ⟨rfl, hb⟩
        have xa0 := kcb hb (b := w.heap.size) (o := 0) (v := .int .i64 a.s) (by first | assumption | (refine cellUp ?_; assumption) | go_cell)
        have xa1 := kcb hb (b := w.heap.size) (o := 1) (v := .int .i64 a.w) (by first | assumption | (refine cellUp ?_; assumption) | go_cell)
        have xlo0 := kcb hb (b := w.heap.size + 1) (o := 0) (v := .int .i64 lo.x) (by first | assumption | (refine cellUp ?_; assumption) | go_cell)
        have xlo1 := kcb hb (b := w.heap.size + 1) (o := 1) (v := .int .i64 lo.y) (by first | assumption | (refine cellUp ?_; assumption) | go_cell)
        have xhi0 := kcb hb (b := w.heap.size + 1 + 1) (o := 0) (v := .int .i64 hi.x) (by first | assumption | (refine cellUp ?_; assumption) | go_cell)
        have xhi1 := kcb hb (b := w.heap.size + 1 + 1) (o := 1) (v := .int .i64 hi.y) (by first | assumption | (refine cellUp ?_; assumption) | go_cell)
        have B2 : Bl w w2 := Below.trans (by go_grown) (hb.mono (by (try simp only [World.size_alloc, World.size_setCell]); omega))
        have l2 := ltb xhi1
        have l2_1 := ltb xlo1
        have l2_2 := ltb xa1
        have zz2 := B2.size
        clear hb
        rw [Q1.out]
        go_wp2_with fail
        refine (within5_any _ _ _ _).mono ?_
        rintro e9 w9 ⟨rfl, rfl⟩
        rw [Q2.out]
        go_wp2_with fail
        go_ret2
        exact wh_bad HE.out (by decide) (by go_grown)
    · have Q1 := Lib.hid (show decide (boxOk lo hi) = false from decide_eq_false hb)
      have HE := Lib.hid (show whE a S n lo hi st = 7 by unfold whE; rw [if_pos hv, if_neg (fun g => hb g.1)])
      clear hv hb
      go_enter Try.func9, Try.ntmps9
      go_wp2_with fail
      refine (valid5_any a A n c S _ (HA.out.below (by go_grown)) HN.out).mono ?_
      rintro q1 w1 ⟨rfl, hb⟩
      have xa0 := kcb hb (b := w.heap.size) (o := 0) (v := .int .i64 a.s) (by first | assumption | (refine cellUp ?_; assumption) | go_cell)
      have xa1 := kcb hb (b := w.heap.size) (o := 1) (v := .int .i64 a.w) (by first | assumption | (refine cellUp ?_; assumption) | go_cell)
      have xlo0 := kcb hb (b := w.heap.size + 1) (o := 0) (v := .int .i64 lo.x) (by first | assumption | (refine cellUp ?_; assumption) | go_cell)
      have xlo1 := kcb hb (b := w.heap.size + 1) (o := 1) (v := .int .i64 lo.y) (by first | assumption | (refine cellUp ?_; assumption) | go_cell)
      have xhi0 := kcb hb (b := w.heap.size + 1 + 1) (o := 0) (v := .int .i64 hi.x) (by first | assumption | (refine cellUp ?_; assumption) | go_cell)
      have xhi1 := kcb hb (b := w.heap.size + 1 + 1) (o := 1) (v := .int .i64 hi.y) (by first | assumption | (refine cellUp ?_; assumption) | go_cell)
      have B1 : Bl w w1 := Below.trans (by go_grown) (hb.mono (by (try simp only [World.size_alloc, World.size_setCell]); omega))
      have l1 := ltb xhi1
      have l1_1 := ltb xlo1
      have l1_2 := ltb xa1
      have zz1 := B1.size
      clear hb
      rw [Q0.out]
      go_wp2_with fail
      refine (box5_any lo hi _).mono ?_
      rintro q2 w2 ⟨rfl, hb⟩
      have xa0 := kcb hb (b := w.heap.size) (o := 0) (v := .int .i64 a.s) (by first | assumption | (refine cellUp ?_; assumption) | go_cell)
      have xa1 := kcb hb (b := w.heap.size) (o := 1) (v := .int .i64 a.w) (by first | assumption | (refine cellUp ?_; assumption) | go_cell)
      have xlo0 := kcb hb (b := w.heap.size + 1) (o := 0) (v := .int .i64 lo.x) (by first | assumption | (refine cellUp ?_; assumption) | go_cell)
      have xlo1 := kcb hb (b := w.heap.size + 1) (o := 1) (v := .int .i64 lo.y) (by first | assumption | (refine cellUp ?_; assumption) | go_cell)
      have xhi0 := kcb hb (b := w.heap.size + 1 + 1) (o := 0) (v := .int .i64 hi.x) (by first | assumption | (refine cellUp ?_; assumption) | go_cell)
      have xhi1 := kcb hb (b := w.heap.size + 1 + 1) (o := 1) (v := .int .i64 hi.y) (by first | assumption | (refine cellUp ?_; assumption) | go_cell)
      have B2 : Bl w w2 := Below.trans (by go_grown) (hb.mono (by (try simp only [World.size_alloc, World.size_setCell]); omega))
      have l2 := ltb xhi1
      have l2_1 := ltb xlo1
      have l2_2 := ltb xa1
      have zz2 := B2.size
      clear hb
      rw [Q1.out]
      go_wp2_with fail
      go_ret2
      exact wh_bad HE.out (by decide) (by go_grown)
  · have Q0 := Lib.hid (show decide (VA a ∧ VSh S n) = false from decide_eq_false hv)
    have HE := Lib.hid (show whE a S n lo hi st = 1 by unfold whE; rw [if_neg hv])
    clear hv
    go_enter Try.func9, Try.ntmps9
    go_wp2_with fail
    refine (valid5_any a A n c S _ (HA.out.below (by go_grown)) HN.out).mono ?_
    rintro q1 w1 ⟨rfl, hb⟩
    have xa0 := kcb hb (b := w.heap.size) (o := 0) (v := .int .i64 a.s) (by first | assumption | (refine cellUp ?_; assumption) | go_cell)
    have xa1 := kcb hb (b := w.heap.size) (o := 1) (v := .int .i64 a.w) (by first | assumption | (refine cellUp ?_; assumption) | go_cell)
    have xlo0 := kcb hb (b := w.heap.size + 1) (o := 0) (v := .int .i64 lo.x) (by first | assumption | (refine cellUp ?_; assumption) | go_cell)
    have xlo1 := kcb hb (b := w.heap.size + 1) (o := 1) (v := .int .i64 lo.y) (by first | assumption | (refine cellUp ?_; assumption) | go_cell)
    have xhi0 := kcb hb (b := w.heap.size + 1 + 1) (o := 0) (v := .int .i64 hi.x) (by first | assumption | (refine cellUp ?_; assumption) | go_cell)
    have xhi1 := kcb hb (b := w.heap.size + 1 + 1) (o := 1) (v := .int .i64 hi.y) (by first | assumption | (refine cellUp ?_; assumption) | go_cell)
    have B1 : Bl w w1 := Below.trans (by go_grown) (hb.mono (by (try simp only [World.size_alloc, World.size_setCell]); omega))
    have l1 := ltb xhi1
    have l1_1 := ltb xlo1
    have l1_2 := ltb xa1
    have zz1 := B1.size
    clear hb
    rw [Q0.out]
    go_wp2_with fail
    go_ret2
    exact wh_bad HE.out (by decide) (by go_grown)
end Go.Proofs.Ythemoomfbbccjaa
