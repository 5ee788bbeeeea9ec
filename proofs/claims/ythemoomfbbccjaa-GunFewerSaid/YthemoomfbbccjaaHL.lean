/-
  The walk of GunFewer.
-/
import Derived.Test.YthemoomfbbccjaaHK
import Derived.Deep.AppendLies
import Derived.Deep.RegionLaw
import Derived.Deep.DeepCutAuto
namespace Go.Proofs.Ythemoomfbbccjaa
open Go.RowKit
set_option linter.unusedSimpArgs false
set_option linter.unusedVariables false

set_option maxRecDepth 100000 in
set_option maxHeartbeats 40000000 in
theorem fewer5_walk (a : Air) (A : Option Addr) (n c : Nat) (S : Nat → Sho) (s : Sho) (lo hi : Pt) (st : Int) (w : World) (hn : n ≤ maxLen) (hA : Shl w A n S) :
    Calls Try.prog 4 #[encA a, .slice A n c, .agg #[.int .i64 s.p.x, .int .i64 s.p.y, .int .i64 s.lo, .int .i64 s.hi], .agg #[.int .i64 lo.x, .int .i64 lo.y, .int .i64 hi.x, .int .i64 hi.y, .int .i64 st]] w fun e w' => e = .returned (.bool true) ∧ Bl w w' := by
  have HA := Lib.hid hA
  have HN := Lib.hid hn
  obtain ⟨i0, hi0, hz0, hz1, hz2⟩ := info_parts shot_info
  have HI := Lib.hid (And.intro hi0 (And.intro hz0 (And.intro hz1 hz2)))
  clear hA hn hi0 hz0 hz1 hz2
  by_cases hf : n ≤ 50
  rotate_left
  · have Q0 := Lib.hid (show decide (n ≤ 50) = false from decide_eq_false hf)
    clear hf
    go_enter Try.func4, Try.ntmps4
    go_wp2_with fail
    refine (few_any A n c _ HN.out).mono ?_
    rintro q1 w1 ⟨rfl, hb⟩
    have xa0 := kcb hb (b := w.heap.size) (o := 0) (v := .int .i64 a.s) (by first | assumption | (refine cellUp ?_; assumption) | go_cell)
    have xa1 := kcb hb (b := w.heap.size) (o := 1) (v := .int .i64 a.w) (by first | assumption | (refine cellUp ?_; assumption) | go_cell)
    have ys0 := kcb hb (b := w.heap.size + 1) (o := 0) (v := .int .i64 s.p.x) (by first | assumption | (refine cellUp ?_; assumption) | go_cell)
    have ys1 := kcb hb (b := w.heap.size + 1) (o := 1) (v := .int .i64 s.p.y) (by first | assumption | (refine cellUp ?_; assumption) | go_cell)
    have ys2 := kcb hb (b := w.heap.size + 1) (o := 2) (v := .int .i64 s.lo) (by first | assumption | (refine cellUp ?_; assumption) | go_cell)
    have ys3 := kcb hb (b := w.heap.size + 1) (o := 3) (v := .int .i64 s.hi) (by first | assumption | (refine cellUp ?_; assumption) | go_cell)
    have xb0 := kcb hb (b := w.heap.size + 1 + 1) (o := 0) (v := .int .i64 lo.x) (by first | assumption | (refine cellUp ?_; assumption) | go_cell)
    have xb1 := kcb hb (b := w.heap.size + 1 + 1) (o := 1) (v := .int .i64 lo.y) (by first | assumption | (refine cellUp ?_; assumption) | go_cell)
    have xb2 := kcb hb (b := w.heap.size + 1 + 1) (o := 2) (v := .int .i64 hi.x) (by first | assumption | (refine cellUp ?_; assumption) | go_cell)
    have xb3 := kcb hb (b := w.heap.size + 1 + 1) (o := 3) (v := .int .i64 hi.y) (by first | assumption | (refine cellUp ?_; assumption) | go_cell)
    have xb4 := kcb hb (b := w.heap.size + 1 + 1) (o := 4) (v := .int .i64 st) (by first | assumption | (refine cellUp ?_; assumption) | go_cell)
    have B1 : Bl w w1 := Below.trans (by go_grown) (hb.mono (by (try simp only [World.size_alloc, World.size_setCell, World.size_drew]); omega))
    have l1 := ltb xb4
    have l1_1 := ltb ys3
    have l1_2 := ltb xa1
    have zz1 := B1.size
    clear hb
    rw [Q0.out]
    go_wp2_with fail
    have HB0 := Lib.hid (by first | exact B1 | exact B1.tr (by go_grown))
    refine (awakeG_any _).mono ?_
    rintro e9 w9 ⟨rfl, hb9⟩
    go_wp2_with fail
    go_ret
    exact ⟨rfl, Bl.tr HB0.out hb9⟩
  have Q0 := Lib.hid (show decide (n ≤ 50) = true from decide_eq_true hf)
  go_enter Try.func4, Try.ntmps4
  go_wp2_with fail
  refine (few_any A n c _ HN.out).mono ?_
  rintro q1 w1 ⟨rfl, hb⟩
  have xa0 := kcb hb (b := w.heap.size) (o := 0) (v := .int .i64 a.s) (by first | assumption | (refine cellUp ?_; assumption) | go_cell)
  have xa1 := kcb hb (b := w.heap.size) (o := 1) (v := .int .i64 a.w) (by first | assumption | (refine cellUp ?_; assumption) | go_cell)
  have ys0 := kcb hb (b := w.heap.size + 1) (o := 0) (v := .int .i64 s.p.x) (by first | assumption | (refine cellUp ?_; assumption) | go_cell)
  have ys1 := kcb hb (b := w.heap.size + 1) (o := 1) (v := .int .i64 s.p.y) (by first | assumption | (refine cellUp ?_; assumption) | go_cell)
  have ys2 := kcb hb (b := w.heap.size + 1) (o := 2) (v := .int .i64 s.lo) (by first | assumption | (refine cellUp ?_; assumption) | go_cell)
  have ys3 := kcb hb (b := w.heap.size + 1) (o := 3) (v := .int .i64 s.hi) (by first | assumption | (refine cellUp ?_; assumption) | go_cell)
  have xb0 := kcb hb (b := w.heap.size + 1 + 1) (o := 0) (v := .int .i64 lo.x) (by first | assumption | (refine cellUp ?_; assumption) | go_cell)
  have xb1 := kcb hb (b := w.heap.size + 1 + 1) (o := 1) (v := .int .i64 lo.y) (by first | assumption | (refine cellUp ?_; assumption) | go_cell)
  have xb2 := kcb hb (b := w.heap.size + 1 + 1) (o := 2) (v := .int .i64 hi.x) (by first | assumption | (refine cellUp ?_; assumption) | go_cell)
  have xb3 := kcb hb (b := w.heap.size + 1 + 1) (o := 3) (v := .int .i64 hi.y) (by first | assumption | (refine cellUp ?_; assumption) | go_cell)
  have xb4 := kcb hb (b := w.heap.size + 1 + 1) (o := 4) (v := .int .i64 st) (by first | assumption | (refine cellUp ?_; assumption) | go_cell)
  have B1 : Bl w w1 := Below.trans (by go_grown) (hb.mono (by (try simp only [World.size_alloc, World.size_setCell, World.size_drew]); omega))
  have l1 := ltb xb4
  have l1_1 := ltb ys3
  have l1_2 := ltb xa1
  have zz1 := B1.size
  clear hb
  rw [Q0.out]
  go_wp2_with fail
  refine (heavy_any lo hi st _).mono ?_
  rintro q2 w2 ⟨⟨hy, rfl⟩, hb⟩
  have xa0 := kcb hb (b := w.heap.size) (o := 0) (v := .int .i64 a.s) (by first | assumption | (refine cellUp ?_; assumption) | go_cell)
  have xa1 := kcb hb (b := w.heap.size) (o := 1) (v := .int .i64 a.w) (by first | assumption | (refine cellUp ?_; assumption) | go_cell)
  have ys0 := kcb hb (b := w.heap.size + 1) (o := 0) (v := .int .i64 s.p.x) (by first | assumption | (refine cellUp ?_; assumption) | go_cell)
  have ys1 := kcb hb (b := w.heap.size + 1) (o := 1) (v := .int .i64 s.p.y) (by first | assumption | (refine cellUp ?_; assumption) | go_cell)
  have ys2 := kcb hb (b := w.heap.size + 1) (o := 2) (v := .int .i64 s.lo) (by first | assumption | (refine cellUp ?_; assumption) | go_cell)
  have ys3 := kcb hb (b := w.heap.size + 1) (o := 3) (v := .int .i64 s.hi) (by first | assumption | (refine cellUp ?_; assumption) | go_cell)
  have xb0 := kcb hb (b := w.heap.size + 1 + 1) (o := 0) (v := .int .i64 lo.x) (by first | assumption | (refine cellUp ?_; assumption) | go_cell)
  have xb1 := kcb hb (b := w.heap.size + 1 + 1) (o := 1) (v := .int .i64 lo.y) (by first | assumption | (refine cellUp ?_; assumption) | go_cell)
  have xb2 := kcb hb (b := w.heap.size + 1 + 1) (o := 2) (v := .int .i64 hi.x) (by first | assumption | (refine cellUp ?_; assumption) | go_cell)
  have xb3 := kcb hb (b := w.heap.size + 1 + 1) (o := 3) (v := .int .i64 hi.y) (by first | assumption | (refine cellUp ?_; assumption) | go_cell)
  have xb4 := kcb hb (b := w.heap.size + 1 + 1) (o := 4) (v := .int .i64 st) (by first | assumption | (refine cellUp ?_; assumption) | go_cell)
  have B2 : Bl w w2 := Below.trans (by go_grown) (hb.mono (by (try simp only [World.size_alloc, World.size_setCell, World.size_drew]); omega))
  have l2 := ltb xb4
  have l2_1 := ltb ys3
  have l2_2 := ltb xa1
  have zz2 := B2.size
  clear hb
  cases hy with
  | true =>
    go_wp2_with fail
    have HB0 := Lib.hid (by first | exact B2 | exact B2.tr (by go_grown))
    refine (awakeG_any _).mono ?_
    rintro e9 w9 ⟨rfl, hb9⟩
    go_wp2_with fail
    go_ret
    exact ⟨rfl, Bl.tr HB0.out hb9⟩
  | false =>
    go_wp2_with fail
    have HC2 := Lib.hid B2
    go_cut [9] (fun cv wx => CR w2 S n s cv wx)
    case first =>
      cases A with
      | none =>
        obtain rfl : n = 0 := by
          refine Nat.eq_zero_of_not_pos fun h => ?_
          obtain ⟨_, _, e, _⟩ := HA.out h
          cases e
        go_region_law (first | (refine step_append_lies _ (by rfl) _ _ _ (by rfl) w2.heap.size 44 i0 _ 4 32 Try.underlying24 HI.out.1 HI.out.2.1 HI.out.2.2.1 HI.out.2.2.2 rfl (by omega) _ 0 [] (by rfl) ((World.ownsRow_lit (base := w2.heap.size) (size := 4) (e := 44) w2.drew #[] 0 (by (try simp only [World.size_alloc, World.size_drew]); omega) (by decide) rfl).alloc _) ⟨w2.heap.size + 1, 0, none⟩ 1 1 (cellsH s) (by rfl) (by rfl) (World.news_of_block (cs := #[.int .i64 s.p.x, .int .i64 s.p.y, .int .i64 s.lo, .int .i64 s.hi]) (t := 44) (fr := (0, 0)) (by have := heap_alloc_new (w2.drew.alloc (.cells #[] 44)) (.cells #[.int .i64 s.p.x, .int .i64 s.p.y, .int .i64 s.lo, .int .i64 s.hi] 44); rwa [World.size_alloc] at this)) (by simp [cellsH, Value.oneCell']) (by omega) (by unfold maxLen; omega) (by omega) (by (try simp only [World.size_alloc, World.size_drew]); omega) _ rfl ?_; intro gg cap9 w9 hown9 hgrow hat hlt9; have X9 : Bl w2 w9 := Below.grown (by first | go_grown | exact X3 | exact X3.tr (by go_grown)) hgrow (by (try simp only [World.size_alloc, World.size_drew]); omega) (fun j hj => by have hj : w2.heap.size = j := Option.some.inj hj; omega)) | (refine step_append_lies _ (by rfl) _ _ _ (by rfl) w2.heap.size 44 i0 _ 4 32 Try.underlying24 HI.out.1 HI.out.2.1 HI.out.2.2.1 HI.out.2.2.2 rfl (by omega) _ 0 [] (by rfl) (show World.ownsRow ((w2.drew.alloc (.cells #[.int .i64 s.p.x, .int .i64 s.p.y, .int .i64 s.lo, .int .i64 s.hi] 44)).alloc (.cells #[] 44)) w2.heap.size 44 4 (.slice (some ⟨w2.heap.size + 1, 0, none⟩) 0 0) 0 [] from by have := (World.ownsRow_lit (base := w2.heap.size) (size := 4) (e := 44) (w2.drew.alloc (.cells #[.int .i64 s.p.x, .int .i64 s.p.y, .int .i64 s.lo, .int .i64 s.hi] 44)) #[] 0 (by (try simp only [World.size_alloc, World.size_drew]); omega) (by decide) rfl); rw [World.size_alloc] at this; exact this) ⟨w2.heap.size, 0, none⟩ 1 1 (cellsH s) (by rfl) (by rfl) (World.news_of_block (cs := #[.int .i64 s.p.x, .int .i64 s.p.y, .int .i64 s.lo, .int .i64 s.hi]) (t := 44) (fr := (0, 0)) ((Below.heap_alloc _ _ _ (by (try simp only [World.size_alloc, World.size_drew]); omega)).trans (heap_alloc_new w2.drew (.cells #[.int .i64 s.p.x, .int .i64 s.p.y, .int .i64 s.lo, .int .i64 s.hi] 44)))) (by simp [cellsH, Value.oneCell']) (by omega) (by unfold maxLen; omega) (by omega) (by (try simp only [World.size_alloc, World.size_drew]); omega) _ rfl ?_; intro gg cap9 w9 hown9 hgrow hat hlt9; have X9 : Bl w2 w9 := Below.grown (by first | go_grown | exact X3 | exact X3.tr (by go_grown)) hgrow (by (try simp only [World.size_alloc, World.size_drew]); omega) (fun j hj => by have hj : w2.heap.size + 1 = j := Option.some.inj hj; omega)) | fail)
        all_goals
          go_wp2_with fail
          go_meet
          exact CR.of X9 (by simpa [shC] using hown9)
      | some ad =>
        go_region_law (first | (refine step_owng (by rfl) _ _ _ (by rfl) w2.heap.size 44 i0 _ 4 32 Try.underlying24 HI.out.1 HI.out.2.1 HI.out.2.2.1 HI.out.2.2.2 rfl (by omega) _ 0 [] (by rfl) (World.ownsRow_lit (base := w2.heap.size) (size := 4) (e := 44) w2.drew #[] 0 (by (try simp only [World.size_alloc, World.size_drew]); omega) (by decide) rfl) ad n c (shC S n) (by rfl) (shC_len S n) (sh_news (HA.out.below (Bl.tr B2 (by go_grown)))) (shC_one S n) (by unfold maxLen; omega) (by omega) (by (try simp only [World.size_alloc, World.size_drew]); omega) ?_; intro v1 w3 hown1 hgrow1 hnil1; have hv1 := own_shape_g hown1; have X3 : Bl w2 w3 := Below.grown (by go_grown) hgrow1 (by (try simp only [World.size_alloc, World.size_drew]); omega) (fun j hj => by have hj : w2.heap.size = j := Option.some.inj hj; omega); have z3 := X3.size; have zg3 := hgrow1.size; (try simp only [World.size_alloc, World.size_drew] at zg3); have ys0 := kcb X3 ys0; have ys1 := kcb X3 ys1; have ys2 := kcb X3 ys2; have ys3 := kcb X3 ys3; have ly3 := ltb ys0) | (refine step_owng (by rfl) _ _ _ (by rfl) w2.heap.size 44 i0 _ 4 32 Try.underlying24 HI.out.1 HI.out.2.1 HI.out.2.2.1 HI.out.2.2.2 rfl (by omega) _ 0 [] (by rfl) ((World.ownsRow_lit (base := w2.heap.size) (size := 4) (e := 44) w2.drew #[] 0 (by (try simp only [World.size_alloc, World.size_drew]); omega) (by decide) rfl).alloc _) ad n c (shC S n) (by rfl) (shC_len S n) (sh_news (HA.out.below (Bl.tr B2 (by go_grown)))) (shC_one S n) (by unfold maxLen; omega) (by omega) (by (try simp only [World.size_alloc, World.size_drew]); omega) ?_; intro v1 w3 hown1 hgrow1 hnil1; have hv1 := own_shape_g hown1; have X3 : Bl w2 w3 := Below.grown (by go_grown) hgrow1 (by (try simp only [World.size_alloc, World.size_drew]); omega) (fun j hj => by have hj : w2.heap.size = j := Option.some.inj hj; omega); have z3 := X3.size; have zg3 := hgrow1.size; (try simp only [World.size_alloc, World.size_drew] at zg3); have ys0 := kcb X3 ys0; have ys1 := kcb X3 ys1; have ys2 := kcb X3 ys2; have ys3 := kcb X3 ys3; have ly3 := ltb ys0) | (refine step_owng (by rfl) _ _ _ (by rfl) w2.heap.size 44 i0 _ 4 32 Try.underlying24 HI.out.1 HI.out.2.1 HI.out.2.2.1 HI.out.2.2.2 rfl (by omega) _ 0 [] (by rfl) (show World.ownsRow ((w2.drew.alloc (.cells #[.int .i64 s.p.x, .int .i64 s.p.y, .int .i64 s.lo, .int .i64 s.hi] 44)).alloc (.cells #[] 44)) w2.heap.size 44 4 (.slice (some ⟨w2.heap.size + 1, 0, none⟩) 0 0) 0 [] from by have := (World.ownsRow_lit (base := w2.heap.size) (size := 4) (e := 44) (w2.drew.alloc (.cells #[.int .i64 s.p.x, .int .i64 s.p.y, .int .i64 s.lo, .int .i64 s.hi] 44)) #[] 0 (by (try simp only [World.size_alloc, World.size_drew]); omega) (by decide) rfl); rw [World.size_alloc] at this; exact this) ad n c (shC S n) (by rfl) (shC_len S n) (sh_news (HA.out.below (Bl.tr B2 (by go_grown)))) (shC_one S n) (by unfold maxLen; omega) (by omega) (by (try simp only [World.size_alloc, World.size_drew]); omega) ?_; intro v1 w3 hown1 hgrow1 hnil1; have hv1 := own_shape_g hown1; have X3 : Bl w2 w3 := Below.grown (by go_grown) hgrow1 (by (try simp only [World.size_alloc, World.size_drew]); omega) (fun j hj => by have hj : w2.heap.size + 1 = j := Option.some.inj hj; omega); have z3 := X3.size; have zg3 := hgrow1.size; (try simp only [World.size_alloc, World.size_drew] at zg3); have ys0 := kcb X3 ys0; have ys1 := kcb X3 ys1; have ys2 := kcb X3 ys2; have ys3 := kcb X3 ys3; have ly3 := ltb ys0) | (refine step_append_lies _ (by rfl) _ _ _ (by rfl) w2.heap.size 44 i0 _ 4 32 Try.underlying24 HI.out.1 HI.out.2.1 HI.out.2.2.1 HI.out.2.2.2 rfl (by omega) v1 (0 + n) _ (by rfl) (hown1.alloc _) ⟨w3.heap.size, 0, none⟩ 1 1 (cellsH s) (by rfl) (by rfl) (World.news_of_block (cs := #[.int .i64 s.p.x, .int .i64 s.p.y, .int .i64 s.lo, .int .i64 s.hi]) (t := 44) (fr := (0, 0)) (heap_alloc_new w3 _)) (by simp [cellsH, Value.oneCell']) (by omega) (by unfold maxLen; omega) (by omega) (by (try simp only [World.size_alloc, World.size_drew]); omega) _ rfl ?_; intro gg cap9 w9 hown9 hgrow hat hlt9; have X9 : Bl w2 w9 := Below.grown (by first | go_grown | exact X3 | exact X3.tr (by go_grown)) hgrow (by (try simp only [World.size_alloc, World.size_drew]); omega) (fun j hj => by have := hown1.lt _ hj; omega)) | (refine step_append_lies _ (by rfl) _ _ _ (by rfl) w2.heap.size 44 i0 _ 4 32 Try.underlying24 HI.out.1 HI.out.2.1 HI.out.2.2.1 HI.out.2.2.2 rfl (by omega) v1 (0 + n) _ (by rfl) (hown1) ⟨w2.heap.size + 1, 0, none⟩ 1 1 (cellsH s) (by rfl) (by rfl) (World.news_of_block (cs := #[.int .i64 s.p.x, .int .i64 s.p.y, .int .i64 s.lo, .int .i64 s.hi]) (t := 44) (fr := (0, 0)) ((hgrow1.block _ (by (try simp only [World.size_alloc, World.size_drew]); omega) (by intro h; have h : w2.heap.size + 1 = w2.heap.size := Option.some.inj h; omega)).trans (by have := heap_alloc_new (w2.drew.alloc (.cells #[] 44)) (.cells #[.int .i64 s.p.x, .int .i64 s.p.y, .int .i64 s.lo, .int .i64 s.hi] 44); rwa [World.size_alloc] at this))) (by simp [cellsH, Value.oneCell']) (by omega) (by unfold maxLen; omega) (by omega) (by (try simp only [World.size_alloc, World.size_drew]); omega) _ rfl ?_; intro gg cap9 w9 hown9 hgrow hat hlt9; have X9 : Bl w2 w9 := Below.grown (by first | go_grown | exact X3 | exact X3.tr (by go_grown)) hgrow (by (try simp only [World.size_alloc, World.size_drew]); omega) (fun j hj => by have := hown1.lt _ hj; omega)) | (refine step_append_lies _ (by rfl) _ _ _ (by rfl) w2.heap.size 44 i0 _ 4 32 Try.underlying24 HI.out.1 HI.out.2.1 HI.out.2.2.1 HI.out.2.2.2 rfl (by omega) v1 (0 + n) _ (by rfl) (hown1) ⟨w2.heap.size, 0, none⟩ 1 1 (cellsH s) (by rfl) (by rfl) (World.news_of_block (cs := #[.int .i64 s.p.x, .int .i64 s.p.y, .int .i64 s.lo, .int .i64 s.hi]) (t := 44) (fr := (0, 0)) ((hgrow1.block _ (by (try simp only [World.size_alloc, World.size_drew]); omega) (by intro h; have h : w2.heap.size = w2.heap.size + 1 := Option.some.inj h; omega)).trans ((Below.heap_alloc _ _ _ (by (try simp only [World.size_alloc, World.size_drew]); omega)).trans (heap_alloc_new w2.drew (.cells #[.int .i64 s.p.x, .int .i64 s.p.y, .int .i64 s.lo, .int .i64 s.hi] 44))))) (by simp [cellsH, Value.oneCell']) (by omega) (by unfold maxLen; omega) (by omega) (by (try simp only [World.size_alloc, World.size_drew]); omega) _ rfl ?_; intro gg cap9 w9 hown9 hgrow hat hlt9; have X9 : Bl w2 w9 := Below.grown (by first | go_grown | exact X3 | exact X3.tr (by go_grown)) hgrow (by (try simp only [World.size_alloc, World.size_drew]); omega) (fun j hj => by have := hown1.lt _ hj; omega)) | fail)
        all_goals
          go_wp2_with fail
          go_meet
          exact CR.of X9 (by simpa using hown9)
    case rest =>
      obtain ⟨g, cap, rfl, Xc, gc1, gc2, hsl⟩ := hcut
      have hb := Xc
      have Bc : Bl w wc := Below.trans B2 (hb.mono (by omega))
      have xa0 := kcb hb (b := w.heap.size) (o := 0) (v := .int .i64 a.s) (by first | assumption | (refine cellUp ?_; assumption) | go_cell)
      have xa1 := kcb hb (b := w.heap.size) (o := 1) (v := .int .i64 a.w) (by first | assumption | (refine cellUp ?_; assumption) | go_cell)
      have ys0 := kcb hb (b := w.heap.size + 1) (o := 0) (v := .int .i64 s.p.x) (by first | assumption | (refine cellUp ?_; assumption) | go_cell)
      have ys1 := kcb hb (b := w.heap.size + 1) (o := 1) (v := .int .i64 s.p.y) (by first | assumption | (refine cellUp ?_; assumption) | go_cell)
      have ys2 := kcb hb (b := w.heap.size + 1) (o := 2) (v := .int .i64 s.lo) (by first | assumption | (refine cellUp ?_; assumption) | go_cell)
      have ys3 := kcb hb (b := w.heap.size + 1) (o := 3) (v := .int .i64 s.hi) (by first | assumption | (refine cellUp ?_; assumption) | go_cell)
      have xb0 := kcb hb (b := w.heap.size + 1 + 1) (o := 0) (v := .int .i64 lo.x) (by first | assumption | (refine cellUp ?_; assumption) | go_cell)
      have xb1 := kcb hb (b := w.heap.size + 1 + 1) (o := 1) (v := .int .i64 lo.y) (by first | assumption | (refine cellUp ?_; assumption) | go_cell)
      have xb2 := kcb hb (b := w.heap.size + 1 + 1) (o := 2) (v := .int .i64 hi.x) (by first | assumption | (refine cellUp ?_; assumption) | go_cell)
      have xb3 := kcb hb (b := w.heap.size + 1 + 1) (o := 3) (v := .int .i64 hi.y) (by first | assumption | (refine cellUp ?_; assumption) | go_cell)
      have xb4 := kcb hb (b := w.heap.size + 1 + 1) (o := 4) (v := .int .i64 st) (by first | assumption | (refine cellUp ?_; assumption) | go_cell)
      have lc := ltb xa0
      have mc := ltb xb0
      have zzc := Bc.size
      clear hb
      have HSL := Lib.hid hsl
      clear hsl Xc ys0 ys1 ys2 ys3
      go_wp2_with fail
      refine (Where_any a A n c S lo hi st _ (HA.out.below (by first | exact Bc | exact Bc.tr (by go_grown))) HN.out).mono ?_
      rintro e3 w3 ⟨⟨A1, c1, rfl, p1, q1, r1⟩, hb⟩
      have xa0 := kcb hb (b := w.heap.size) (o := 0) (v := .int .i64 a.s) (by first | assumption | (refine cellUp ?_; assumption) | go_cell)
      have xa1 := kcb hb (b := w.heap.size) (o := 1) (v := .int .i64 a.w) (by first | assumption | (refine cellUp ?_; assumption) | go_cell)
      have xb0 := kcb hb (b := w.heap.size + 1 + 1) (o := 0) (v := .int .i64 lo.x) (by first | assumption | (refine cellUp ?_; assumption) | go_cell)
      have xb1 := kcb hb (b := w.heap.size + 1 + 1) (o := 1) (v := .int .i64 lo.y) (by first | assumption | (refine cellUp ?_; assumption) | go_cell)
      have xb2 := kcb hb (b := w.heap.size + 1 + 1) (o := 2) (v := .int .i64 hi.x) (by first | assumption | (refine cellUp ?_; assumption) | go_cell)
      have xb3 := kcb hb (b := w.heap.size + 1 + 1) (o := 3) (v := .int .i64 hi.y) (by first | assumption | (refine cellUp ?_; assumption) | go_cell)
      have xb4 := kcb hb (b := w.heap.size + 1 + 1) (o := 4) (v := .int .i64 st) (by first | assumption | (refine cellUp ?_; assumption) | go_cell)
      have B3 : Bl w w3 := Below.trans (by first | exact Bc | exact Bc.tr (by go_grown)) (hb.mono (by (try simp only [World.size_alloc, World.size_setCell, World.size_drew]); omega))
      have l3 := ltb xa0
      have m3 := ltb xb0
      have zz3 := B3.size
      have HSL := Lib.hid (HSL.out.below (Bl.tr (by go_grown) hb))
      clear hb
      have R1 := Lib.hid r1
      obtain ⟨L1, hL1⟩ : ∃ L, L = (whL a S n lo hi st).length := ⟨_, rfl⟩
      have HL1 := Lib.hid hL1
      rw [← hL1] at p1 R1 ⊢
      obtain ⟨e1, he1⟩ : ∃ x, x = whE a S n lo hi st := ⟨_, rfl⟩
      have HE1 := Lib.hid he1
      rw [← he1]
      unfold maxLen at q1
      clear r1 hL1 he1
      go_wp2_with fail
      refine (Where_any a (some ⟨g, 0, none⟩) (n + 1) cap (snocS S n s) lo hi st _ (HSL.out.below (by first | exact Bl.rf _ | go_grown)) (by unfold maxLen; omega)).mono ?_
      rintro e4 w4 ⟨⟨A2, c2, rfl, p2, q2, r2⟩, hb⟩
      have xa0 := kcb hb (b := w.heap.size) (o := 0) (v := .int .i64 a.s) (by first | assumption | (refine cellUp ?_; assumption) | go_cell)
      have xa1 := kcb hb (b := w.heap.size) (o := 1) (v := .int .i64 a.w) (by first | assumption | (refine cellUp ?_; assumption) | go_cell)
      have xb0 := kcb hb (b := w.heap.size + 1 + 1) (o := 0) (v := .int .i64 lo.x) (by first | assumption | (refine cellUp ?_; assumption) | go_cell)
      have xb1 := kcb hb (b := w.heap.size + 1 + 1) (o := 1) (v := .int .i64 lo.y) (by first | assumption | (refine cellUp ?_; assumption) | go_cell)
      have xb2 := kcb hb (b := w.heap.size + 1 + 1) (o := 2) (v := .int .i64 hi.x) (by first | assumption | (refine cellUp ?_; assumption) | go_cell)
      have xb3 := kcb hb (b := w.heap.size + 1 + 1) (o := 3) (v := .int .i64 hi.y) (by first | assumption | (refine cellUp ?_; assumption) | go_cell)
      have xb4 := kcb hb (b := w.heap.size + 1 + 1) (o := 4) (v := .int .i64 st) (by first | assumption | (refine cellUp ?_; assumption) | go_cell)
      have B4 : Bl w w4 := Below.trans (by first | exact B3 | exact B3.tr (by go_grown)) (hb.mono (by (try simp only [World.size_alloc, World.size_setCell, World.size_drew]); omega))
      have l4 := ltb xa0
      have m4 := ltb xb0
      have zz4 := B4.size
      have R1 := Lib.hid (R1.out.below (Bl.tr (by go_grown) hb))
      clear hb
      have R2 := Lib.hid r2
      obtain ⟨L2, hL2⟩ : ∃ L, L = (whL a (snocS S n s) (n + 1) lo hi st).length := ⟨_, rfl⟩
      have HL2 := Lib.hid hL2
      rw [← hL2] at p2 R2 ⊢
      obtain ⟨e2, he2⟩ : ∃ x, x = whE a (snocS S n s) (n + 1) lo hi st := ⟨_, rfl⟩
      have HE2 := Lib.hid he2
      rw [← he2]
      unfold maxLen at q2
      clear r2 hL2 he2
      by_cases hz : e1 = 0
      rotate_left
      · have z1 : (e1 == 0) = false := by simp [hz]
        have z2 : (e1 != 0) = true := by simp [hz]
        go_wp2_with fail
        refine (Mirrored_any A n c S _ (HA.out.below (by first | exact B4 | exact B4.tr (by go_grown))) HN.out).mono ?_
        rintro e6 w6 ⟨hb6, ⟨hvv, A6, c6, rfl, p6, q6, r6⟩ | ⟨hvv, rfl⟩⟩
        · have B6 := Lib.hid (show Bl w w6 from Bl.tr (by first | exact B4 | exact B4.tr (by go_grown)) hb6)
          clear hvv p6 q6 r6 hb6
          go_wp2_with fail
          have HB0 := Lib.hid (B6.out)
          refine (awakeG_any _).mono ?_
          rintro e9 w9 ⟨rfl, hb9⟩
          go_wp2_with fail
          go_ret
          exact ⟨rfl, Bl.tr HB0.out hb9⟩
        · have B6 := Lib.hid (show Bl w w6 from Bl.tr (by first | exact B4 | exact B4.tr (by go_grown)) hb6)
          clear hvv hb6
          go_wp2_with fail
          have HB0 := Lib.hid (B6.out)
          refine (awakeG_any _).mono ?_
          rintro e9 w9 ⟨rfl, hb9⟩
          go_wp2_with fail
          go_ret
          exact ⟨rfl, Bl.tr HB0.out hb9⟩
      have HZ := Lib.hid (show whE a S n lo hi st = 0 from by rw [← HE1.out]; exact hz)
      obtain rfl := hz
      by_cases hf2 : e2 = 0
      rotate_left
      · have z1 : (e2 == 0) = false := by simp [hf2]
        clear hf2
        go_wp2_with fail
        refine (Mirrored_any A n c S _ (HA.out.below (by first | exact B4 | exact B4.tr (by go_grown))) HN.out).mono ?_
        rintro e6 w6 ⟨hb6, ⟨hvv, A6, c6, rfl, p6, q6, r6⟩ | ⟨hvv, rfl⟩⟩
        rotate_left
        · exact absurd (whE_ok HZ.out).2.1 hvv
        have B6 : Bl w w6 := Bl.tr (by first | exact B4 | exact B4.tr (by go_grown)) hb6
        have xa0 := kcb (Bl.tr (by first | exact Bl.rf _ | go_grown) hb6) xa0
        have xa1 := kcb (Bl.tr (by first | exact Bl.rf _ | go_grown) hb6) xa1
        have xb0 := kcb (Bl.tr (by first | exact Bl.rf _ | go_grown) hb6) xb0
        have xb1 := kcb (Bl.tr (by first | exact Bl.rf _ | go_grown) hb6) xb1
        have xb2 := kcb (Bl.tr (by first | exact Bl.rf _ | go_grown) hb6) xb2
        have xb3 := kcb (Bl.tr (by first | exact Bl.rf _ | go_grown) hb6) xb3
        have xb4 := kcb (Bl.tr (by first | exact Bl.rf _ | go_grown) hb6) xb4
        have R6 := Lib.hid r6
        have l6 := ltb xa0
        have m6 := ltb xb0
        unfold maxLen at q6
        clear hvv hb6 r6
        obtain ⟨sx, hs1, hs2⟩ := mir_same HZ.out
        have HS1 := Lib.hid hs1
        have HS2 := Lib.hid hs2
        have ss : (sx == sx) = true := by simp
        have bl := (whE_ok HZ.out).2.2.1.1.1
        have bl1 : -50000 ≤ lo.x := bl.1
        have bl2 : lo.x ≤ 50000 := bl.2
        have eN : IntKind.i64.wrap (-lo.x) = -lo.x := IntWalk.i64_in _ (by omega)
        clear hs1 hs2 bl
        go_wp2_with fail
        refine (Suits_any a A n c S lo _ (HA.out.below (by first | exact B6 | exact B6.tr (by go_grown))) HN.out).mono ?_
        rintro e7 w7 ⟨rfl, hb7⟩
        rw [HS1.out]
        have B7 : Bl w w7 := Bl.tr B6 (Bl.tr (by first | exact Bl.rf _ | go_grown) hb7)
        have xa0 := kcb (Bl.tr (by first | exact Bl.rf _ | go_grown) hb7) xa0
        have xa1 := kcb (Bl.tr (by first | exact Bl.rf _ | go_grown) hb7) xa1
        have xb0 := kcb (Bl.tr (by first | exact Bl.rf _ | go_grown) hb7) xb0
        have xb1 := kcb (Bl.tr (by first | exact Bl.rf _ | go_grown) hb7) xb1
        have xb2 := kcb (Bl.tr (by first | exact Bl.rf _ | go_grown) hb7) xb2
        have xb3 := kcb (Bl.tr (by first | exact Bl.rf _ | go_grown) hb7) xb3
        have xb4 := kcb (Bl.tr (by first | exact Bl.rf _ | go_grown) hb7) xb4
        have R7 := Lib.hid (R6.out.below (Bl.tr (by first | exact Bl.rf _ | go_grown) hb7))
        have l7 := ltb xa0
        have m7 := ltb xb0
        clear hb7
        go_wp2_with fail
        refine (Suits_any a A6 n c6 (fun j => mir (S j)) ⟨-lo.x, lo.y⟩ _ (R7.out.below (by first | exact Bl.rf _ | go_grown)) HN.out).mono ?_
        rintro e8 w8 ⟨rfl, hb8⟩
        rw [HS2.out]
        have B8 := Lib.hid (show Bl w w8 from Bl.tr B7 (Bl.tr (by first | exact Bl.rf _ | go_grown) hb8))
        clear hb8
        go_wp2_with fail
        have HB0 := Lib.hid (B8.out)
        refine (awakeG_any _).mono ?_
        rintro e9 w9 ⟨rfl, hb9⟩
        go_wp2_with fail
        go_ret
        exact ⟨rfl, Bl.tr HB0.out hb9⟩
      have HZ2 := Lib.hid (show whE a (snocS S n s) (n + 1) lo hi st = 0 from by rw [← HE2.out]; exact hf2)
      obtain rfl := hf2
      have HSUB := Lib.hid (fewer_sub HZ.out HZ2.out)
      obtain ⟨P, hP⟩ : ∃ P, P = whL a S n lo hi st := ⟨_, rfl⟩
      obtain ⟨Q, hQ⟩ : ∃ Q, Q = whL a (snocS S n s) (n + 1) lo hi st := ⟨_, rfl⟩
      rw [← hP] at HL1 R1 HSUB
      rw [← hQ] at HL2 R2 HSUB
      have HCL := Lib.hid (And.intro xa0 (And.intro xa1 (And.intro xb0 (And.intro xb1 (And.intro xb2 (And.intro xb3 xb4))))))
      clear hP hQ
      go_wp2_with fail
      go_loopw [14, 69] (fun v i wr => ∃ k at_ : Nat, k ≤ L2 ∧ at_ ≤ L1 ∧ i = .int .i64 k ∧ v = .int .i64 at_ ∧ (Q.drop k).Sublist (P.drop at_) ∧ Bl w4 wr) (fun _ i _ => L2 - (RowKit.intOf i).toNat)
      case atStart => exact ⟨0, 0, Nat.zero_le _, Nat.zero_le _, rfl, rfl, by simpa using HSUB.out, Bl.rf _⟩
      case round =>
        obtain ⟨k, at_, hk, hat, rfl, rfl, hsub, hb⟩ := hrel
        have HS := Lib.hid hsub
        have HB := Lib.hid hb
        have zb := hb.size
        clear hsub hb
        by_cases hlt : k < L2
        · obtain ⟨bq, oq, rfl, hbq, hcq⟩ := R2.out (by omega)
          obtain ⟨g0, g1⟩ := hcq k hlt
          have g0 := kcb HB.out g0
          have g1 := kcb HB.out g1
          have hbq' := Nat.lt_of_lt_of_le hbq zb
          have HH := Lib.hid (sub_head (by rw [← HL2.out]; exact hlt) HS.out)
          obtain ⟨x, hx⟩ : ∃ x, x = Q.getD k ⟨0, 0⟩ := ⟨_, rfl⟩
          dsimp only at g0 g1
          rw [← hx] at g0 g1 HH
          clear hcq hx
          go_wp2_with fail
          obtain ⟨W1, hW1⟩ : ∃ W1, W1 = wr.alloc (.cells #[.int .i64 x.x, .int .i64 x.y] 26) := ⟨_, rfl⟩
          obtain ⟨X, hX⟩ : ∃ X, X = wr.heap.size := ⟨_, rfl⟩
          have t0 : W1.cell? ⟨X, 0, none⟩ = some (.int .i64 x.x) := by rw [hW1, hX]; go_cell
          have t1 : W1.cell? ⟨X, 1, none⟩ = some (.int .i64 x.y) := by rw [hW1, hX]; go_cell
          have BW := Lib.hid (show Bl w4 W1 from by rw [hW1]; exact HB.out.tr (by go_grown))
          rw [← hW1, ← hX]
          clear hW1 hX g0 g1
          go_loopw [14] (fun v wx => ∃ j N : Nat, j ≤ L1 ∧ v = .int .i64 j ∧ (x :: Q.drop (k + 1)).Sublist (P.drop j) ∧ wx = W1.drewN N) (fun v _ => L1 - (RowKit.intOf v).toNat)
          case atStart => exact ⟨at_, 0, hat, rfl, HH.out, rfl⟩
          case round =>
            obtain ⟨j, N, hj, rfl, hsj, rfl⟩ := hrel
            have HJ := Lib.hid hsj
            have jlt : j < L1 := by rw [HL1.out]; exact sub_lt hsj
            obtain ⟨bp, op, rfl, hbp, hcp⟩ := R1.out (by omega)
            obtain ⟨f0, f1⟩ := hcp j jlt
            have f0 := kcb BW.out f0
            have f1 := kcb BW.out f1
            obtain ⟨y, hy⟩ : ∃ y, y = P.getD j ⟨0, 0⟩ := ⟨_, rfl⟩
            dsimp only at f0 f1
            rw [← hy] at f0 f1
            have HNX := Lib.hid (show y ≠ x → (x :: Q.drop (k + 1)).Sublist (P.drop (j + 1)) from fun h => sub_next HJ.out (by rw [← hy]; exact h))
            clear hcp hsj hy
            by_cases hxx : y.x = x.x
            · by_cases hyy : y.y = x.y
              · have d1 : (y.x == x.x) = true := by simp [hxx]
                have d2 : (y.y == x.y) = true := by simp [hyy]
                have HQN := Lib.hid (sub_tail HJ.out)
                clear HNX
                go_wp2_with fail
                go_quiet (fail)
                all_goals
                  go_wp2_with fail
                  go_roundw
                  case rel => exact ⟨k + 1, j, by omega, by omega, by go_num, rfl, HQN.out, BW.out.tr (Bl.dr _ _)⟩
                  case measure => simp [RowKit.intOf]; omega
              · have d2 : (y.y == x.y) = false := by simp [hyy]
                have HNN := Lib.hid (HNX.out (fun h => hyy (by rw [h])))
                clear HNX
                go_wp2_with fail
                go_quiet (fail)
                all_goals
                  go_wp2_with fail
                  go_roundw
                  case rel => exact ⟨j + 1, N + nq, by omega, by go_num, HNN.out, rfl⟩
                  case measure => simp [RowKit.intOf]; omega
            · have d1 : (y.x == x.x) = false := by simp [hxx]
              have HNN := Lib.hid (HNX.out (fun h => hxx (by rw [h])))
              clear HNX
              go_wp2_with fail
              go_quiet (fail)
              all_goals
                go_wp2_with fail
                go_roundw
                case rel => exact ⟨j + 1, N + nq, by omega, by go_num, HNN.out, rfl⟩
                case measure => simp [RowKit.intOf]; omega
        · obtain rfl : k = L2 := by omega
          have Bw : Bl w wr := Bl.tr B4 HB.out
          obtain ⟨xa0, xa1, xb0, xb1, xb2, xb3, xb4⟩ := HCL.out
          have xa0 := kcb HB.out xa0
          have xa1 := kcb HB.out xa1
          have xb0 := kcb HB.out xb0
          have xb1 := kcb HB.out xb1
          have xb2 := kcb HB.out xb2
          have xb3 := kcb HB.out xb3
          have xb4 := kcb HB.out xb4
          have lw := ltb xa0
          have mw := ltb xb0
          go_wp2_with fail
          refine (Mirrored_any A n c S _ (HA.out.below (by first | exact Bw | exact Bw.tr (by go_grown))) HN.out).mono ?_
          rintro e6 w6 ⟨hb6, ⟨hvv, A6, c6, rfl, p6, q6, r6⟩ | ⟨hvv, rfl⟩⟩
          rotate_left
          · exact absurd (whE_ok HZ.out).2.1 hvv
          have B6 : Bl w w6 := Bl.tr (by first | exact Bw | exact Bw.tr (by go_grown)) hb6
          have xa0 := kcb (Bl.tr (by first | exact Bl.rf _ | go_grown) hb6) xa0
          have xa1 := kcb (Bl.tr (by first | exact Bl.rf _ | go_grown) hb6) xa1
          have xb0 := kcb (Bl.tr (by first | exact Bl.rf _ | go_grown) hb6) xb0
          have xb1 := kcb (Bl.tr (by first | exact Bl.rf _ | go_grown) hb6) xb1
          have xb2 := kcb (Bl.tr (by first | exact Bl.rf _ | go_grown) hb6) xb2
          have xb3 := kcb (Bl.tr (by first | exact Bl.rf _ | go_grown) hb6) xb3
          have xb4 := kcb (Bl.tr (by first | exact Bl.rf _ | go_grown) hb6) xb4
          have R6 := Lib.hid r6
          have l6 := ltb xa0
          have m6 := ltb xb0
          unfold maxLen at q6
          clear hvv hb6 r6
          obtain ⟨sx, hs1, hs2⟩ := mir_same HZ.out
          have HS1 := Lib.hid hs1
          have HS2 := Lib.hid hs2
          have ss : (sx == sx) = true := by simp
          have bl := (whE_ok HZ.out).2.2.1.1.1
          have bl1 : -50000 ≤ lo.x := bl.1
          have bl2 : lo.x ≤ 50000 := bl.2
          have eN : IntKind.i64.wrap (-lo.x) = -lo.x := IntWalk.i64_in _ (by omega)
          clear hs1 hs2 bl
          go_wp2_with fail
          refine (Suits_any a A n c S lo _ (HA.out.below (by first | exact B6 | exact B6.tr (by go_grown))) HN.out).mono ?_
          rintro e7 w7 ⟨rfl, hb7⟩
          rw [HS1.out]
          have B7 : Bl w w7 := Bl.tr B6 (Bl.tr (by first | exact Bl.rf _ | go_grown) hb7)
          have xa0 := kcb (Bl.tr (by first | exact Bl.rf _ | go_grown) hb7) xa0
          have xa1 := kcb (Bl.tr (by first | exact Bl.rf _ | go_grown) hb7) xa1
          have xb0 := kcb (Bl.tr (by first | exact Bl.rf _ | go_grown) hb7) xb0
          have xb1 := kcb (Bl.tr (by first | exact Bl.rf _ | go_grown) hb7) xb1
          have xb2 := kcb (Bl.tr (by first | exact Bl.rf _ | go_grown) hb7) xb2
          have xb3 := kcb (Bl.tr (by first | exact Bl.rf _ | go_grown) hb7) xb3
          have xb4 := kcb (Bl.tr (by first | exact Bl.rf _ | go_grown) hb7) xb4
          have R7 := Lib.hid (R6.out.below (Bl.tr (by first | exact Bl.rf _ | go_grown) hb7))
          have l7 := ltb xa0
          have m7 := ltb xb0
          clear hb7
          go_wp2_with fail
          refine (Suits_any a A6 n c6 (fun j => mir (S j)) ⟨-lo.x, lo.y⟩ _ (R7.out.below (by first | exact Bl.rf _ | go_grown)) HN.out).mono ?_
          rintro e8 w8 ⟨rfl, hb8⟩
          rw [HS2.out]
          have B8 := Lib.hid (show Bl w w8 from Bl.tr B7 (Bl.tr (by first | exact Bl.rf _ | go_grown) hb8))
          clear hb8
          go_wp2_with fail
          have HB0 := Lib.hid (B8.out)
          refine (awakeG_any _).mono ?_
          rintro e9 w9 ⟨rfl, hb9⟩
          go_wp2_with fail
          go_ret
          exact ⟨rfl, Bl.tr HB0.out hb9⟩
end Go.Proofs.Ythemoomfbbccjaa
