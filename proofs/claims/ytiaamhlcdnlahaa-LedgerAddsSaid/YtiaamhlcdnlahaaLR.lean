/-
  Contracts of the reference of package ledger: Added.
-/
import Derived.Test.YtiaamhlcdnlahaaLQ
namespace Go.Proofs.Ytiaamhlcdnlahaa
open Go.RowKit Go.Maps
set_option linter.unusedSimpArgs false
set_option linter.unusedVariables false

theorem far3 {W W' : World} {row : Option Nat} (hg : W.grownBy W' row) {b o : Nat} {v : Value} (h : W.cell? ⟨b, o, none⟩ = some v) (hne : ∀ j, row = some j → j ≠ b) : W'.cell? ⟨b, o, none⟩ = some v :=
  (hg.cell_far ⟨b, o, none⟩ (ltb h) (fun q => hne b q.symm rfl)).trans h
set_option maxRecDepth 100000 in
set_option maxHeartbeats 40000000 in
theorem radded_any (A : Option Addr) (n c : Nat) (L : Nat → En) (x : En) (w : World) (hA : El w A n L) (hn : n ≤ maxLen) :
    Calls Try.prog 46 #[.slice A n c, encE x] w (MrgPost (mrgC L n (fun _ => x) 1) (n + 1) (catE n L (fun _ => x)) w) := by
  have H1 := Lib.hid (fun (X : World) (hb : Bl w X) => rvalidE_any A n c L X (hA.below hb) hn)
  have HA := Lib.hid hA
  clear hA hn
  cases hv : vlB L n with
  | false =>
    have HV := Lib.hid hv
    have HC := Lib.hid (show mrgC L n (fun _ => x) 1 = 1 from mrg_v1 hv)
    clear hv
    go_enter Try.func46, Try.ntmps46
    go_wp2_with fail
    refine (H1.out _ (by go_grown)).mono ?_
    rintro e1 w1 ⟨rfl, hb⟩
    rw [HV.out]
    have x0 := kcb hb (b := w.heap.size) (o := 0) (v := .int .i64 x.day) (by go_cell)
    have x1 := kcb hb (b := w.heap.size) (o := 1) (v := .bool x.fo) (by go_cell)
    have x2 := kcb hb (b := w.heap.size) (o := 2) (v := .int .i64 x.er) (by go_cell)
    have B1 := Lib.hid (show Bl w w1 from Bl.tr (by go_grown) hb)
    have lx := ltb x0
    clear hb
    go_wp2_with fail
    go_ret2
    exact ⟨B1.out, .inl ⟨by rw [HC.out]; decide, by rw [HC.out]; rfl⟩⟩
  | true =>
    have HV := Lib.hid hv
    clear hv
    cases hv : enB x with
    | false =>
      have HV2 := Lib.hid hv
      have HC := Lib.hid (show mrgC L n (fun _ => x) 1 = 1 from mrg_v2 (by rw [vl_one]; exact hv))
      clear hv
      go_enter Try.func46, Try.ntmps46
      go_wp2_with fail
      refine (H1.out _ (by go_grown)).mono ?_
      rintro e1 w1 ⟨rfl, hb⟩
      rw [HV.out]
      have x0 := kcb hb (b := w.heap.size) (o := 0) (v := .int .i64 x.day) (by go_cell)
      have x1 := kcb hb (b := w.heap.size) (o := 1) (v := .bool x.fo) (by go_cell)
      have x2 := kcb hb (b := w.heap.size) (o := 2) (v := .int .i64 x.er) (by go_cell)
      have B1 := Lib.hid (show Bl w w1 from Bl.tr (by go_grown) hb)
      have lx := ltb x0
      clear hb
      go_wp2_with fail
      refine (rvalid1_any x _).mono ?_
      rintro e2 w2 ⟨rfl, hb⟩
      rw [HV2.out]
      have x0 := kcb hb x0
      have x1 := kcb hb x1
      have x2 := kcb hb x2
      have lx := ltb x0
      have B2 := Lib.hid (B1.out.tr hb)
      have z2 := B2.out.size
      clear hb
      go_wp2_with fail
      go_ret2
      exact ⟨B2.out, .inl ⟨by rw [HC.out]; decide, by rw [HC.out]; rfl⟩⟩
    | true =>
      have HV2 := Lib.hid hv
      clear hv
      have n1 := (vl_iff.1 HV.out).1
      by_cases hl : n = 1000
      · have HC := Lib.hid (show mrgC L n (fun _ => x) 1 = 4 from mrg_lim HV.out (by rw [vl_one]; exact HV2.out) (by omega))
        have hl' : ((n : Int) == 1000) = true := by simp; omega
        clear hl
        go_enter Try.func46, Try.ntmps46
        go_wp2_with fail
        refine (H1.out _ (by go_grown)).mono ?_
        rintro e1 w1 ⟨rfl, hb⟩
        rw [HV.out]
        have x0 := kcb hb (b := w.heap.size) (o := 0) (v := .int .i64 x.day) (by go_cell)
        have x1 := kcb hb (b := w.heap.size) (o := 1) (v := .bool x.fo) (by go_cell)
        have x2 := kcb hb (b := w.heap.size) (o := 2) (v := .int .i64 x.er) (by go_cell)
        have B1 := Lib.hid (show Bl w w1 from Bl.tr (by go_grown) hb)
        have lx := ltb x0
        clear hb
        go_wp2_with fail
        refine (rvalid1_any x _).mono ?_
        rintro e2 w2 ⟨rfl, hb⟩
        rw [HV2.out]
        have x0 := kcb hb x0
        have x1 := kcb hb x1
        have x2 := kcb hb x2
        have lx := ltb x0
        have B2 := Lib.hid (B1.out.tr hb)
        have z2 := B2.out.size
        clear hb
        go_wp2_with fail
        go_ret2
        exact ⟨B2.out, .inl ⟨by rw [HC.out]; decide, by rw [HC.out]; rfl⟩⟩
      · have HC := Lib.hid (show mrgC L n (fun _ => x) 1 = 0 from mrg_ok HV.out (by rw [vl_one]; exact HV2.out) (by omega))
        have hl' : ((n : Int) == 1000) = false := by simp; omega
        have hn9 : n + 1 ≤ 3000 := by omega
        have hn8 : 0 + n ≤ 3000 := by omega
        clear hl
        go_enter Try.func46, Try.ntmps46
        go_wp2_with fail
        refine (H1.out _ (by go_grown)).mono ?_
        rintro e1 w1 ⟨rfl, hb⟩
        rw [HV.out]
        have x0 := kcb hb (b := w.heap.size) (o := 0) (v := .int .i64 x.day) (by go_cell)
        have x1 := kcb hb (b := w.heap.size) (o := 1) (v := .bool x.fo) (by go_cell)
        have x2 := kcb hb (b := w.heap.size) (o := 2) (v := .int .i64 x.er) (by go_cell)
        have B1 := Lib.hid (show Bl w w1 from Bl.tr (by go_grown) hb)
        have lx := ltb x0
        clear hb
        go_wp2_with fail
        refine (rvalid1_any x _).mono ?_
        rintro e2 w2 ⟨rfl, hb⟩
        rw [HV2.out]
        have x0 := kcb hb x0
        have x1 := kcb hb x1
        have x2 := kcb hb x2
        have lx := ltb x0
        have B2 := Lib.hid (B1.out.tr hb)
        have z2 := B2.out.size
        clear hb
        go_wp2_with fail
        have tok : True := trivial
        go_region_held3 (fun W' => W'.cell? ⟨w.heap.size, 0, none⟩ = some (.int .i64 x.day) ∧ W'.cell? ⟨w.heap.size, 1, none⟩ = some (.bool x.fo) ∧ W'.cell? ⟨w.heap.size, 2, none⟩ = some (.int .i64 x.er)) (first | exact ⟨c0, c1, c2⟩ | exact ⟨a0, a1, a2⟩ | exact ⟨cellUp a0, cellUp a1, cellUp a2⟩ | exact ⟨x0, x1, x2⟩ | exact ⟨cellUp x0, cellUp x1, cellUp x2⟩ | exact ⟨cellUp (cellUp x0), cellUp (cellUp x1), cellUp (cellUp x2)⟩) (first
          | (have _t := tok; (with_reducible refine step_append_el (w := (w2.alloc (.cells #[] 46)).drew) ?_ (.tmp 17) (.tmp 18) ?_ w2.heap.size (.slice (some ⟨w2.heap.size, 0, none⟩) 0 0) 0 L ?_ ?_ A n c L ?_ ?_ ?_ ?_ ?_); exact rfl; exact rfl; exact rfl; exact (World.ownsRow_lit w2 #[] 0 (Nat.le_refl _) (by decide) rfl); exact rfl; exact (HA.out.below (B2.out.tr (Bl.tr (by go_grown) (bl_dr _)))); exact hn8; exact (by (try simp only [World.size_drew, World.size_alloc]); omega); intro v9 w9 hown9 hg9 hl9; have HO9 := Lib.hid (own_cat0 hown9); have B9 := Lib.hid (show Bl w2 w9 from Below.grown (Bl.tr (by go_grown) (bl_dr _)) hg9 (by (try simp only [World.size_drew, World.size_alloc]); omega) (fun j hj => by simp only [Value.ownBlock, Option.some.injEq] at hj; (try simp only [World.size_alloc] at hj); omega)); have a0 := far3 hg9 (cellUp x0) (fun j hj => by simp only [Value.ownBlock, Option.some.injEq] at hj; (try simp only [World.size_alloc] at hj); omega); have a1 := far3 hg9 (cellUp x1) (fun j hj => by simp only [Value.ownBlock, Option.some.injEq] at hj; (try simp only [World.size_alloc] at hj); omega); have a2 := far3 hg9 (cellUp x2) (fun j hj => by simp only [Value.ownBlock, Option.some.injEq] at hj; (try simp only [World.size_alloc] at hj); omega); have z9 := B9.out.size; clear hown9 hg9 hl9 _t tok)
          | (have _t := tok; (with_reducible refine step_append_el (w := ((w2.alloc (.cells #[] 46)).alloc (.cells #[.int .i64 x.day, .bool x.fo, .int .i64 x.er] 46)).drew) ?_ (.tmp 17) (.tmp 18) ?_ w2.heap.size (.slice (some ⟨w2.heap.size, 0, none⟩) 0 0) 0 L ?_ ?_ A n c L ?_ ?_ ?_ ?_ ?_); exact rfl; exact rfl; exact rfl; exact ((World.ownsRow_lit w2 #[] 0 (Nat.le_refl _) (by decide) rfl : (w2.alloc (.cells #[] 46)).ownsRow w2.heap.size 46 3 _ 0 []).alloc _); exact rfl; exact (HA.out.below (B2.out.tr (Bl.tr (by go_grown) (bl_dr _)))); exact hn8; exact (by (try simp only [World.size_drew, World.size_alloc]); omega); intro v9 w9 hown9 hg9 hl9; have HO9 := Lib.hid (own_cat0 hown9); have B9 := Lib.hid (show Bl w2 w9 from Below.grown (Bl.tr (by go_grown) (bl_dr _)) hg9 (by (try simp only [World.size_drew, World.size_alloc]); omega) (fun j hj => by simp only [Value.ownBlock, Option.some.injEq] at hj; (try simp only [World.size_alloc] at hj); omega)); have a0 := far3 hg9 (cellUp (cellUp x0)) (fun j hj => by simp only [Value.ownBlock, Option.some.injEq] at hj; (try simp only [World.size_alloc] at hj); omega); have a1 := far3 hg9 (cellUp (cellUp x1)) (fun j hj => by simp only [Value.ownBlock, Option.some.injEq] at hj; (try simp only [World.size_alloc] at hj); omega); have a2 := far3 hg9 (cellUp (cellUp x2)) (fun j hj => by simp only [Value.ownBlock, Option.some.injEq] at hj; (try simp only [World.size_alloc] at hj); omega); have z9 := B9.out.size; have y0 := far3 hg9 (b := w2.heap.size + 1) (o := 0) (v := .int .i64 x.day) (by go_cell) (fun j hj => by simp only [Value.ownBlock, Option.some.injEq] at hj; (try simp only [World.size_alloc] at hj); omega); have y1 := far3 hg9 (b := w2.heap.size + 1) (o := 1) (v := .bool x.fo) (by go_cell) (fun j hj => by simp only [Value.ownBlock, Option.some.injEq] at hj; (try simp only [World.size_alloc] at hj); omega); have y2 := far3 hg9 (b := w2.heap.size + 1) (o := 2) (v := .int .i64 x.er) (by go_cell) (fun j hj => by simp only [Value.ownBlock, Option.some.injEq] at hj; (try simp only [World.size_alloc] at hj); omega); clear hown9 hg9 hl9 _t tok)
          | (have _t := tok; (with_reducible refine step_append_el (w := ((w2.alloc (.cells #[.int .i64 x.day, .bool x.fo, .int .i64 x.er] 46)).alloc (.cells #[] 46)).drew) ?_ (.tmp 17) (.tmp 18) ?_ w2.heap.size (.slice (some ⟨w2.heap.size + 1, 0, none⟩) 0 0) 0 L ?_ ?_ A n c L ?_ ?_ ?_ ?_ ?_); exact rfl; exact rfl; exact rfl; exact (by have h0 : ((w2.alloc (.cells #[.int .i64 x.day, .bool x.fo, .int .i64 x.er] 46)).alloc (.cells #[] 46)).ownsRow w2.heap.size 46 3 (.slice (some ⟨(w2.alloc (.cells #[.int .i64 x.day, .bool x.fo, .int .i64 x.er] 46)).heap.size, 0, none⟩) 0 0) 0 [] := World.ownsRow_lit (w2.alloc (.cells #[.int .i64 x.day, .bool x.fo, .int .i64 x.er] 46)) #[] 0 (by rw [World.size_alloc]; omega) (by decide) rfl; rw [World.size_alloc] at h0; exact h0); exact rfl; exact (HA.out.below (B2.out.tr (Bl.tr (by go_grown) (bl_dr _)))); exact hn8; exact (by (try simp only [World.size_drew, World.size_alloc]); omega); intro v9 w9 hown9 hg9 hl9; have HO9 := Lib.hid (own_cat0 hown9); have B9 := Lib.hid (show Bl w2 w9 from Below.grown (Bl.tr (by go_grown) (bl_dr _)) hg9 (by (try simp only [World.size_drew, World.size_alloc]); omega) (fun j hj => by simp only [Value.ownBlock, Option.some.injEq] at hj; (try simp only [World.size_alloc] at hj); omega)); have a0 := far3 hg9 (cellUp (cellUp x0)) (fun j hj => by simp only [Value.ownBlock, Option.some.injEq] at hj; (try simp only [World.size_alloc] at hj); omega); have a1 := far3 hg9 (cellUp (cellUp x1)) (fun j hj => by simp only [Value.ownBlock, Option.some.injEq] at hj; (try simp only [World.size_alloc] at hj); omega); have a2 := far3 hg9 (cellUp (cellUp x2)) (fun j hj => by simp only [Value.ownBlock, Option.some.injEq] at hj; (try simp only [World.size_alloc] at hj); omega); have z9 := B9.out.size; have y0 := far3 hg9 (b := w2.heap.size) (o := 0) (v := .int .i64 x.day) (by go_cell) (fun j hj => by simp only [Value.ownBlock, Option.some.injEq] at hj; (try simp only [World.size_alloc] at hj); omega); have y1 := far3 hg9 (b := w2.heap.size) (o := 1) (v := .bool x.fo) (by go_cell) (fun j hj => by simp only [Value.ownBlock, Option.some.injEq] at hj; (try simp only [World.size_alloc] at hj); omega); have y2 := far3 hg9 (b := w2.heap.size) (o := 2) (v := .int .i64 x.er) (by go_cell) (fun j hj => by simp only [Value.ownBlock, Option.some.injEq] at hj; (try simp only [World.size_alloc] at hj); omega); clear hown9 hg9 hl9 _t tok)
          | (have _s := HO9; (with_reducible refine step_append_el (w := w9.alloc (.cells #[.int .i64 x.day, .bool x.fo, .int .i64 x.er] 46)) ?_ (.tmp 19) (.tmp 21) ?_ w2.heap.size v9 n L ?_ ?_ (some ⟨w9.heap.size, 0, none⟩) 1 1 (fun _ => x) ?_ ?_ ?_ ?_ ?_); exact rfl; exact rfl; exact rfl; exact (HO9.out.alloc _); exact rfl; exact (el_one (by go_cell) (by go_cell) (by go_cell)); exact hn9; exact (by (try simp only [World.size_alloc]); omega); intro v8 w8 hown8 hg8 hl8; have HO8 := Lib.hid (isEn_of_own hown8); have B8 := Lib.hid (show Bl w2 w8 from below_own (B9.out.tr (by first | exact Bl.rf _ | go_grown)) (HO9.out.alloc _) (Nat.le_refl _) hg8); have c0 := far3 hg8 (cellUp a0) (fun j hj => by have := (HO9.out.lt j hj).1; omega); have c1 := far3 hg8 (cellUp a1) (fun j hj => by have := (HO9.out.lt j hj).1; omega); have c2 := far3 hg8 (cellUp a2) (fun j hj => by have := (HO9.out.lt j hj).1; omega); clear hown8 hg8 hl8)
          | (have _s := HO9; (with_reducible refine step_append_el (w := w9) ?_ (.tmp 19) (.tmp 21) ?_ w2.heap.size v9 n L ?_ ?_ (some ⟨w2.heap.size + 1, 0, none⟩) 1 1 (fun _ => x) ?_ ?_ ?_ ?_ ?_); exact rfl; exact rfl; exact rfl; exact (HO9.out); exact rfl; exact (el_one y0 y1 y2); exact hn9; exact (by (try simp only [World.size_alloc]); omega); intro v8 w8 hown8 hg8 hl8; have HO8 := Lib.hid (isEn_of_own hown8); have B8 := Lib.hid (show Bl w2 w8 from below_own (B9.out.tr (by first | exact Bl.rf _ | go_grown)) (HO9.out) (Nat.le_refl _) hg8); have c0 := far3 hg8 (a0) (fun j hj => by have := (HO9.out.lt j hj).1; omega); have c1 := far3 hg8 (a1) (fun j hj => by have := (HO9.out.lt j hj).1; omega); have c2 := far3 hg8 (a2) (fun j hj => by have := (HO9.out.lt j hj).1; omega); clear hown8 hg8 hl8)
          | (have _s := HO9; (with_reducible refine step_append_el (w := w9) ?_ (.tmp 19) (.tmp 21) ?_ w2.heap.size v9 n L ?_ ?_ (some ⟨w2.heap.size, 0, none⟩) 1 1 (fun _ => x) ?_ ?_ ?_ ?_ ?_); exact rfl; exact rfl; exact rfl; exact (HO9.out); exact rfl; exact (el_one y0 y1 y2); exact hn9; exact (by (try simp only [World.size_alloc]); omega); intro v8 w8 hown8 hg8 hl8; have HO8 := Lib.hid (isEn_of_own hown8); have B8 := Lib.hid (show Bl w2 w8 from below_own (B9.out.tr (by first | exact Bl.rf _ | go_grown)) (HO9.out) (Nat.le_refl _) hg8); have c0 := far3 hg8 (a0) (fun j hj => by have := (HO9.out.lt j hj).1; omega); have c1 := far3 hg8 (a1) (fun j hj => by have := (HO9.out.lt j hj).1; omega); have c2 := far3 hg8 (a2) (fun j hj => by have := (HO9.out.lt j hj).1; omega); clear hown8 hg8 hl8))
        all_goals
          go_wp2_with fail
          go_ret2
          exact ⟨B2.out.tr B8.out, .inr ⟨HC.out, _, rfl, HO8.out.mono z2⟩⟩
end Go.Proofs.Ytiaamhlcdnlahaa
