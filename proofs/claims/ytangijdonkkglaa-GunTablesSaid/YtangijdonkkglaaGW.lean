/-
  Contracts of Alike, both; spans and shots compared.
-/
import Derived.Test.YtangijdonkkglaaGT
namespace Go.Proofs.Ytangijdonkkglaa
open Go.RowKit
set_option linter.unusedSimpArgs false
set_option linter.unusedVariables false

def aliR (a : Air) (g p q : Pt) : Bool × Int := if VA a then (if isP g ∧ isP p ∧ isP q then (decide ((lagP a g p).1 = (lagP a g q).1 ∧ (lagP a g p).2 = (lagP a g q).2), 0) else (false, 7)) else (false, 1)
abbrev Sa (w : World) (b0 b1 b2 b3 : Nat) (a : Air) (g p q : Pt) (X : World) : Prop :=
  Bl w X ∧ X.cell? ⟨b0, 0, none⟩ = some (.int .i64 a.s) ∧ X.cell? ⟨b0, 1, none⟩ = some (.int .i64 a.w) ∧ X.cell? ⟨b1, 0, none⟩ = some (.int .i64 g.x) ∧ X.cell? ⟨b1, 1, none⟩ = some (.int .i64 g.y) ∧ X.cell? ⟨b2, 0, none⟩ = some (.int .i64 p.x) ∧ X.cell? ⟨b2, 1, none⟩ = some (.int .i64 p.y) ∧ X.cell? ⟨b3, 0, none⟩ = some (.int .i64 q.x) ∧ X.cell? ⟨b3, 1, none⟩ = some (.int .i64 q.y)
theorem Sa.t {w X X' : World} {b0 b1 b2 b3 : Nat} {a : Air} {g p q : Pt} (h : Sa w b0 b1 b2 b3 a g p q X) (hb : Bl X X') : Sa w b0 b1 b2 b3 a g p q X' := by
  obtain ⟨h0, h1, h2, h3, h4, h5, h6, h7, h8⟩ := h
  exact ⟨h0.tr hb, kcb hb h1, kcb hb h2, kcb hb h3, kcb hb h4, kcb hb h5, kcb hb h6, kcb hb h7, kcb hb h8⟩

set_option maxRecDepth 100000 in
set_option maxHeartbeats 3200000 in
theorem Alike_any (a : Air) (g p q : Pt) (w : World) :
    Calls Try.prog 49 #[encA a, encP g, encP p, encP q] w fun e w' => e = .returned (rB (aliR a g p q)) ∧ Bl w w' := by
  by_cases ha : VA a
  · have Q0 := Lib.hid (show decide (VA a) = true from decide_eq_true ha)
    have HAA := Lib.hid ha
    by_cases hp : isP g ∧ isP p ∧ isP q
    · have Q1 := Lib.hid (show decide (allP (three g p q) 3) = true from decide_eq_true (allP_three.2 hp))
      have HR := Lib.hid (show aliR a g p q = (decide ((lagP a g p).1 = (lagP a g q).1 ∧ (lagP a g p).2 = (lagP a g q).2), 0) by unfold aliR; rw [if_pos ha, if_pos hp])
      obtain ⟨hg, hp, hq⟩ := hp
      have HG := Lib.hid hg
      clear ha
      by_cases e1 : (lagP a g p).1 = (lagP a g q).1
      rotate_left
      · have HV := Lib.hid (show aliR a g p q = (false, 0) by rw [HR.out, show decide _ = false from decide_eq_false (fun h => e1 h.1)])
        have HR := HV
        go_enter Try.func49, Try.ntmps49
        go_wp2_with fail
        refine (validAir_any a _).mono ?_
        rintro q1 w1 ⟨rfl, hb⟩
        have xa0 := kcb hb (b := w.heap.size) (o := 0) (v := .int .i64 a.s) (by first | assumption | (refine cellUp ?_; assumption) | go_cell)
        have xa1 := kcb hb (b := w.heap.size) (o := 1) (v := .int .i64 a.w) (by first | assumption | (refine cellUp ?_; assumption) | go_cell)
        have xg0 := kcb hb (b := w.heap.size + 1) (o := 0) (v := .int .i64 g.x) (by first | assumption | (refine cellUp ?_; assumption) | go_cell)
        have xg1 := kcb hb (b := w.heap.size + 1) (o := 1) (v := .int .i64 g.y) (by first | assumption | (refine cellUp ?_; assumption) | go_cell)
        have xp0 := kcb hb (b := w.heap.size + 1 + 1) (o := 0) (v := .int .i64 p.x) (by first | assumption | (refine cellUp ?_; assumption) | go_cell)
        have xp1 := kcb hb (b := w.heap.size + 1 + 1) (o := 1) (v := .int .i64 p.y) (by first | assumption | (refine cellUp ?_; assumption) | go_cell)
        have xq0 := kcb hb (b := w.heap.size + 1 + 1 + 1) (o := 0) (v := .int .i64 q.x) (by first | assumption | (refine cellUp ?_; assumption) | go_cell)
        have xq1 := kcb hb (b := w.heap.size + 1 + 1 + 1) (o := 1) (v := .int .i64 q.y) (by first | assumption | (refine cellUp ?_; assumption) | go_cell)
        have B1 : Bl w w1 := Below.trans (by go_grown) (hb.mono (by (try simp only [World.size_alloc, World.size_setCell]); omega))
        have l1 := ltb xq1
        have l1_1 := ltb xp1
        have l1_2 := ltb xg1
        have l1_3 := ltb xa1
        have zz1 := B1.size
        clear hb
        rw [Q0.out]
        go_wp2_with fail
        refine (arePl_any _ 3 3 (three g p q) _ (pl_three (by go_cell) (by go_cell) (by go_cell) (by go_cell) (by go_cell) (by go_cell)) (by unfold maxLen; omega)).mono ?_
        rintro q2 w2 ⟨rfl, hb⟩
        have xa0 := kcb hb (b := w.heap.size) (o := 0) (v := .int .i64 a.s) (by first | assumption | (refine cellUp ?_; assumption) | go_cell)
        have xa1 := kcb hb (b := w.heap.size) (o := 1) (v := .int .i64 a.w) (by first | assumption | (refine cellUp ?_; assumption) | go_cell)
        have xg0 := kcb hb (b := w.heap.size + 1) (o := 0) (v := .int .i64 g.x) (by first | assumption | (refine cellUp ?_; assumption) | go_cell)
        have xg1 := kcb hb (b := w.heap.size + 1) (o := 1) (v := .int .i64 g.y) (by first | assumption | (refine cellUp ?_; assumption) | go_cell)
        have xp0 := kcb hb (b := w.heap.size + 1 + 1) (o := 0) (v := .int .i64 p.x) (by first | assumption | (refine cellUp ?_; assumption) | go_cell)
        have xp1 := kcb hb (b := w.heap.size + 1 + 1) (o := 1) (v := .int .i64 p.y) (by first | assumption | (refine cellUp ?_; assumption) | go_cell)
        have xq0 := kcb hb (b := w.heap.size + 1 + 1 + 1) (o := 0) (v := .int .i64 q.x) (by first | assumption | (refine cellUp ?_; assumption) | go_cell)
        have xq1 := kcb hb (b := w.heap.size + 1 + 1 + 1) (o := 1) (v := .int .i64 q.y) (by first | assumption | (refine cellUp ?_; assumption) | go_cell)
        have B2 : Bl w w2 := Below.trans (by go_grown) (hb.mono (by (try simp only [World.size_alloc, World.size_setCell]); omega))
        have l2 := ltb xq1
        have l2_1 := ltb xp1
        have l2_2 := ltb xg1
        have l2_3 := ltb xa1
        have zz2 := B2.size
        clear hb
        rw [Q1.out]
        go_wp2_with fail
        have S2 : Sa w w.heap.size (w.heap.size + 1) (w.heap.size + 1 + 1) (w.heap.size + 1 + 1 + 1) a g p q w2 := ⟨B2, xa0, xa1, xg0, xg1, xp0, xp1, xq0, xq1⟩
        go_region_held3 (fun w' => Bl w w' ∧ w'.cell? ⟨w.heap.size, 0, none⟩ = some (.int .i64 a.s) ∧ w'.cell? ⟨w.heap.size, 1, none⟩ = some (.int .i64 a.w) ∧ w'.cell? ⟨w.heap.size + 1, 0, none⟩ = some (.int .i64 g.x) ∧ w'.cell? ⟨w.heap.size + 1, 1, none⟩ = some (.int .i64 g.y) ∧ w'.cell? ⟨w.heap.size + 1 + 1, 0, none⟩ = some (.int .i64 p.x) ∧ w'.cell? ⟨w.heap.size + 1 + 1, 1, none⟩ = some (.int .i64 p.y) ∧ w'.cell? ⟨w.heap.size + 1 + 1 + 1, 0, none⟩ = some (.int .i64 q.x) ∧ w'.cell? ⟨w.heap.size + 1 + 1 + 1, 1, none⟩ = some (.int .i64 q.y)) (first | exact Sa.t S2 (Bl.dr _ 1) | exact Sa.t (by assumption) hh0) (first | (go_at_call 59; refine (lagOf_any a g _ _ HAA.out HG.out (by assumption)).mono ?_; rintro e v0 ⟨rfl, hh0⟩))
        all_goals
          rename_i hHeld
          have hHB := hHeld.1
          clear hHeld
          go_wp2_with fail
          exact bodyPost_ret (v := rB (aliR a g p q)) (by simp [results, Try.results49, go_sem, HR.out, rB]) rfl ⟨rfl, hHB⟩
      by_cases e2 : (lagP a g p).2 = (lagP a g q).2
      rotate_left
      · have HV := Lib.hid (show aliR a g p q = (false, 0) by rw [HR.out, show decide _ = false from decide_eq_false (fun h => e2 h.2)])
        have HR := HV
        go_enter Try.func49, Try.ntmps49
        go_wp2_with fail
        refine (validAir_any a _).mono ?_
        rintro q1 w1 ⟨rfl, hb⟩
        have xa0 := kcb hb (b := w.heap.size) (o := 0) (v := .int .i64 a.s) (by first | assumption | (refine cellUp ?_; assumption) | go_cell)
        have xa1 := kcb hb (b := w.heap.size) (o := 1) (v := .int .i64 a.w) (by first | assumption | (refine cellUp ?_; assumption) | go_cell)
        have xg0 := kcb hb (b := w.heap.size + 1) (o := 0) (v := .int .i64 g.x) (by first | assumption | (refine cellUp ?_; assumption) | go_cell)
        have xg1 := kcb hb (b := w.heap.size + 1) (o := 1) (v := .int .i64 g.y) (by first | assumption | (refine cellUp ?_; assumption) | go_cell)
        have xp0 := kcb hb (b := w.heap.size + 1 + 1) (o := 0) (v := .int .i64 p.x) (by first | assumption | (refine cellUp ?_; assumption) | go_cell)
        have xp1 := kcb hb (b := w.heap.size + 1 + 1) (o := 1) (v := .int .i64 p.y) (by first | assumption | (refine cellUp ?_; assumption) | go_cell)
        have xq0 := kcb hb (b := w.heap.size + 1 + 1 + 1) (o := 0) (v := .int .i64 q.x) (by first | assumption | (refine cellUp ?_; assumption) | go_cell)
        have xq1 := kcb hb (b := w.heap.size + 1 + 1 + 1) (o := 1) (v := .int .i64 q.y) (by first | assumption | (refine cellUp ?_; assumption) | go_cell)
        have B1 : Bl w w1 := Below.trans (by go_grown) (hb.mono (by (try simp only [World.size_alloc, World.size_setCell]); omega))
        have l1 := ltb xq1
        have l1_1 := ltb xp1
        have l1_2 := ltb xg1
        have l1_3 := ltb xa1
        have zz1 := B1.size
        clear hb
        rw [Q0.out]
        go_wp2_with fail
        refine (arePl_any _ 3 3 (three g p q) _ (pl_three (by go_cell) (by go_cell) (by go_cell) (by go_cell) (by go_cell) (by go_cell)) (by unfold maxLen; omega)).mono ?_
        rintro q2 w2 ⟨rfl, hb⟩
        have xa0 := kcb hb (b := w.heap.size) (o := 0) (v := .int .i64 a.s) (by first | assumption | (refine cellUp ?_; assumption) | go_cell)
        have xa1 := kcb hb (b := w.heap.size) (o := 1) (v := .int .i64 a.w) (by first | assumption | (refine cellUp ?_; assumption) | go_cell)
        have xg0 := kcb hb (b := w.heap.size + 1) (o := 0) (v := .int .i64 g.x) (by first | assumption | (refine cellUp ?_; assumption) | go_cell)
        have xg1 := kcb hb (b := w.heap.size + 1) (o := 1) (v := .int .i64 g.y) (by first | assumption | (refine cellUp ?_; assumption) | go_cell)
        have xp0 := kcb hb (b := w.heap.size + 1 + 1) (o := 0) (v := .int .i64 p.x) (by first | assumption | (refine cellUp ?_; assumption) | go_cell)
        have xp1 := kcb hb (b := w.heap.size + 1 + 1) (o := 1) (v := .int .i64 p.y) (by first | assumption | (refine cellUp ?_; assumption) | go_cell)
        have xq0 := kcb hb (b := w.heap.size + 1 + 1 + 1) (o := 0) (v := .int .i64 q.x) (by first | assumption | (refine cellUp ?_; assumption) | go_cell)
        have xq1 := kcb hb (b := w.heap.size + 1 + 1 + 1) (o := 1) (v := .int .i64 q.y) (by first | assumption | (refine cellUp ?_; assumption) | go_cell)
        have B2 : Bl w w2 := Below.trans (by go_grown) (hb.mono (by (try simp only [World.size_alloc, World.size_setCell]); omega))
        have l2 := ltb xq1
        have l2_1 := ltb xp1
        have l2_2 := ltb xg1
        have l2_3 := ltb xa1
        have zz2 := B2.size
        clear hb
        rw [Q1.out]
        go_wp2_with fail
        have S2 : Sa w w.heap.size (w.heap.size + 1) (w.heap.size + 1 + 1) (w.heap.size + 1 + 1 + 1) a g p q w2 := ⟨B2, xa0, xa1, xg0, xg1, xp0, xp1, xq0, xq1⟩
        go_region_held3 (fun w' => Bl w w' ∧ w'.cell? ⟨w.heap.size, 0, none⟩ = some (.int .i64 a.s) ∧ w'.cell? ⟨w.heap.size, 1, none⟩ = some (.int .i64 a.w) ∧ w'.cell? ⟨w.heap.size + 1, 0, none⟩ = some (.int .i64 g.x) ∧ w'.cell? ⟨w.heap.size + 1, 1, none⟩ = some (.int .i64 g.y) ∧ w'.cell? ⟨w.heap.size + 1 + 1, 0, none⟩ = some (.int .i64 p.x) ∧ w'.cell? ⟨w.heap.size + 1 + 1, 1, none⟩ = some (.int .i64 p.y) ∧ w'.cell? ⟨w.heap.size + 1 + 1 + 1, 0, none⟩ = some (.int .i64 q.x) ∧ w'.cell? ⟨w.heap.size + 1 + 1 + 1, 1, none⟩ = some (.int .i64 q.y)) (first | exact Sa.t S2 (Bl.dr _ 1) | exact Sa.t (by assumption) hh0) (first | (go_at_call 59; refine (lagOf_any a g _ _ HAA.out HG.out (by assumption)).mono ?_; rintro e v0 ⟨rfl, hh0⟩))
        all_goals
          rename_i hHeld
          have hHB := hHeld.1
          clear hHeld
          go_wp2_with fail
          exact bodyPost_ret (v := rB (aliR a g p q)) (by simp [results, Try.results49, go_sem, HR.out, rB]) rfl ⟨rfl, hHB⟩
      have HV := Lib.hid (show aliR a g p q = (true, 0) by rw [HR.out, show decide _ = true from decide_eq_true ⟨e1, e2⟩])
      have HR := HV
      go_enter Try.func49, Try.ntmps49
      go_wp2_with fail
      refine (validAir_any a _).mono ?_
      rintro q1 w1 ⟨rfl, hb⟩
      have xa0 := kcb hb (b := w.heap.size) (o := 0) (v := .int .i64 a.s) (by first | assumption | (refine cellUp ?_; assumption) | go_cell)
      have xa1 := kcb hb (b := w.heap.size) (o := 1) (v := .int .i64 a.w) (by first | assumption | (refine cellUp ?_; assumption) | go_cell)
      have xg0 := kcb hb (b := w.heap.size + 1) (o := 0) (v := .int .i64 g.x) (by first | assumption | (refine cellUp ?_; assumption) | go_cell)
      have xg1 := kcb hb (b := w.heap.size + 1) (o := 1) (v := .int .i64 g.y) (by first | assumption | (refine cellUp ?_; assumption) | go_cell)
      have xp0 := kcb hb (b := w.heap.size + 1 + 1) (o := 0) (v := .int .i64 p.x) (by first | assumption | (refine cellUp ?_; assumption) | go_cell)
      have xp1 := kcb hb (b := w.heap.size + 1 + 1) (o := 1) (v := .int .i64 p.y) (by first | assumption | (refine cellUp ?_; assumption) | go_cell)
      have xq0 := kcb hb (b := w.heap.size + 1 + 1 + 1) (o := 0) (v := .int .i64 q.x) (by first | assumption | (refine cellUp ?_; assumption) | go_cell)
      have xq1 := kcb hb (b := w.heap.size + 1 + 1 + 1) (o := 1) (v := .int .i64 q.y) (by first | assumption | (refine cellUp ?_; assumption) | go_cell)
      have B1 : Bl w w1 := Below.trans (by go_grown) (hb.mono (by (try simp only [World.size_alloc, World.size_setCell]); omega))
      have l1 := ltb xq1
      have l1_1 := ltb xp1
      have l1_2 := ltb xg1
      have l1_3 := ltb xa1
      have zz1 := B1.size
      clear hb
      rw [Q0.out]
      go_wp2_with fail
      refine (arePl_any _ 3 3 (three g p q) _ (pl_three (by go_cell) (by go_cell) (by go_cell) (by go_cell) (by go_cell) (by go_cell)) (by unfold maxLen; omega)).mono ?_
      rintro q2 w2 ⟨rfl, hb⟩
      have xa0 := kcb hb (b := w.heap.size) (o := 0) (v := .int .i64 a.s) (by first | assumption | (refine cellUp ?_; assumption) | go_cell)
      have xa1 := kcb hb (b := w.heap.size) (o := 1) (v := .int .i64 a.w) (by first | assumption | (refine cellUp ?_; assumption) | go_cell)
      have xg0 := kcb hb (b := w.heap.size + 1) (o := 0) (v := .int .i64 g.x) (by first | assumption | (refine cellUp ?_; assumption) | go_cell)
      have xg1 := kcb hb (b := w.heap.size + 1) (o := 1) (v := .int .i64 g.y) (by first | assumption | (refine cellUp ?_; assumption) | go_cell)
      have xp0 := kcb hb (b := w.heap.size + 1 + 1) (o := 0) (v := .int .i64 p.x) (by first | assumption | (refine cellUp ?_; assumption) | go_cell)
      have xp1 := kcb hb (b := w.heap.size + 1 + 1) (o := 1) (v := .int .i64 p.y) (by first | assumption | (refine cellUp ?_; assumption) | go_cell)
      have xq0 := kcb hb (b := w.heap.size + 1 + 1 + 1) (o := 0) (v := .int .i64 q.x) (by first | assumption | (refine cellUp ?_; assumption) | go_cell)
      have xq1 := kcb hb (b := w.heap.size + 1 + 1 + 1) (o := 1) (v := .int .i64 q.y) (by first | assumption | (refine cellUp ?_; assumption) | go_cell)
      have B2 : Bl w w2 := Below.trans (by go_grown) (hb.mono (by (try simp only [World.size_alloc, World.size_setCell]); omega))
      have l2 := ltb xq1
      have l2_1 := ltb xp1
      have l2_2 := ltb xg1
      have l2_3 := ltb xa1
      have zz2 := B2.size
      clear hb
      rw [Q1.out]
      go_wp2_with fail
      have S2 : Sa w w.heap.size (w.heap.size + 1) (w.heap.size + 1 + 1) (w.heap.size + 1 + 1 + 1) a g p q w2 := ⟨B2, xa0, xa1, xg0, xg1, xp0, xp1, xq0, xq1⟩
      go_region_held3 (fun w' => Bl w w' ∧ w'.cell? ⟨w.heap.size, 0, none⟩ = some (.int .i64 a.s) ∧ w'.cell? ⟨w.heap.size, 1, none⟩ = some (.int .i64 a.w) ∧ w'.cell? ⟨w.heap.size + 1, 0, none⟩ = some (.int .i64 g.x) ∧ w'.cell? ⟨w.heap.size + 1, 1, none⟩ = some (.int .i64 g.y) ∧ w'.cell? ⟨w.heap.size + 1 + 1, 0, none⟩ = some (.int .i64 p.x) ∧ w'.cell? ⟨w.heap.size + 1 + 1, 1, none⟩ = some (.int .i64 p.y) ∧ w'.cell? ⟨w.heap.size + 1 + 1 + 1, 0, none⟩ = some (.int .i64 q.x) ∧ w'.cell? ⟨w.heap.size + 1 + 1 + 1, 1, none⟩ = some (.int .i64 q.y)) (first | exact Sa.t S2 (Bl.dr _ 1) | exact Sa.t (by assumption) hh0) (first | (go_at_call 59; refine (lagOf_any a g _ _ HAA.out HG.out (by assumption)).mono ?_; rintro e v0 ⟨rfl, hh0⟩))
      all_goals
        rename_i hHeld
        have hHB := hHeld.1
        clear hHeld
        go_wp2_with fail
        exact bodyPost_ret (v := rB (aliR a g p q)) (by simp [results, Try.results49, go_sem, HR.out, rB]) rfl ⟨rfl, hHB⟩
    · have Q1 := Lib.hid (show decide (allP (three g p q) 3) = false from decide_eq_false (fun h => hp (allP_three.1 h)))
      have HR := Lib.hid (show aliR a g p q = (false, 7) by unfold aliR; rw [if_pos ha, if_neg hp])
      clear ha hp
      go_enter Try.func49, Try.ntmps49
      go_wp2_with fail
      refine (validAir_any a _).mono ?_
      rintro q1 w1 ⟨rfl, hb⟩
      have xa0 := kcb hb (b := w.heap.size) (o := 0) (v := .int .i64 a.s) (by first | assumption | (refine cellUp ?_; assumption) | go_cell)
      have xa1 := kcb hb (b := w.heap.size) (o := 1) (v := .int .i64 a.w) (by first | assumption | (refine cellUp ?_; assumption) | go_cell)
      have xg0 := kcb hb (b := w.heap.size + 1) (o := 0) (v := .int .i64 g.x) (by first | assumption | (refine cellUp ?_; assumption) | go_cell)
      have xg1 := kcb hb (b := w.heap.size + 1) (o := 1) (v := .int .i64 g.y) (by first | assumption | (refine cellUp ?_; assumption) | go_cell)
      have xp0 := kcb hb (b := w.heap.size + 1 + 1) (o := 0) (v := .int .i64 p.x) (by first | assumption | (refine cellUp ?_; assumption) | go_cell)
      have xp1 := kcb hb (b := w.heap.size + 1 + 1) (o := 1) (v := .int .i64 p.y) (by first | assumption | (refine cellUp ?_; assumption) | go_cell)
      have xq0 := kcb hb (b := w.heap.size + 1 + 1 + 1) (o := 0) (v := .int .i64 q.x) (by first | assumption | (refine cellUp ?_; assumption) | go_cell)
      have xq1 := kcb hb (b := w.heap.size + 1 + 1 + 1) (o := 1) (v := .int .i64 q.y) (by first | assumption | (refine cellUp ?_; assumption) | go_cell)
      have B1 : Bl w w1 := Below.trans (by go_grown) (hb.mono (by (try simp only [World.size_alloc, World.size_setCell]); omega))
      have l1 := ltb xq1
      have l1_1 := ltb xp1
      have l1_2 := ltb xg1
      have l1_3 := ltb xa1
      have zz1 := B1.size
      clear hb
      rw [Q0.out]
      go_wp2_with fail
      refine (arePl_any _ 3 3 (three g p q) _ (pl_three (by go_cell) (by go_cell) (by go_cell) (by go_cell) (by go_cell) (by go_cell)) (by unfold maxLen; omega)).mono ?_
      rintro q2 w2 ⟨rfl, hb⟩
      have xa0 := kcb hb (b := w.heap.size) (o := 0) (v := .int .i64 a.s) (by first | assumption | (refine cellUp ?_; assumption) | go_cell)
      have xa1 := kcb hb (b := w.heap.size) (o := 1) (v := .int .i64 a.w) (by first | assumption | (refine cellUp ?_; assumption) | go_cell)
      have xg0 := kcb hb (b := w.heap.size + 1) (o := 0) (v := .int .i64 g.x) (by first | assumption | (refine cellUp ?_; assumption) | go_cell)
      have xg1 := kcb hb (b := w.heap.size + 1) (o := 1) (v := .int .i64 g.y) (by first | assumption | (refine cellUp ?_; assumption) | go_cell)
      have xp0 := kcb hb (b := w.heap.size + 1 + 1) (o := 0) (v := .int .i64 p.x) (by first | assumption | (refine cellUp ?_; assumption) | go_cell)
      have xp1 := kcb hb (b := w.heap.size + 1 + 1) (o := 1) (v := .int .i64 p.y) (by first | assumption | (refine cellUp ?_; assumption) | go_cell)
      have xq0 := kcb hb (b := w.heap.size + 1 + 1 + 1) (o := 0) (v := .int .i64 q.x) (by first | assumption | (refine cellUp ?_; assumption) | go_cell)
      have xq1 := kcb hb (b := w.heap.size + 1 + 1 + 1) (o := 1) (v := .int .i64 q.y) (by first | assumption | (refine cellUp ?_; assumption) | go_cell)
      have B2 : Bl w w2 := Below.trans (by go_grown) (hb.mono (by (try simp only [World.size_alloc, World.size_setCell]); omega))
      have l2 := ltb xq1
      have l2_1 := ltb xp1
      have l2_2 := ltb xg1
      have l2_3 := ltb xa1
      have zz2 := B2.size
      clear hb
      rw [Q1.out]
      go_wp2_with fail
      exact bodyPost_ret (v := rB (aliR a g p q)) (by simp [results, Try.results49, go_sem, HR.out, rB]) rfl ⟨rfl, by go_grown⟩
  · have Q0 := Lib.hid (show decide (VA a) = false from decide_eq_false ha)
    have HR := Lib.hid (show aliR a g p q = (false, 1) by unfold aliR; rw [if_neg ha])
    clear ha
    go_enter Try.func49, Try.ntmps49
    go_wp2_with fail
    refine (validAir_any a _).mono ?_
    rintro q1 w1 ⟨rfl, hb⟩
    have xa0 := kcb hb (b := w.heap.size) (o := 0) (v := .int .i64 a.s) (by first | assumption | (refine cellUp ?_; assumption) | go_cell)
    have xa1 := kcb hb (b := w.heap.size) (o := 1) (v := .int .i64 a.w) (by first | assumption | (refine cellUp ?_; assumption) | go_cell)
    have xg0 := kcb hb (b := w.heap.size + 1) (o := 0) (v := .int .i64 g.x) (by first | assumption | (refine cellUp ?_; assumption) | go_cell)
    have xg1 := kcb hb (b := w.heap.size + 1) (o := 1) (v := .int .i64 g.y) (by first | assumption | (refine cellUp ?_; assumption) | go_cell)
    have xp0 := kcb hb (b := w.heap.size + 1 + 1) (o := 0) (v := .int .i64 p.x) (by first | assumption | (refine cellUp ?_; assumption) | go_cell)
    have xp1 := kcb hb (b := w.heap.size + 1 + 1) (o := 1) (v := .int .i64 p.y) (by first | assumption | (refine cellUp ?_; assumption) | go_cell)
    have xq0 := kcb hb (b := w.heap.size + 1 + 1 + 1) (o := 0) (v := .int .i64 q.x) (by first | assumption | (refine cellUp ?_; assumption) | go_cell)
    have xq1 := kcb hb (b := w.heap.size + 1 + 1 + 1) (o := 1) (v := .int .i64 q.y) (by first | assumption | (refine cellUp ?_; assumption) | go_cell)
    have B1 : Bl w w1 := Below.trans (by go_grown) (hb.mono (by (try simp only [World.size_alloc, World.size_setCell]); omega))
    have l1 := ltb xq1
    have l1_1 := ltb xp1
    have l1_2 := ltb xg1
    have l1_3 := ltb xa1
    have zz1 := B1.size
    clear hb
    rw [Q0.out]
    go_wp2_with fail
    exact bodyPost_ret (v := rB (aliR a g p q)) (by simp [results, Try.results49, go_sem, HR.out, rB]) rfl ⟨rfl, by go_grown⟩

theorem ali_cases (a : Air) (g p q : Pt) : (∃ u v x y, lagR a g p = (u, v, 0) ∧ lagR a g q = (x, y, 0) ∧ aliR a g p q = (decide (u = x ∧ v = y), 0)) ∨ (∃ u v, lagR a g p = (u, v, 0) ∧ lagR a g q = (0, 0, 7) ∧ aliR a g p q = (false, 7)) ∨ (∃ x y z, lagR a g p = (0, 0, 7) ∧ lagR a g q = (x, y, z) ∧ aliR a g p q = (false, 7)) ∨ (∃ x y z, lagR a g p = (0, 0, 1) ∧ lagR a g q = (x, y, z) ∧ aliR a g p q = (false, 1)) := by
  unfold aliR lagR
  by_cases ha : VA a
  · by_cases h1 : isP g ∧ isP p
    · by_cases h2 : isP g ∧ isP q
      · refine .inl ⟨(lagP a g p).1, (lagP a g p).2, (lagP a g q).1, (lagP a g q).2, ?_, ?_, ?_⟩
        · rw [if_pos ha, if_pos h1]
        · rw [if_pos ha, if_pos h2]
        · rw [if_pos ha, if_pos ⟨h1.1, h1.2, h2.2⟩]
      · refine .inr (.inl ⟨(lagP a g p).1, (lagP a g p).2, ?_, ?_, ?_⟩)
        · rw [if_pos ha, if_pos h1]
        · rw [if_pos ha, if_neg h2]
        · rw [if_pos ha, if_neg (fun h => h2 ⟨h.1, h.2.2⟩)]
    · refine .inr (.inr (.inl ⟨_, _, _, ?_, rfl, ?_⟩))
      · rw [if_pos ha, if_neg h1]
      · rw [if_pos ha, if_neg (fun h => h1 ⟨h.1, h.2.1⟩)]
  · refine .inr (.inr (.inr ⟨_, _, _, ?_, rfl, ?_⟩))
    · rw [if_neg ha]
    · rw [if_neg ha]
set_option maxRecDepth 100000 in
set_option maxHeartbeats 3200000 in
theorem rAlike_any (a : Air) (g p q : Pt) (w : World) :
    Calls Try.prog 50 #[encA a, encP g, encP p, encP q] w fun e w' => e = .returned (rB (aliR a g p q)) ∧ Bl w w' := by
  rcases ali_cases a g p q with ⟨u, v, x, y, h1, h2, h3⟩ | ⟨u, v, h1, h2, h3⟩ | ⟨x, y, z, h1, h2, h3⟩ | ⟨x, y, z, h1, h2, h3⟩
  · have H1 := Lib.hid h1
    have H2 := Lib.hid h2
    clear h1 h2
    by_cases e1 : u = x
    · by_cases e2 : v = y
      · have HR := Lib.hid (h3.trans (by rw [show decide _ = true from decide_eq_true ⟨e1, e2⟩]))
        clear h3
        subst e1 e2
        go_enter Try.func50, Try.ntmps50
        go_wp2_with fail
        refine (rLag_any a g p _).mono ?_
        rintro q1 w1 ⟨rfl, hb⟩
        have xa0 := kcb hb (b := w.heap.size) (o := 0) (v := .int .i64 a.s) (by first | assumption | (refine cellUp ?_; assumption) | go_cell)
        have xa1 := kcb hb (b := w.heap.size) (o := 1) (v := .int .i64 a.w) (by first | assumption | (refine cellUp ?_; assumption) | go_cell)
        have xg0 := kcb hb (b := w.heap.size + 1) (o := 0) (v := .int .i64 g.x) (by first | assumption | (refine cellUp ?_; assumption) | go_cell)
        have xg1 := kcb hb (b := w.heap.size + 1) (o := 1) (v := .int .i64 g.y) (by first | assumption | (refine cellUp ?_; assumption) | go_cell)
        have xp0 := kcb hb (b := w.heap.size + 1 + 1) (o := 0) (v := .int .i64 p.x) (by first | assumption | (refine cellUp ?_; assumption) | go_cell)
        have xp1 := kcb hb (b := w.heap.size + 1 + 1) (o := 1) (v := .int .i64 p.y) (by first | assumption | (refine cellUp ?_; assumption) | go_cell)
        have xq0 := kcb hb (b := w.heap.size + 1 + 1 + 1) (o := 0) (v := .int .i64 q.x) (by first | assumption | (refine cellUp ?_; assumption) | go_cell)
        have xq1 := kcb hb (b := w.heap.size + 1 + 1 + 1) (o := 1) (v := .int .i64 q.y) (by first | assumption | (refine cellUp ?_; assumption) | go_cell)
        have B1 : Bl w w1 := Below.trans (by go_grown) (hb.mono (by (try simp only [World.size_alloc, World.size_setCell]); omega))
        have l1 := ltb xq1
        have l1_1 := ltb xp1
        have l1_2 := ltb xg1
        have l1_3 := ltb xa1
        have zz1 := B1.size
        clear hb
        rw [H1.out]
        unfold rS
        go_wp2_with fail
        refine (rLag_any a g q _).mono ?_
        rintro q2 w2 ⟨rfl, hb⟩
        have xa0 := kcb hb (b := w.heap.size) (o := 0) (v := .int .i64 a.s) (by first | assumption | (refine cellUp ?_; assumption) | go_cell)
        have xa1 := kcb hb (b := w.heap.size) (o := 1) (v := .int .i64 a.w) (by first | assumption | (refine cellUp ?_; assumption) | go_cell)
        have xg0 := kcb hb (b := w.heap.size + 1) (o := 0) (v := .int .i64 g.x) (by first | assumption | (refine cellUp ?_; assumption) | go_cell)
        have xg1 := kcb hb (b := w.heap.size + 1) (o := 1) (v := .int .i64 g.y) (by first | assumption | (refine cellUp ?_; assumption) | go_cell)
        have xp0 := kcb hb (b := w.heap.size + 1 + 1) (o := 0) (v := .int .i64 p.x) (by first | assumption | (refine cellUp ?_; assumption) | go_cell)
        have xp1 := kcb hb (b := w.heap.size + 1 + 1) (o := 1) (v := .int .i64 p.y) (by first | assumption | (refine cellUp ?_; assumption) | go_cell)
        have xq0 := kcb hb (b := w.heap.size + 1 + 1 + 1) (o := 0) (v := .int .i64 q.x) (by first | assumption | (refine cellUp ?_; assumption) | go_cell)
        have xq1 := kcb hb (b := w.heap.size + 1 + 1 + 1) (o := 1) (v := .int .i64 q.y) (by first | assumption | (refine cellUp ?_; assumption) | go_cell)
        have s0 := kcb hb (b := w1.heap.size) (o := 0) (v := .int .i64 u) (by first | assumption | (refine cellUp ?_; assumption) | go_cell)
        have s1 := kcb hb (b := w1.heap.size) (o := 1) (v := .int .i64 v) (by first | assumption | (refine cellUp ?_; assumption) | go_cell)
        have B2 : Bl w w2 := Below.trans (by go_grown) (hb.mono (by (try simp only [World.size_alloc, World.size_setCell]); omega))
        have l2 := ltb s1
        have l2_1 := ltb xq1
        have l2_2 := ltb xp1
        have l2_3 := ltb xg1
        have l2_4 := ltb xa1
        have zz2 := B2.size
        clear hb
        rw [H2.out]
        unfold rS
        go_wp2_with fail
        exact bodyPost_ret (v := rB (aliR a g p q)) (by simp [results, Try.results50, go_sem, HR.out, rB]) rfl ⟨rfl, by go_grown⟩
      · have HR := Lib.hid (h3.trans (by rw [show decide _ = false from decide_eq_false (fun h => e2 h.2)]))
        clear h3
        subst e1
        go_enter Try.func50, Try.ntmps50
        go_wp2_with fail
        refine (rLag_any a g p _).mono ?_
        rintro q1 w1 ⟨rfl, hb⟩
        have xa0 := kcb hb (b := w.heap.size) (o := 0) (v := .int .i64 a.s) (by first | assumption | (refine cellUp ?_; assumption) | go_cell)
        have xa1 := kcb hb (b := w.heap.size) (o := 1) (v := .int .i64 a.w) (by first | assumption | (refine cellUp ?_; assumption) | go_cell)
        have xg0 := kcb hb (b := w.heap.size + 1) (o := 0) (v := .int .i64 g.x) (by first | assumption | (refine cellUp ?_; assumption) | go_cell)
        have xg1 := kcb hb (b := w.heap.size + 1) (o := 1) (v := .int .i64 g.y) (by first | assumption | (refine cellUp ?_; assumption) | go_cell)
        have xp0 := kcb hb (b := w.heap.size + 1 + 1) (o := 0) (v := .int .i64 p.x) (by first | assumption | (refine cellUp ?_; assumption) | go_cell)
        have xp1 := kcb hb (b := w.heap.size + 1 + 1) (o := 1) (v := .int .i64 p.y) (by first | assumption | (refine cellUp ?_; assumption) | go_cell)
        have xq0 := kcb hb (b := w.heap.size + 1 + 1 + 1) (o := 0) (v := .int .i64 q.x) (by first | assumption | (refine cellUp ?_; assumption) | go_cell)
        have xq1 := kcb hb (b := w.heap.size + 1 + 1 + 1) (o := 1) (v := .int .i64 q.y) (by first | assumption | (refine cellUp ?_; assumption) | go_cell)
        have B1 : Bl w w1 := Below.trans (by go_grown) (hb.mono (by (try simp only [World.size_alloc, World.size_setCell]); omega))
        have l1 := ltb xq1
        have l1_1 := ltb xp1
        have l1_2 := ltb xg1
        have l1_3 := ltb xa1
        have zz1 := B1.size
        clear hb
        rw [H1.out]
        unfold rS
        go_wp2_with fail
        refine (rLag_any a g q _).mono ?_
        rintro q2 w2 ⟨rfl, hb⟩
        have xa0 := kcb hb (b := w.heap.size) (o := 0) (v := .int .i64 a.s) (by first | assumption | (refine cellUp ?_; assumption) | go_cell)
        have xa1 := kcb hb (b := w.heap.size) (o := 1) (v := .int .i64 a.w) (by first | assumption | (refine cellUp ?_; assumption) | go_cell)
        have xg0 := kcb hb (b := w.heap.size + 1) (o := 0) (v := .int .i64 g.x) (by first | assumption | (refine cellUp ?_; assumption) | go_cell)
        have xg1 := kcb hb (b := w.heap.size + 1) (o := 1) (v := .int .i64 g.y) (by first | assumption | (refine cellUp ?_; assumption) | go_cell)
        have xp0 := kcb hb (b := w.heap.size + 1 + 1) (o := 0) (v := .int .i64 p.x) (by first | assumption | (refine cellUp ?_; assumption) | go_cell)
        have xp1 := kcb hb (b := w.heap.size + 1 + 1) (o := 1) (v := .int .i64 p.y) (by first | assumption | (refine cellUp ?_; assumption) | go_cell)
        have xq0 := kcb hb (b := w.heap.size + 1 + 1 + 1) (o := 0) (v := .int .i64 q.x) (by first | assumption | (refine cellUp ?_; assumption) | go_cell)
        have xq1 := kcb hb (b := w.heap.size + 1 + 1 + 1) (o := 1) (v := .int .i64 q.y) (by first | assumption | (refine cellUp ?_; assumption) | go_cell)
        have s0 := kcb hb (b := w1.heap.size) (o := 0) (v := .int .i64 u) (by first | assumption | (refine cellUp ?_; assumption) | go_cell)
        have s1 := kcb hb (b := w1.heap.size) (o := 1) (v := .int .i64 v) (by first | assumption | (refine cellUp ?_; assumption) | go_cell)
        have B2 : Bl w w2 := Below.trans (by go_grown) (hb.mono (by (try simp only [World.size_alloc, World.size_setCell]); omega))
        have l2 := ltb s1
        have l2_1 := ltb xq1
        have l2_2 := ltb xp1
        have l2_3 := ltb xg1
        have l2_4 := ltb xa1
        have zz2 := B2.size
        clear hb
        rw [H2.out]
        unfold rS
        go_wp2_with fail
        exact bodyPost_ret (v := rB (aliR a g p q)) (by simp [results, Try.results50, go_sem, HR.out, rB]) rfl ⟨rfl, by go_grown⟩
    · have HR := Lib.hid (h3.trans (by rw [show decide _ = false from decide_eq_false (fun h => e1 h.1)]))
      clear h3
      go_enter Try.func50, Try.ntmps50
      go_wp2_with fail
      refine (rLag_any a g p _).mono ?_
      rintro q1 w1 ⟨rfl, hb⟩
      have xa0 := kcb hb (b := w.heap.size) (o := 0) (v := .int .i64 a.s) (by first | assumption | (refine cellUp ?_; assumption) | go_cell)
      have xa1 := kcb hb (b := w.heap.size) (o := 1) (v := .int .i64 a.w) (by first | assumption | (refine cellUp ?_; assumption) | go_cell)
      have xg0 := kcb hb (b := w.heap.size + 1) (o := 0) (v := .int .i64 g.x) (by first | assumption | (refine cellUp ?_; assumption) | go_cell)
      have xg1 := kcb hb (b := w.heap.size + 1) (o := 1) (v := .int .i64 g.y) (by first | assumption | (refine cellUp ?_; assumption) | go_cell)
      have xp0 := kcb hb (b := w.heap.size + 1 + 1) (o := 0) (v := .int .i64 p.x) (by first | assumption | (refine cellUp ?_; assumption) | go_cell)
      have xp1 := kcb hb (b := w.heap.size + 1 + 1) (o := 1) (v := .int .i64 p.y) (by first | assumption | (refine cellUp ?_; assumption) | go_cell)
      have xq0 := kcb hb (b := w.heap.size + 1 + 1 + 1) (o := 0) (v := .int .i64 q.x) (by first | assumption | (refine cellUp ?_; assumption) | go_cell)
      have xq1 := kcb hb (b := w.heap.size + 1 + 1 + 1) (o := 1) (v := .int .i64 q.y) (by first | assumption | (refine cellUp ?_; assumption) | go_cell)
      have B1 : Bl w w1 := Below.trans (by go_grown) (hb.mono (by (try simp only [World.size_alloc, World.size_setCell]); omega))
      have l1 := ltb xq1
      have l1_1 := ltb xp1
      have l1_2 := ltb xg1
      have l1_3 := ltb xa1
      have zz1 := B1.size
      clear hb
      rw [H1.out]
      unfold rS
      go_wp2_with fail
      refine (rLag_any a g q _).mono ?_
      rintro q2 w2 ⟨rfl, hb⟩
      have xa0 := kcb hb (b := w.heap.size) (o := 0) (v := .int .i64 a.s) (by first | assumption | (refine cellUp ?_; assumption) | go_cell)
      have xa1 := kcb hb (b := w.heap.size) (o := 1) (v := .int .i64 a.w) (by first | assumption | (refine cellUp ?_; assumption) | go_cell)
      have xg0 := kcb hb (b := w.heap.size + 1) (o := 0) (v := .int .i64 g.x) (by first | assumption | (refine cellUp ?_; assumption) | go_cell)
      have xg1 := kcb hb (b := w.heap.size + 1) (o := 1) (v := .int .i64 g.y) (by first | assumption | (refine cellUp ?_; assumption) | go_cell)
      have xp0 := kcb hb (b := w.heap.size + 1 + 1) (o := 0) (v := .int .i64 p.x) (by first | assumption | (refine cellUp ?_; assumption) | go_cell)
      have xp1 := kcb hb (b := w.heap.size + 1 + 1) (o := 1) (v := .int .i64 p.y) (by first | assumption | (refine cellUp ?_; assumption) | go_cell)
      have xq0 := kcb hb (b := w.heap.size + 1 + 1 + 1) (o := 0) (v := .int .i64 q.x) (by first | assumption | (refine cellUp ?_; assumption) | go_cell)
      have xq1 := kcb hb (b := w.heap.size + 1 + 1 + 1) (o := 1) (v := .int .i64 q.y) (by first | assumption | (refine cellUp ?_; assumption) | go_cell)
      have s0 := kcb hb (b := w1.heap.size) (o := 0) (v := .int .i64 u) (by first | assumption | (refine cellUp ?_; assumption) | go_cell)
      have s1 := kcb hb (b := w1.heap.size) (o := 1) (v := .int .i64 v) (by first | assumption | (refine cellUp ?_; assumption) | go_cell)
      have B2 : Bl w w2 := Below.trans (by go_grown) (hb.mono (by (try simp only [World.size_alloc, World.size_setCell]); omega))
      have l2 := ltb s1
      have l2_1 := ltb xq1
      have l2_2 := ltb xp1
      have l2_3 := ltb xg1
      have l2_4 := ltb xa1
      have zz2 := B2.size
      clear hb
      rw [H2.out]
      unfold rS
      go_wp2_with fail
      exact bodyPost_ret (v := rB (aliR a g p q)) (by simp [results, Try.results50, go_sem, HR.out, rB]) rfl ⟨rfl, by go_grown⟩
  · have H1 := Lib.hid h1
    have H2 := Lib.hid h2
    have HR := Lib.hid h3
    clear h1 h2 h3
    go_enter Try.func50, Try.ntmps50
    go_wp2_with fail
    refine (rLag_any a g p _).mono ?_
    rintro q1 w1 ⟨rfl, hb⟩
    have xa0 := kcb hb (b := w.heap.size) (o := 0) (v := .int .i64 a.s) (by first | assumption | (refine cellUp ?_; assumption) | go_cell)
    have xa1 := kcb hb (b := w.heap.size) (o := 1) (v := .int .i64 a.w) (by first | assumption | (refine cellUp ?_; assumption) | go_cell)
    have xg0 := kcb hb (b := w.heap.size + 1) (o := 0) (v := .int .i64 g.x) (by first | assumption | (refine cellUp ?_; assumption) | go_cell)
    have xg1 := kcb hb (b := w.heap.size + 1) (o := 1) (v := .int .i64 g.y) (by first | assumption | (refine cellUp ?_; assumption) | go_cell)
    have xp0 := kcb hb (b := w.heap.size + 1 + 1) (o := 0) (v := .int .i64 p.x) (by first | assumption | (refine cellUp ?_; assumption) | go_cell)
    have xp1 := kcb hb (b := w.heap.size + 1 + 1) (o := 1) (v := .int .i64 p.y) (by first | assumption | (refine cellUp ?_; assumption) | go_cell)
    have xq0 := kcb hb (b := w.heap.size + 1 + 1 + 1) (o := 0) (v := .int .i64 q.x) (by first | assumption | (refine cellUp ?_; assumption) | go_cell)
    have xq1 := kcb hb (b := w.heap.size + 1 + 1 + 1) (o := 1) (v := .int .i64 q.y) (by first | assumption | (refine cellUp ?_; assumption) | go_cell)
    have B1 : Bl w w1 := Below.trans (by go_grown) (hb.mono (by (try simp only [World.size_alloc, World.size_setCell]); omega))
    have l1 := ltb xq1
    have l1_1 := ltb xp1
    have l1_2 := ltb xg1
    have l1_3 := ltb xa1
    have zz1 := B1.size
    clear hb
    rw [H1.out]
    unfold rS
    go_wp2_with fail
    refine (rLag_any a g q _).mono ?_
    rintro q2 w2 ⟨rfl, hb⟩
    have xa0 := kcb hb (b := w.heap.size) (o := 0) (v := .int .i64 a.s) (by first | assumption | (refine cellUp ?_; assumption) | go_cell)
    have xa1 := kcb hb (b := w.heap.size) (o := 1) (v := .int .i64 a.w) (by first | assumption | (refine cellUp ?_; assumption) | go_cell)
    have xg0 := kcb hb (b := w.heap.size + 1) (o := 0) (v := .int .i64 g.x) (by first | assumption | (refine cellUp ?_; assumption) | go_cell)
    have xg1 := kcb hb (b := w.heap.size + 1) (o := 1) (v := .int .i64 g.y) (by first | assumption | (refine cellUp ?_; assumption) | go_cell)
    have xp0 := kcb hb (b := w.heap.size + 1 + 1) (o := 0) (v := .int .i64 p.x) (by first | assumption | (refine cellUp ?_; assumption) | go_cell)
    have xp1 := kcb hb (b := w.heap.size + 1 + 1) (o := 1) (v := .int .i64 p.y) (by first | assumption | (refine cellUp ?_; assumption) | go_cell)
    have xq0 := kcb hb (b := w.heap.size + 1 + 1 + 1) (o := 0) (v := .int .i64 q.x) (by first | assumption | (refine cellUp ?_; assumption) | go_cell)
    have xq1 := kcb hb (b := w.heap.size + 1 + 1 + 1) (o := 1) (v := .int .i64 q.y) (by first | assumption | (refine cellUp ?_; assumption) | go_cell)
    have s0 := kcb hb (b := w1.heap.size) (o := 0) (v := .int .i64 u) (by first | assumption | (refine cellUp ?_; assumption) | go_cell)
    have s1 := kcb hb (b := w1.heap.size) (o := 1) (v := .int .i64 v) (by first | assumption | (refine cellUp ?_; assumption) | go_cell)
    have B2 : Bl w w2 := Below.trans (by go_grown) (hb.mono (by (try simp only [World.size_alloc, World.size_setCell]); omega))
    have l2 := ltb s1
    have l2_1 := ltb xq1
    have l2_2 := ltb xp1
    have l2_3 := ltb xg1
    have l2_4 := ltb xa1
    have zz2 := B2.size
    clear hb
    rw [H2.out]
    unfold rS
    go_wp2_with fail
    exact bodyPost_ret (v := rB (aliR a g p q)) (by simp [results, Try.results50, go_sem, HR.out, rB]) rfl ⟨rfl, by go_grown⟩
  · have H1 := Lib.hid h1
    have H2 := Lib.hid h2
    have HR := Lib.hid h3
    clear h1 h2 h3
    go_enter Try.func50, Try.ntmps50
    go_wp2_with fail
    refine (rLag_any a g p _).mono ?_
    rintro q1 w1 ⟨rfl, hb⟩
    have xa0 := kcb hb (b := w.heap.size) (o := 0) (v := .int .i64 a.s) (by first | assumption | (refine cellUp ?_; assumption) | go_cell)
    have xa1 := kcb hb (b := w.heap.size) (o := 1) (v := .int .i64 a.w) (by first | assumption | (refine cellUp ?_; assumption) | go_cell)
    have xg0 := kcb hb (b := w.heap.size + 1) (o := 0) (v := .int .i64 g.x) (by first | assumption | (refine cellUp ?_; assumption) | go_cell)
    have xg1 := kcb hb (b := w.heap.size + 1) (o := 1) (v := .int .i64 g.y) (by first | assumption | (refine cellUp ?_; assumption) | go_cell)
    have xp0 := kcb hb (b := w.heap.size + 1 + 1) (o := 0) (v := .int .i64 p.x) (by first | assumption | (refine cellUp ?_; assumption) | go_cell)
    have xp1 := kcb hb (b := w.heap.size + 1 + 1) (o := 1) (v := .int .i64 p.y) (by first | assumption | (refine cellUp ?_; assumption) | go_cell)
    have xq0 := kcb hb (b := w.heap.size + 1 + 1 + 1) (o := 0) (v := .int .i64 q.x) (by first | assumption | (refine cellUp ?_; assumption) | go_cell)
    have xq1 := kcb hb (b := w.heap.size + 1 + 1 + 1) (o := 1) (v := .int .i64 q.y) (by first | assumption | (refine cellUp ?_; assumption) | go_cell)
    have B1 : Bl w w1 := Below.trans (by go_grown) (hb.mono (by (try simp only [World.size_alloc, World.size_setCell]); omega))
    have l1 := ltb xq1
    have l1_1 := ltb xp1
    have l1_2 := ltb xg1
    have l1_3 := ltb xa1
    have zz1 := B1.size
    clear hb
    rw [H1.out]
    unfold rS
    go_wp2_with fail
    refine (rLag_any a g q _).mono ?_
    rintro q2 w2 ⟨rfl, hb⟩
    have xa0 := kcb hb (b := w.heap.size) (o := 0) (v := .int .i64 a.s) (by first | assumption | (refine cellUp ?_; assumption) | go_cell)
    have xa1 := kcb hb (b := w.heap.size) (o := 1) (v := .int .i64 a.w) (by first | assumption | (refine cellUp ?_; assumption) | go_cell)
    have xg0 := kcb hb (b := w.heap.size + 1) (o := 0) (v := .int .i64 g.x) (by first | assumption | (refine cellUp ?_; assumption) | go_cell)
    have xg1 := kcb hb (b := w.heap.size + 1) (o := 1) (v := .int .i64 g.y) (by first | assumption | (refine cellUp ?_; assumption) | go_cell)
    have xp0 := kcb hb (b := w.heap.size + 1 + 1) (o := 0) (v := .int .i64 p.x) (by first | assumption | (refine cellUp ?_; assumption) | go_cell)
    have xp1 := kcb hb (b := w.heap.size + 1 + 1) (o := 1) (v := .int .i64 p.y) (by first | assumption | (refine cellUp ?_; assumption) | go_cell)
    have xq0 := kcb hb (b := w.heap.size + 1 + 1 + 1) (o := 0) (v := .int .i64 q.x) (by first | assumption | (refine cellUp ?_; assumption) | go_cell)
    have xq1 := kcb hb (b := w.heap.size + 1 + 1 + 1) (o := 1) (v := .int .i64 q.y) (by first | assumption | (refine cellUp ?_; assumption) | go_cell)
    have s0 := kcb hb (b := w1.heap.size) (o := 0) (v := .int .i64 0) (by first | assumption | (refine cellUp ?_; assumption) | go_cell)
    have s1 := kcb hb (b := w1.heap.size) (o := 1) (v := .int .i64 0) (by first | assumption | (refine cellUp ?_; assumption) | go_cell)
    have B2 : Bl w w2 := Below.trans (by go_grown) (hb.mono (by (try simp only [World.size_alloc, World.size_setCell]); omega))
    have l2 := ltb s1
    have l2_1 := ltb xq1
    have l2_2 := ltb xp1
    have l2_3 := ltb xg1
    have l2_4 := ltb xa1
    have zz2 := B2.size
    clear hb
    rw [H2.out]
    unfold rS
    go_wp2_with fail
    exact bodyPost_ret (v := rB (aliR a g p q)) (by simp [results, Try.results50, go_sem, HR.out, rB]) rfl ⟨rfl, by go_grown⟩
  · have H1 := Lib.hid h1
    have H2 := Lib.hid h2
    have HR := Lib.hid h3
    clear h1 h2 h3
    go_enter Try.func50, Try.ntmps50
    go_wp2_with fail
    refine (rLag_any a g p _).mono ?_
    rintro q1 w1 ⟨rfl, hb⟩
    have xa0 := kcb hb (b := w.heap.size) (o := 0) (v := .int .i64 a.s) (by first | assumption | (refine cellUp ?_; assumption) | go_cell)
    have xa1 := kcb hb (b := w.heap.size) (o := 1) (v := .int .i64 a.w) (by first | assumption | (refine cellUp ?_; assumption) | go_cell)
    have xg0 := kcb hb (b := w.heap.size + 1) (o := 0) (v := .int .i64 g.x) (by first | assumption | (refine cellUp ?_; assumption) | go_cell)
    have xg1 := kcb hb (b := w.heap.size + 1) (o := 1) (v := .int .i64 g.y) (by first | assumption | (refine cellUp ?_; assumption) | go_cell)
    have xp0 := kcb hb (b := w.heap.size + 1 + 1) (o := 0) (v := .int .i64 p.x) (by first | assumption | (refine cellUp ?_; assumption) | go_cell)
    have xp1 := kcb hb (b := w.heap.size + 1 + 1) (o := 1) (v := .int .i64 p.y) (by first | assumption | (refine cellUp ?_; assumption) | go_cell)
    have xq0 := kcb hb (b := w.heap.size + 1 + 1 + 1) (o := 0) (v := .int .i64 q.x) (by first | assumption | (refine cellUp ?_; assumption) | go_cell)
    have xq1 := kcb hb (b := w.heap.size + 1 + 1 + 1) (o := 1) (v := .int .i64 q.y) (by first | assumption | (refine cellUp ?_; assumption) | go_cell)
    have B1 : Bl w w1 := Below.trans (by go_grown) (hb.mono (by (try simp only [World.size_alloc, World.size_setCell]); omega))
    have l1 := ltb xq1
    have l1_1 := ltb xp1
    have l1_2 := ltb xg1
    have l1_3 := ltb xa1
    have zz1 := B1.size
    clear hb
    rw [H1.out]
    unfold rS
    go_wp2_with fail
    refine (rLag_any a g q _).mono ?_
    rintro q2 w2 ⟨rfl, hb⟩
    have xa0 := kcb hb (b := w.heap.size) (o := 0) (v := .int .i64 a.s) (by first | assumption | (refine cellUp ?_; assumption) | go_cell)
    have xa1 := kcb hb (b := w.heap.size) (o := 1) (v := .int .i64 a.w) (by first | assumption | (refine cellUp ?_; assumption) | go_cell)
    have xg0 := kcb hb (b := w.heap.size + 1) (o := 0) (v := .int .i64 g.x) (by first | assumption | (refine cellUp ?_; assumption) | go_cell)
    have xg1 := kcb hb (b := w.heap.size + 1) (o := 1) (v := .int .i64 g.y) (by first | assumption | (refine cellUp ?_; assumption) | go_cell)
    have xp0 := kcb hb (b := w.heap.size + 1 + 1) (o := 0) (v := .int .i64 p.x) (by first | assumption | (refine cellUp ?_; assumption) | go_cell)
    have xp1 := kcb hb (b := w.heap.size + 1 + 1) (o := 1) (v := .int .i64 p.y) (by first | assumption | (refine cellUp ?_; assumption) | go_cell)
    have xq0 := kcb hb (b := w.heap.size + 1 + 1 + 1) (o := 0) (v := .int .i64 q.x) (by first | assumption | (refine cellUp ?_; assumption) | go_cell)
    have xq1 := kcb hb (b := w.heap.size + 1 + 1 + 1) (o := 1) (v := .int .i64 q.y) (by first | assumption | (refine cellUp ?_; assumption) | go_cell)
    have s0 := kcb hb (b := w1.heap.size) (o := 0) (v := .int .i64 0) (by first | assumption | (refine cellUp ?_; assumption) | go_cell)
    have s1 := kcb hb (b := w1.heap.size) (o := 1) (v := .int .i64 0) (by first | assumption | (refine cellUp ?_; assumption) | go_cell)
    have B2 : Bl w w2 := Below.trans (by go_grown) (hb.mono (by (try simp only [World.size_alloc, World.size_setCell]); omega))
    have l2 := ltb s1
    have l2_1 := ltb xq1
    have l2_2 := ltb xp1
    have l2_3 := ltb xg1
    have l2_4 := ltb xa1
    have zz2 := B2.size
    clear hb
    rw [H2.out]
    unfold rS
    go_wp2_with fail
    exact bodyPost_ret (v := rB (aliR a g p q)) (by simp [results, Try.results50, go_sem, HR.out, rB]) rfl ⟨rfl, by go_grown⟩

set_option maxHeartbeats 1600000 in
theorem sameSpans_any (A : Option Addr) (n c : Nat) (B : Option Addr) (d : Nat) (T : Nat → Int × Int) (w : World) (hn : n ≤ maxLen) (hA : Spl w A n T) (hB : Spl w B n T) :
    Calls Try.prog 47 #[.slice A n c, .slice B n d] w fun e w' => e = .returned (.bool true) ∧ Bl w w' := by
  unfold maxLen at hn
  have HA := Lib.hid hA
  have HB := Lib.hid hB
  clear hA hB
  go_enter Try.func47, Try.ntmps47
  go_wp2_with fail
  go_loopw [13] (fun i wr => ∃ k N : Nat, k ≤ n ∧ i = .int .i64 k ∧ wr = w.drewN N) (fun i _ => n - (RowKit.intOf i).toNat)
  case atStart => exact ⟨0, 0, Nat.zero_le _, rfl, rfl⟩
  case round =>
    obtain ⟨k, N, hk, rfl, rfl⟩ := hrel
    by_cases hlt : k < n
    · obtain ⟨b, off, eA, hbb, hc⟩ := HA.out (by omega)
      obtain ⟨b', off', eB, hbb', hc'⟩ := HB.out (by omega)
      subst eA eB
      obtain ⟨c0, c1⟩ := hc k hlt
      obtain ⟨d0, d1⟩ := hc' k hlt
      clear hc hc'
      go_wp2_with fail
      go_quiet (fail)
      go_wp2_with fail
      go_roundw
      case rel => exact ⟨k + 1, _, by omega, by go_num, rfl⟩
      case measure => simp [RowKit.intOf]; omega
    · obtain rfl : k = n := by omega
      go_wp2_with fail
      go_ret
      exact ⟨rfl, Bl.dr _ _⟩

set_option maxHeartbeats 1600000 in
theorem sameShots_any (A : Option Addr) (n c : Nat) (B : Option Addr) (d : Nat) (T : Nat → Sho) (w : World) (hn : n ≤ maxLen) (hA : Shl w A n T) (hB : Shl w B n T) :
    Calls Try.prog 48 #[.slice A n c, .slice B n d] w fun e w' => e = .returned (.bool true) ∧ Bl w w' := by
  unfold maxLen at hn
  have HA := Lib.hid hA
  have HB := Lib.hid hB
  clear hA hB
  go_enter Try.func48, Try.ntmps48
  go_wp2_with fail
  go_loopw [13] (fun i wr => ∃ k N : Nat, k ≤ n ∧ i = .int .i64 k ∧ wr = w.drewN N) (fun i _ => n - (RowKit.intOf i).toNat)
  case atStart => exact ⟨0, 0, Nat.zero_le _, rfl, rfl⟩
  case round =>
    obtain ⟨k, N, hk, rfl, rfl⟩ := hrel
    by_cases hlt : k < n
    · obtain ⟨b, off, eA, hbb, hc⟩ := HA.out (by omega)
      obtain ⟨b', off', eB, hbb', hc'⟩ := HB.out (by omega)
      subst eA eB
      obtain ⟨c0, c1, c2, c3⟩ := hc k hlt
      obtain ⟨d0, d1, d2, d3⟩ := hc' k hlt
      clear hc hc'
      go_wp2_with fail
      go_quiet (fail)
      go_wp2_with fail
      go_roundw
      case rel => exact ⟨k + 1, _, by omega, by go_num, rfl⟩
      case measure => simp [RowKit.intOf]; omega
    · obtain rfl : k = n := by omega
      go_wp2_with fail
      go_ret
      exact ⟨rfl, Bl.dr _ _⟩

set_option maxHeartbeats 1600000 in
theorem samePts_any (A : Option Addr) (n c : Nat) (B : Option Addr) (d : Nat) (T : Nat → Pt) (w : World) (hn : n ≤ maxLen) (hA : Pl w A n T) (hB : Pl w B n T) :
    Calls Try.prog 38 #[.slice A n c, .slice B n d] w fun e w' => e = .returned (.bool true) ∧ Bl w w' := by
  unfold maxLen at hn
  have HA := Lib.hid hA
  have HB := Lib.hid hB
  clear hA hB
  go_enter Try.func38, Try.ntmps38
  go_wp2_with fail
  go_loopw [13] (fun i wr => ∃ k N : Nat, k ≤ n ∧ i = .int .i64 k ∧ wr = w.drewN N) (fun i _ => n - (RowKit.intOf i).toNat)
  case atStart => exact ⟨0, 0, Nat.zero_le _, rfl, rfl⟩
  case round =>
    obtain ⟨k, N, hk, rfl, rfl⟩ := hrel
    by_cases hlt : k < n
    · obtain ⟨b, off, eA, hbb, hc⟩ := HA.out (by omega)
      obtain ⟨b', off', eB, hbb', hc'⟩ := HB.out (by omega)
      subst eA eB
      obtain ⟨c0, c1⟩ := hc k hlt
      obtain ⟨d0, d1⟩ := hc' k hlt
      clear hc hc'
      go_wp2_with fail
      go_quiet (fail)
      go_wp2_with fail
      go_roundw
      case rel => exact ⟨k + 1, _, by omega, by go_num, rfl⟩
      case measure => simp [RowKit.intOf]; omega
    · obtain rfl : k = n := by omega
      go_wp2_with fail
      go_ret
      exact ⟨rfl, Bl.dr _ _⟩
end Go.Proofs.Ytangijdonkkglaa
