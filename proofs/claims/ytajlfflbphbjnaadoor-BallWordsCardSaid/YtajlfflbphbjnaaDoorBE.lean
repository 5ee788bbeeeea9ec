/-
  Contracts of package ball: what the mast's rules make of an event.
-/
import Derived.Test.YtajlfflbphbjnaaDoorBD
namespace Go.Proofs.YtajlfflbphbjnaaDoor
open Go.RowKit
set_option linter.unusedSimpArgs false
set_option linter.unusedVariables false

theorem fzb {W w1 : World} (hb : Bl W w1) {b o : Nat} (h : W.frozen? ⟨b, o, none⟩ = false) (hl : b < W.heap.size) : w1.frozen? ⟨b, o, none⟩ = false := (hb.frozen (p := ⟨b, o, none⟩) hl).trans h
theorem fz_new {w : World} {b o : Nat} (h : w.heap.size ≤ b) : w.frozen? ⟨b, o, none⟩ = false := by
  have : w.heap[b]? = none := by simp [h]
  simp [World.frozen?, this]
set_option maxRecDepth 100000 in
set_option maxHeartbeats 3200000 in
theorem next_bad (M : Mst) (hM : VM M) (x g1 g2 i1 g0 i2 g3 : Nat) (pl wi : Int) (fl : Bool) (st t ki n : Int) (w : World) (hR : RulesAt w M x g1 g2 i1 g0 i2 g3) (hv : ¬ (VE ⟨t, ki, n⟩ ∧ st ≤ t)) :
    Calls Tryd.prog 36 #[RV x g1 g2 i1 g0 i2 g3, .agg #[.int .i64 pl, .int .i64 wi, .bool fl, .int .i64 st], .agg #[.int .i64 t, .int .i64 ki, .int .i64 n]] w fun e w' => e = .returned (.tuple #[encB (stp M ⟨pl, wi, fl, st⟩ ⟨t, ki, n⟩).1, .int .i64 (stp M ⟨pl, wi, fl, st⟩ ⟨t, ki, n⟩).2]) ∧ Bl w w' := by
  have RR := Lib.hid (fun w' (h : Bl w w') => hR.below h)
  have HM := Lib.hid hM
  clear hR hM
  have HS := Lib.hid (show stp M ⟨pl, wi, fl, st⟩ ⟨t, ki, n⟩ = (Bal.zero, 7) by unfold stp; exact if_neg hv)
  by_cases q : VE ⟨t, ki, n⟩
  · have hlt : t < st := by rcases Int.lt_or_le t st with h | h; exact h; exact absurd ⟨q, h⟩ hv
    have Q := Lib.hid (show decide (VE ⟨t, ki, n⟩) = true from decide_eq_true q)
    clear hv q
    go_enter Tryd.func36, Tryd.ntmps36
    go_wp2_with fail
    refine (isEvent_any ⟨t, ki, n⟩ _).mono ?_
    rintro e1 w1 ⟨rfl, hb⟩
    have s0 := kcb hb (b := w.heap.size + 1) (o := 0) (v := .int .i64 pl) (by go_cell)
    have s1 := kcb hb (b := w.heap.size + 1) (o := 1) (v := .int .i64 wi) (by go_cell)
    have s2 := kcb hb (b := w.heap.size + 1) (o := 2) (v := .bool fl) (by go_cell)
    have s3 := kcb hb (b := w.heap.size + 1) (o := 3) (v := .int .i64 st) (by go_cell)
    have e0 := kcb hb (b := w.heap.size + 1 + 1) (o := 0) (v := .int .i64 t) (by go_cell)
    have e1 := kcb hb (b := w.heap.size + 1 + 1) (o := 1) (v := .int .i64 ki) (by go_cell)
    have e2 := kcb hb (b := w.heap.size + 1 + 1) (o := 2) (v := .int .i64 n) (by go_cell)
    have c0 := kcb hb (b := w.heap.size + 1 + 1 + 1) (o := 0) (v := .int .i64 0) (by go_cell)
    have c1 := kcb hb (b := w.heap.size + 1 + 1 + 1) (o := 1) (v := .int .i64 0) (by go_cell)
    have c2 := kcb hb (b := w.heap.size + 1 + 1 + 1) (o := 2) (v := .bool false) (by go_cell)
    have c3 := kcb hb (b := w.heap.size + 1 + 1 + 1) (o := 3) (v := .int .i64 0) (by go_cell)
    have y0 := fzb hb (b := w.heap.size + 1) (o := 0) (by (try simp only [frozen?_alloc_cells, World.frozen?_setCell]); first | assumption | exact fz_new (by (try simp only [World.size_alloc, World.size_setCell]); omega)) (by (try simp only [World.size_alloc, World.size_setCell]); omega)
    have y1 := fzb hb (b := w.heap.size + 1) (o := 1) (by (try simp only [frozen?_alloc_cells, World.frozen?_setCell]); first | assumption | exact fz_new (by (try simp only [World.size_alloc, World.size_setCell]); omega)) (by (try simp only [World.size_alloc, World.size_setCell]); omega)
    have y2 := fzb hb (b := w.heap.size + 1) (o := 2) (by (try simp only [frozen?_alloc_cells, World.frozen?_setCell]); first | assumption | exact fz_new (by (try simp only [World.size_alloc, World.size_setCell]); omega)) (by (try simp only [World.size_alloc, World.size_setCell]); omega)
    have y3 := fzb hb (b := w.heap.size + 1) (o := 3) (by (try simp only [frozen?_alloc_cells, World.frozen?_setCell]); first | assumption | exact fz_new (by (try simp only [World.size_alloc, World.size_setCell]); omega)) (by (try simp only [World.size_alloc, World.size_setCell]); omega)
    have z0 := fzb hb (b := w.heap.size + 1 + 1 + 1) (o := 0) (by (try simp only [frozen?_alloc_cells, World.frozen?_setCell]); first | assumption | exact fz_new (by (try simp only [World.size_alloc, World.size_setCell]); omega)) (by (try simp only [World.size_alloc, World.size_setCell]); omega)
    have z1 := fzb hb (b := w.heap.size + 1 + 1 + 1) (o := 1) (by (try simp only [frozen?_alloc_cells, World.frozen?_setCell]); first | assumption | exact fz_new (by (try simp only [World.size_alloc, World.size_setCell]); omega)) (by (try simp only [World.size_alloc, World.size_setCell]); omega)
    have z2 := fzb hb (b := w.heap.size + 1 + 1 + 1) (o := 2) (by (try simp only [frozen?_alloc_cells, World.frozen?_setCell]); first | assumption | exact fz_new (by (try simp only [World.size_alloc, World.size_setCell]); omega)) (by (try simp only [World.size_alloc, World.size_setCell]); omega)
    have z3 := fzb hb (b := w.heap.size + 1 + 1 + 1) (o := 3) (by (try simp only [frozen?_alloc_cells, World.frozen?_setCell]); first | assumption | exact fz_new (by (try simp only [World.size_alloc, World.size_setCell]); omega)) (by (try simp only [World.size_alloc, World.size_setCell]); omega)
    have B1 : Bl w w1 := Below.trans (by go_grown) (hb.mono (by (try simp only [World.size_alloc]); omega))
    have l1 := ltb c0
    clear hb
    rw [Q.out]
    go_wp2_with fail
    exact bodyPost_ret (v := .tuple #[.agg #[.int .i64 0, .int .i64 0, .bool false, .int .i64 0], .int .i64 7]) (by simp [results, Tryd.results36, go_sem, c0, c1, c2, c3, z0, z1, z2, z3]) rfl ⟨by rw [HS.out], by go_grown⟩
  · have Q := Lib.hid (show decide (VE ⟨t, ki, n⟩) = false from decide_eq_false q)
    clear hv q
    go_enter Tryd.func36, Tryd.ntmps36
    go_wp2_with fail
    refine (isEvent_any ⟨t, ki, n⟩ _).mono ?_
    rintro e1 w1 ⟨rfl, hb⟩
    have s0 := kcb hb (b := w.heap.size + 1) (o := 0) (v := .int .i64 pl) (by go_cell)
    have s1 := kcb hb (b := w.heap.size + 1) (o := 1) (v := .int .i64 wi) (by go_cell)
    have s2 := kcb hb (b := w.heap.size + 1) (o := 2) (v := .bool fl) (by go_cell)
    have s3 := kcb hb (b := w.heap.size + 1) (o := 3) (v := .int .i64 st) (by go_cell)
    have e0 := kcb hb (b := w.heap.size + 1 + 1) (o := 0) (v := .int .i64 t) (by go_cell)
    have e1 := kcb hb (b := w.heap.size + 1 + 1) (o := 1) (v := .int .i64 ki) (by go_cell)
    have e2 := kcb hb (b := w.heap.size + 1 + 1) (o := 2) (v := .int .i64 n) (by go_cell)
    have c0 := kcb hb (b := w.heap.size + 1 + 1 + 1) (o := 0) (v := .int .i64 0) (by go_cell)
    have c1 := kcb hb (b := w.heap.size + 1 + 1 + 1) (o := 1) (v := .int .i64 0) (by go_cell)
    have c2 := kcb hb (b := w.heap.size + 1 + 1 + 1) (o := 2) (v := .bool false) (by go_cell)
    have c3 := kcb hb (b := w.heap.size + 1 + 1 + 1) (o := 3) (v := .int .i64 0) (by go_cell)
    have y0 := fzb hb (b := w.heap.size + 1) (o := 0) (by (try simp only [frozen?_alloc_cells, World.frozen?_setCell]); first | assumption | exact fz_new (by (try simp only [World.size_alloc, World.size_setCell]); omega)) (by (try simp only [World.size_alloc, World.size_setCell]); omega)
    have y1 := fzb hb (b := w.heap.size + 1) (o := 1) (by (try simp only [frozen?_alloc_cells, World.frozen?_setCell]); first | assumption | exact fz_new (by (try simp only [World.size_alloc, World.size_setCell]); omega)) (by (try simp only [World.size_alloc, World.size_setCell]); omega)
    have y2 := fzb hb (b := w.heap.size + 1) (o := 2) (by (try simp only [frozen?_alloc_cells, World.frozen?_setCell]); first | assumption | exact fz_new (by (try simp only [World.size_alloc, World.size_setCell]); omega)) (by (try simp only [World.size_alloc, World.size_setCell]); omega)
    have y3 := fzb hb (b := w.heap.size + 1) (o := 3) (by (try simp only [frozen?_alloc_cells, World.frozen?_setCell]); first | assumption | exact fz_new (by (try simp only [World.size_alloc, World.size_setCell]); omega)) (by (try simp only [World.size_alloc, World.size_setCell]); omega)
    have z0 := fzb hb (b := w.heap.size + 1 + 1 + 1) (o := 0) (by (try simp only [frozen?_alloc_cells, World.frozen?_setCell]); first | assumption | exact fz_new (by (try simp only [World.size_alloc, World.size_setCell]); omega)) (by (try simp only [World.size_alloc, World.size_setCell]); omega)
    have z1 := fzb hb (b := w.heap.size + 1 + 1 + 1) (o := 1) (by (try simp only [frozen?_alloc_cells, World.frozen?_setCell]); first | assumption | exact fz_new (by (try simp only [World.size_alloc, World.size_setCell]); omega)) (by (try simp only [World.size_alloc, World.size_setCell]); omega)
    have z2 := fzb hb (b := w.heap.size + 1 + 1 + 1) (o := 2) (by (try simp only [frozen?_alloc_cells, World.frozen?_setCell]); first | assumption | exact fz_new (by (try simp only [World.size_alloc, World.size_setCell]); omega)) (by (try simp only [World.size_alloc, World.size_setCell]); omega)
    have z3 := fzb hb (b := w.heap.size + 1 + 1 + 1) (o := 3) (by (try simp only [frozen?_alloc_cells, World.frozen?_setCell]); first | assumption | exact fz_new (by (try simp only [World.size_alloc, World.size_setCell]); omega)) (by (try simp only [World.size_alloc, World.size_setCell]); omega)
    have B1 : Bl w w1 := Below.trans (by go_grown) (hb.mono (by (try simp only [World.size_alloc]); omega))
    have l1 := ltb c0
    clear hb
    rw [Q.out]
    go_wp2_with fail
    exact bodyPost_ret (v := .tuple #[.agg #[.int .i64 0, .int .i64 0, .bool false, .int .i64 0], .int .i64 7]) (by simp [results, Tryd.results36, go_sem, c0, c1, c2, c3, z0, z1, z2, z3]) rfl ⟨by rw [HS.out], by go_grown⟩
set_option maxRecDepth 100000 in
set_option maxHeartbeats 3200000 in
theorem next_1 (M : Mst) (hM : VM M) (x g1 g2 i1 g0 i2 g3 : Nat) (pl wi : Int) (fl : Bool) (st t n : Int) (w : World) (hR : RulesAt w M x g1 g2 i1 g0 i2 g3) (hv : VE ⟨t, 1, n⟩) (ht : st ≤ t) :
    Calls Tryd.prog 36 #[RV x g1 g2 i1 g0 i2 g3, .agg #[.int .i64 pl, .int .i64 wi, .bool fl, .int .i64 st], .agg #[.int .i64 t, .int .i64 1, .int .i64 n]] w fun e w' => e = .returned (.tuple #[encB (stp M ⟨pl, wi, fl, st⟩ ⟨t, 1, n⟩).1, .int .i64 (stp M ⟨pl, wi, fl, st⟩ ⟨t, 1, n⟩).2]) ∧ Bl w w' := by
  have RR := Lib.hid (fun w' (h : Bl w w') => hR.below h)
  have HM := Lib.hid hM
  clear hR hM
  have Q := Lib.hid (show decide (VE ⟨t, 1, n⟩) = true from decide_eq_true hv)
  obtain ⟨mx, hmx⟩ : ∃ mx, mx = if wi < n then n else wi := ⟨_, rfl⟩
  have HA := Lib.hid (show alw M ⟨pl, wi, fl, st⟩ 1 t ↔ True by simp [alw])
  have H1 := Lib.hid (show alw M ⟨pl, wi, fl, st⟩ 1 t → stp M ⟨pl, wi, fl, st⟩ ⟨t, 1, n⟩ = (⟨pl, mx, fl, t⟩, 0) by intro h; unfold stp; rw [if_pos ⟨hv, ht⟩, if_pos h]; simp [doe, hmx])
  have H2 := Lib.hid (show ¬ alw M ⟨pl, wi, fl, st⟩ 1 t → stp M ⟨pl, wi, fl, st⟩ ⟨t, 1, n⟩ = (Bal.zero, 9) by intro h; unfold stp; rw [if_pos ⟨hv, ht⟩, if_neg h])
  have HX := Lib.hid hmx
  clear hmx
  clear hv
  have HS := Lib.hid (H1.out (HA.out.2 trivial))
  go_enter Tryd.func36, Tryd.ntmps36
  go_wp2_with fail
  refine (isEvent_any ⟨t, 1, n⟩ _).mono ?_
  rintro e1 w1 ⟨rfl, hb⟩
  have r0 := kcb hb (b := w.heap.size) (o := 2) (v := .func (.func 40) #[] #[]) (by go_cell)
  have r1 := kcb hb (b := w.heap.size) (o := 3) (v := .func (.func 41) #[] #[]) (by go_cell)
  have s0 := kcb hb (b := w.heap.size + 1) (o := 0) (v := .int .i64 pl) (by go_cell)
  have s1 := kcb hb (b := w.heap.size + 1) (o := 1) (v := .int .i64 wi) (by go_cell)
  have s2 := kcb hb (b := w.heap.size + 1) (o := 2) (v := .bool fl) (by go_cell)
  have s3 := kcb hb (b := w.heap.size + 1) (o := 3) (v := .int .i64 st) (by go_cell)
  have e0 := kcb hb (b := w.heap.size + 1 + 1) (o := 0) (v := .int .i64 t) (by go_cell)
  have e1 := kcb hb (b := w.heap.size + 1 + 1) (o := 1) (v := .int .i64 1) (by go_cell)
  have e2 := kcb hb (b := w.heap.size + 1 + 1) (o := 2) (v := .int .i64 n) (by go_cell)
  have c0 := kcb hb (b := w.heap.size + 1 + 1 + 1) (o := 0) (v := .int .i64 0) (by go_cell)
  have c1 := kcb hb (b := w.heap.size + 1 + 1 + 1) (o := 1) (v := .int .i64 0) (by go_cell)
  have c2 := kcb hb (b := w.heap.size + 1 + 1 + 1) (o := 2) (v := .bool false) (by go_cell)
  have c3 := kcb hb (b := w.heap.size + 1 + 1 + 1) (o := 3) (v := .int .i64 0) (by go_cell)
  have y0 := fzb hb (b := w.heap.size + 1) (o := 0) (by (try simp only [frozen?_alloc_cells, World.frozen?_setCell]); first | assumption | exact fz_new (by (try simp only [World.size_alloc, World.size_setCell]); omega)) (by (try simp only [World.size_alloc, World.size_setCell]); omega)
  have y1 := fzb hb (b := w.heap.size + 1) (o := 1) (by (try simp only [frozen?_alloc_cells, World.frozen?_setCell]); first | assumption | exact fz_new (by (try simp only [World.size_alloc, World.size_setCell]); omega)) (by (try simp only [World.size_alloc, World.size_setCell]); omega)
  have y2 := fzb hb (b := w.heap.size + 1) (o := 2) (by (try simp only [frozen?_alloc_cells, World.frozen?_setCell]); first | assumption | exact fz_new (by (try simp only [World.size_alloc, World.size_setCell]); omega)) (by (try simp only [World.size_alloc, World.size_setCell]); omega)
  have y3 := fzb hb (b := w.heap.size + 1) (o := 3) (by (try simp only [frozen?_alloc_cells, World.frozen?_setCell]); first | assumption | exact fz_new (by (try simp only [World.size_alloc, World.size_setCell]); omega)) (by (try simp only [World.size_alloc, World.size_setCell]); omega)
  have z0 := fzb hb (b := w.heap.size + 1 + 1 + 1) (o := 0) (by (try simp only [frozen?_alloc_cells, World.frozen?_setCell]); first | assumption | exact fz_new (by (try simp only [World.size_alloc, World.size_setCell]); omega)) (by (try simp only [World.size_alloc, World.size_setCell]); omega)
  have z1 := fzb hb (b := w.heap.size + 1 + 1 + 1) (o := 1) (by (try simp only [frozen?_alloc_cells, World.frozen?_setCell]); first | assumption | exact fz_new (by (try simp only [World.size_alloc, World.size_setCell]); omega)) (by (try simp only [World.size_alloc, World.size_setCell]); omega)
  have z2 := fzb hb (b := w.heap.size + 1 + 1 + 1) (o := 2) (by (try simp only [frozen?_alloc_cells, World.frozen?_setCell]); first | assumption | exact fz_new (by (try simp only [World.size_alloc, World.size_setCell]); omega)) (by (try simp only [World.size_alloc, World.size_setCell]); omega)
  have z3 := fzb hb (b := w.heap.size + 1 + 1 + 1) (o := 3) (by (try simp only [frozen?_alloc_cells, World.frozen?_setCell]); first | assumption | exact fz_new (by (try simp only [World.size_alloc, World.size_setCell]); omega)) (by (try simp only [World.size_alloc, World.size_setCell]); omega)
  have B1 : Bl w w1 := Below.trans (by go_grown) (hb.mono (by (try simp only [World.size_alloc]); omega))
  have l1 := ltb c0
  clear hb
  rw [Q.out]
  go_wp2_with fail
  refine wp_region_noPanic ?_
  refine wp_region_held_drew (S := fun w' => Bl w w' ∧ w'.cell? ⟨w.heap.size, 2, none⟩ = some (.func (.func 40) #[] #[]) ∧ w'.cell? ⟨w.heap.size + 1, 0, none⟩ = some (.int .i64 pl) ∧ w'.cell? ⟨w.heap.size + 1, 1, none⟩ = some (.int .i64 wi) ∧ w'.cell? ⟨w.heap.size + 1, 2, none⟩ = some (.bool fl) ∧ w'.cell? ⟨w.heap.size + 1, 3, none⟩ = some (.int .i64 st) ∧ w'.cell? ⟨w.heap.size + 1 + 1, 0, none⟩ = some (.int .i64 t) ∧ w'.cell? ⟨w.heap.size + 1 + 1, 1, none⟩ = some (.int .i64 1)) (by kernel_rfl) (⟨B1.tr (Bl.d1 _), kcb (Bl.d1 _) r0, kcb (Bl.d1 _) s0, kcb (Bl.d1 _) s1, kcb (Bl.d1 _) s2, kcb (Bl.d1 _) s3, kcb (Bl.d1 _) e0, kcb (Bl.d1 _) e1⟩) (fun hH => ?_)
  refine wpAnyH_take (i := 0) (oi := ({ dst := some 19, op := Go.Op.fieldAddr 38 (Go.Operand.tmp 5) 1, type := 0, pos := "run.go:106", after := #[], guard := none } : Oper)) (v := ?_) rfl (by kernel_rfl) (by kernel_rfl) (by kernel_rfl) (fun _ _ _ h => h) (Or.inl ⟨by rfl, ?_⟩) hH ?_
  rotate_left
  · intro w hSw; (try dsimp only at hSw); go_simp; try with_reducible rfl
  try simp only [Act.put, List.setIfInBounds_toArray, List.set_cons_zero, List.set_cons_succ]
  refine wpAnyH_take (i := 1) (oi := ({ dst := some 20, op := Go.Op.load 3 (Go.Operand.tmp 19), type := 3, pos := "run.go:106", after := #[{ on := 0, ground := Go.Ground.data }], guard := none } : Oper)) (v := ?_) rfl (by kernel_rfl) (by kernel_rfl) (by kernel_rfl) (fun _ _ _ h => h) (Or.inl ⟨by rfl, ?_⟩) hH ?_
  rotate_left
  · intro w hSw; (try dsimp only at hSw); go_simp; try with_reducible rfl
  try simp only [Act.put, List.setIfInBounds_toArray, List.set_cons_zero, List.set_cons_succ]
  refine wpAnyH_take (i := 2) (oi := ({ dst := some 21, op := Go.Op.indexAddr 75 (Go.Operand.tmp 3) (Go.Operand.tmp 20), type := 0, pos := "run.go:106", after := #[{ on := 1, ground := Go.Ground.data }], guard := none } : Oper)) (v := ?_) rfl (by kernel_rfl) (by kernel_rfl) (by kernel_rfl) (fun _ _ _ h => h) (Or.inl ⟨by rfl, ?_⟩) hH ?_
  rotate_left
  · intro w hSw; (try dsimp only at hSw); go_simp; try with_reducible rfl
  try simp only [Act.put, List.setIfInBounds_toArray, List.set_cons_zero, List.set_cons_succ]
  refine wpAnyH_take (i := 3) (oi := ({ dst := some 22, op := Go.Op.fieldAddr 73 (Go.Operand.tmp 21) 0, type := 0, pos := "run.go:106", after := #[{ on := 2, ground := Go.Ground.data }], guard := none } : Oper)) (v := ?_) rfl (by kernel_rfl) (by kernel_rfl) (by kernel_rfl) (fun _ _ _ h => h) (Or.inl ⟨by rfl, ?_⟩) hH ?_
  rotate_left
  · intro w hSw; (try dsimp only at hSw); go_simp; try with_reducible rfl
  try simp only [Act.put, List.setIfInBounds_toArray, List.set_cons_zero, List.set_cons_succ]
  refine wpAnyH_take (i := 4) (oi := ({ dst := some 23, op := Go.Op.load 70 (Go.Operand.tmp 22), type := 70, pos := "run.go:106", after := #[{ on := 3, ground := Go.Ground.data }], guard := none } : Oper)) (v := ?_) rfl (by kernel_rfl) (by kernel_rfl) (by kernel_rfl) (fun _ _ _ h => h) (Or.inl ⟨by rfl, ?_⟩) hH ?_
  rotate_left
  · intro w hSw; (try dsimp only at hSw); go_simp; try with_reducible rfl
  try simp only [Act.put, List.setIfInBounds_toArray, List.set_cons_zero, List.set_cons_succ]
  refine wpAnyH_take (i := 5) (oi := ({ dst := some 24, op := Go.Op.load 53 (Go.Operand.tmp 4), type := 53, pos := "run.go:106", after := #[], guard := none } : Oper)) (v := ?_) rfl (by kernel_rfl) (by kernel_rfl) (by kernel_rfl) (fun _ _ _ h => h) (Or.inl ⟨by rfl, ?_⟩) hH ?_
  rotate_left
  · intro w hSw; (try dsimp only at hSw); go_simp; try with_reducible rfl
  try simp only [Act.put, List.setIfInBounds_toArray, List.set_cons_zero, List.set_cons_succ]
  refine wpAnyH_take (i := 6) (oi := ({ dst := some 25, op := Go.Op.fieldAddr 38 (Go.Operand.tmp 5) 0, type := 0, pos := "run.go:106", after := #[], guard := none } : Oper)) (v := ?_) rfl (by kernel_rfl) (by kernel_rfl) (by kernel_rfl) (fun _ _ _ h => h) (Or.inl ⟨by rfl, ?_⟩) hH ?_
  rotate_left
  · intro w hSw; (try dsimp only at hSw); go_simp; try with_reducible rfl
  try simp only [Act.put, List.setIfInBounds_toArray, List.set_cons_zero, List.set_cons_succ]
  refine wpAnyH_take (i := 7) (oi := ({ dst := some 26, op := Go.Op.load 3 (Go.Operand.tmp 25), type := 3, pos := "run.go:106", after := #[{ on := 6, ground := Go.Ground.data }], guard := none } : Oper)) (v := ?_) rfl (by kernel_rfl) (by kernel_rfl) (by kernel_rfl) (fun _ _ _ h => h) (Or.inl ⟨by rfl, ?_⟩) hH ?_
  rotate_left
  · intro w hSw; (try dsimp only at hSw); go_simp; try with_reducible rfl
  try simp only [Act.put, List.setIfInBounds_toArray, List.set_cons_zero, List.set_cons_succ]
  refine wpAnyH_ready (rs := [8]) (by kernel_rfl) (by simp) ?_
  refine AllReadyH.cons (o := ({ dst := some 27, op := Go.Op.call { callee := Go.Callee.value (Go.Operand.tmp 23), args := #[Go.Operand.tmp 24, Go.Operand.tmp 26], argTypes := #[53, 3] }, type := 4, pos := "run.go:106", after := #[{ on := 4, ground := Go.Ground.data }, { on := 5, ground := Go.Ground.data }, { on := 7, ground := Go.Ground.data }], guard := none } : Oper)) rfl (fun K hK => ?_) AllReadyH.nil
  go_simp
  go_at_call 40
  refine (always_any ⟨pl, wi, fl, st⟩ t _).mono ?_
  rintro e9 w2 ⟨rfl, hb⟩
  have hb2 := (Bl.d1 w1).tr hb
  have r0 := kcb hb2 r0
  have r1 := kcb hb2 r1
  have s0 := kcb hb2 s0
  have s1 := kcb hb2 s1
  have s2 := kcb hb2 s2
  have s3 := kcb hb2 s3
  have e0 := kcb hb2 e0
  have e1 := kcb hb2 e1
  have e2 := kcb hb2 e2
  have c0 := kcb hb2 c0
  have c1 := kcb hb2 c1
  have c2 := kcb hb2 c2
  have c3 := kcb hb2 c3
  have y0 := fzb hb2 y0 (by omega)
  have z0 := fzb hb2 z0 (by omega)
  have y1 := fzb hb2 y1 (by omega)
  have z1 := fzb hb2 z1 (by omega)
  have y2 := fzb hb2 y2 (by omega)
  have z2 := fzb hb2 z2 (by omega)
  have y3 := fzb hb2 y3 (by omega)
  have z3 := fzb hb2 z3 (by omega)
  have B2 := B1.tr hb2
  have l2 := ltb c0
  refine hK.out _ _ ⟨hH.1.tr hb, kcb hb hH.2.1, kcb hb hH.2.2.1, kcb hb hH.2.2.2.1, kcb hb hH.2.2.2.2.1, kcb hb hH.2.2.2.2.2.1, kcb hb hH.2.2.2.2.2.2.1, kcb hb hH.2.2.2.2.2.2.2⟩ (fun hH' => ?_)
  clear hH
  have hH := hH'
  clear hH' hK K
  try simp only [Act.put, List.setIfInBounds_toArray, List.set_cons_zero, List.set_cons_succ]
  refine wpAnyH_take (i := 9) (oi := ({ dst := some 28, op := Go.Op.unOp Go.UnOp.not 4 (Go.Operand.tmp 27), type := 4, pos := "run.go:106", after := #[{ on := 8, ground := Go.Ground.data }], guard := none } : Oper)) (v := ?_) rfl (by kernel_rfl) (by kernel_rfl) (by kernel_rfl) (fun _ _ _ h => h) (Or.inl ⟨by rfl, ?_⟩) hH ?_
  rotate_left
  · intro w hSw; (try dsimp only at hSw); go_simp; try with_reducible rfl
  try simp only [Act.put, List.setIfInBounds_toArray, List.set_cons_zero, List.set_cons_succ]
  refine wpAnyH_done (by kernel_rfl) ?_ _
  refine NoPanic.normal ?_
  go_wp2_with fail
  refine wp_region_noPanic ?_
  refine wp_region_held_drew (S := fun w' => Bl w w' ∧ w'.cell? ⟨w.heap.size, 3, none⟩ = some (.func (.func 41) #[] #[]) ∧ w'.cell? ⟨w.heap.size + 1 + 1, 0, none⟩ = some (.int .i64 t) ∧ w'.cell? ⟨w.heap.size + 1 + 1, 1, none⟩ = some (.int .i64 1) ∧ w'.cell? ⟨w.heap.size + 1 + 1, 2, none⟩ = some (.int .i64 n)) (by kernel_rfl) (⟨B2.tr (Bl.d1 _), kcb (Bl.d1 _) r1, kcb (Bl.d1 _) e0, kcb (Bl.d1 _) e1, kcb (Bl.d1 _) e2⟩) (fun hH => ?_)
  refine wpAnyH_take (i := 0) (oi := ({ dst := some 30, op := Go.Op.fieldAddr 38 (Go.Operand.tmp 5) 1, type := 0, pos := "run.go:109", after := #[], guard := none } : Oper)) (v := ?_) rfl (by kernel_rfl) (by kernel_rfl) (by kernel_rfl) (fun _ _ _ h => h) (Or.inl ⟨by rfl, ?_⟩) hH ?_
  rotate_left
  · intro w hSw; (try dsimp only at hSw); go_simp; try with_reducible rfl
  try simp only [Act.put, List.setIfInBounds_toArray, List.set_cons_zero, List.set_cons_succ]
  refine wpAnyH_take (i := 1) (oi := ({ dst := some 31, op := Go.Op.load 3 (Go.Operand.tmp 30), type := 3, pos := "run.go:109", after := #[{ on := 0, ground := Go.Ground.data }], guard := none } : Oper)) (v := ?_) rfl (by kernel_rfl) (by kernel_rfl) (by kernel_rfl) (fun _ _ _ h => h) (Or.inl ⟨by rfl, ?_⟩) hH ?_
  rotate_left
  · intro w hSw; (try dsimp only at hSw); go_simp; try with_reducible rfl
  try simp only [Act.put, List.setIfInBounds_toArray, List.set_cons_zero, List.set_cons_succ]
  refine wpAnyH_take (i := 2) (oi := ({ dst := some 32, op := Go.Op.indexAddr 75 (Go.Operand.tmp 3) (Go.Operand.tmp 31), type := 0, pos := "run.go:109", after := #[{ on := 1, ground := Go.Ground.data }], guard := none } : Oper)) (v := ?_) rfl (by kernel_rfl) (by kernel_rfl) (by kernel_rfl) (fun _ _ _ h => h) (Or.inl ⟨by rfl, ?_⟩) hH ?_
  rotate_left
  · intro w hSw; (try dsimp only at hSw); go_simp; try with_reducible rfl
  try simp only [Act.put, List.setIfInBounds_toArray, List.set_cons_zero, List.set_cons_succ]
  refine wpAnyH_take (i := 3) (oi := ({ dst := some 33, op := Go.Op.fieldAddr 73 (Go.Operand.tmp 32) 1, type := 0, pos := "run.go:109", after := #[{ on := 2, ground := Go.Ground.data }], guard := none } : Oper)) (v := ?_) rfl (by kernel_rfl) (by kernel_rfl) (by kernel_rfl) (fun _ _ _ h => h) (Or.inl ⟨by rfl, ?_⟩) hH ?_
  rotate_left
  · intro w hSw; (try dsimp only at hSw); go_simp; try with_reducible rfl
  try simp only [Act.put, List.setIfInBounds_toArray, List.set_cons_zero, List.set_cons_succ]
  refine wpAnyH_take (i := 4) (oi := ({ dst := some 34, op := Go.Op.load 71 (Go.Operand.tmp 33), type := 71, pos := "run.go:109", after := #[{ on := 3, ground := Go.Ground.data }], guard := none } : Oper)) (v := ?_) rfl (by kernel_rfl) (by kernel_rfl) (by kernel_rfl) (fun _ _ _ h => h) (Or.inl ⟨by rfl, ?_⟩) hH ?_
  rotate_left
  · intro w hSw; (try dsimp only at hSw); go_simp; try with_reducible rfl
  try simp only [Act.put, List.setIfInBounds_toArray, List.set_cons_zero, List.set_cons_succ]
  refine wpAnyH_take (i := 6) (oi := ({ dst := some 36, op := Go.Op.fieldAddr 38 (Go.Operand.tmp 5) 2, type := 0, pos := "run.go:109", after := #[], guard := none } : Oper)) (v := ?_) rfl (by kernel_rfl) (by kernel_rfl) (by kernel_rfl) (fun _ _ _ h => h) (Or.inl ⟨by rfl, ?_⟩) hH ?_
  rotate_left
  · intro w hSw; (try dsimp only at hSw); go_simp; try with_reducible rfl
  try simp only [Act.put, List.setIfInBounds_toArray, List.set_cons_zero, List.set_cons_succ]
  refine wpAnyH_take (i := 7) (oi := ({ dst := some 37, op := Go.Op.load 3 (Go.Operand.tmp 36), type := 3, pos := "run.go:109", after := #[{ on := 6, ground := Go.Ground.data }], guard := none } : Oper)) (v := ?_) rfl (by kernel_rfl) (by kernel_rfl) (by kernel_rfl) (fun _ _ _ h => h) (Or.inl ⟨by rfl, ?_⟩) hH ?_
  rotate_left
  · intro w hSw; (try dsimp only at hSw); go_simp; try with_reducible rfl
  try simp only [Act.put, List.setIfInBounds_toArray, List.set_cons_zero, List.set_cons_succ]
  refine wpAnyH_ready (rs := [5]) (by kernel_rfl) (by simp) ?_
  refine AllReadyH.cons (o := ({ dst := some 35, op := Go.Op.load 53 (Go.Operand.tmp 4), type := 53, pos := "run.go:109", after := #[], guard := none } : Oper)) rfl (fun K hK => ?_) AllReadyH.nil
  go_simp
  have r0 := kcb (Bl.d1 w2) r0
  have r1 := kcb (Bl.d1 w2) r1
  have s0 := kcb (Bl.d1 w2) s0
  have s1 := kcb (Bl.d1 w2) s1
  have s2 := kcb (Bl.d1 w2) s2
  have s3 := kcb (Bl.d1 w2) s3
  have e0 := kcb (Bl.d1 w2) e0
  have e1 := kcb (Bl.d1 w2) e1
  have e2 := kcb (Bl.d1 w2) e2
  have c0 := kcb (Bl.d1 w2) c0
  have c1 := kcb (Bl.d1 w2) c1
  have c2 := kcb (Bl.d1 w2) c2
  have c3 := kcb (Bl.d1 w2) c3
  refine hK.out _ _ hH (fun hH' => ?_)
  clear hH' hK K
  try simp only [Act.put, List.setIfInBounds_toArray, List.set_cons_zero, List.set_cons_succ]
  refine wpAnyH_ready (rs := [8]) (by kernel_rfl) (by simp) ?_
  refine AllReadyH.cons (o := ({ dst := some 38, op := Go.Op.call { callee := Go.Callee.value (Go.Operand.tmp 34), args := #[Go.Operand.tmp 35, Go.Operand.tmp 37], argTypes := #[53, 3] }, type := 53, pos := "run.go:109", after := #[{ on := 4, ground := Go.Ground.data }, { on := 5, ground := Go.Ground.data }, { on := 7, ground := Go.Ground.data }], guard := none } : Oper)) rfl (fun K hK => ?_) AllReadyH.nil
  go_simp
  go_at_call 41
  refine (blows_any ⟨pl, wi, fl, st⟩ n mx HX.out _).mono ?_
  rintro e9 w3 ⟨rfl, hb⟩
  have hb3 := (Bl.d1 w2).tr hb
  have r0 := kcb hb r0
  have r1 := kcb hb r1
  have s0 := kcb hb s0
  have s1 := kcb hb s1
  have s2 := kcb hb s2
  have s3 := kcb hb s3
  have e0 := kcb hb e0
  have e1 := kcb hb e1
  have e2 := kcb hb e2
  have c0 := kcb hb c0
  have c1 := kcb hb c1
  have c2 := kcb hb c2
  have c3 := kcb hb c3
  have y0 := fzb hb3 y0 (by omega)
  have z0 := fzb hb3 z0 (by omega)
  have y1 := fzb hb3 y1 (by omega)
  have z1 := fzb hb3 z1 (by omega)
  have y2 := fzb hb3 y2 (by omega)
  have z2 := fzb hb3 z2 (by omega)
  have y3 := fzb hb3 y3 (by omega)
  have z3 := fzb hb3 z3 (by omega)
  have B3 := B2.tr hb3
  have l3 := ltb c0
  refine hK.out _ _ ⟨hH.1.tr hb, kcb hb hH.2.1, kcb hb hH.2.2.1, kcb hb hH.2.2.2.1, kcb hb hH.2.2.2.2⟩ (fun hH' => ?_)
  clear hH
  have hH := hH'
  clear hH' hK K
  try simp only [Act.put, List.setIfInBounds_toArray, List.set_cons_zero, List.set_cons_succ]
  refine wpAnyH_ready (rs := [9]) (by kernel_rfl) (by simp) ?_
  refine AllReadyH.cons (o := ({ dst := none, op := Go.Op.store 53 (Go.Operand.tmp 4) (Go.Operand.tmp 38), type := 0, pos := "run.go:109", after := #[{ on := 8, ground := Go.Ground.data }, { on := 8, ground := Go.Ground.chain }, { on := 0, ground := Go.Ground.phase }, { on := 1, ground := Go.Ground.phase }, { on := 2, ground := Go.Ground.phase }, { on := 3, ground := Go.Ground.phase }, { on := 4, ground := Go.Ground.phase }, { on := 5, ground := Go.Ground.phase }, { on := 6, ground := Go.Ground.phase }, { on := 7, ground := Go.Ground.phase }, { on := 8, ground := Go.Ground.phase }], guard := none } : Oper)) rfl (fun K hK => ?_) AllReadyH.nil
  go_simp
  refine hK.out _ _ ⟨by go_grown, by go_cell, by go_cell, by go_cell, by go_cell⟩ (fun hH' => ?_)
  clear hH' hK K
  try simp only [Act.put, List.setIfInBounds_toArray, List.set_cons_zero, List.set_cons_succ]
  refine wpAnyH_done (by kernel_rfl) ?_ _
  refine NoPanic.normal ?_
  obtain ⟨V, hV⟩ : ∃ V, V = ((((w3).setCell ⟨w.heap.size + 1, 0, none⟩ (.int .i64 pl)).setCell ⟨w.heap.size + 1, 1, none⟩ (.int .i64 mx)).setCell ⟨w.heap.size + 1, 2, none⟩ (.bool fl)).setCell ⟨w.heap.size + 1, 3, none⟩ (.int .i64 st) := ⟨_, rfl⟩
  have BV : Bl w V := by rw [hV]; go_grown
  have s0 : V.cell? ⟨w.heap.size + 1, 0, none⟩ = some (.int .i64 pl) := by rw [hV]; go_cell
  have s1 : V.cell? ⟨w.heap.size + 1, 1, none⟩ = some (.int .i64 mx) := by rw [hV]; go_cell
  have s2 : V.cell? ⟨w.heap.size + 1, 2, none⟩ = some (.bool fl) := by rw [hV]; go_cell
  have s3 : V.cell? ⟨w.heap.size + 1, 3, none⟩ = some (.int .i64 st) := by rw [hV]; go_cell
  have e0 : V.cell? ⟨w.heap.size + 1 + 1, 0, none⟩ = some (.int .i64 t) := by rw [hV]; go_cell
  have c0 : V.cell? ⟨w.heap.size + 1 + 1 + 1, 0, none⟩ = some (.int .i64 0) := by rw [hV]; go_cell
  have c1 : V.cell? ⟨w.heap.size + 1 + 1 + 1, 1, none⟩ = some (.int .i64 0) := by rw [hV]; go_cell
  have c2 : V.cell? ⟨w.heap.size + 1 + 1 + 1, 2, none⟩ = some (.bool false) := by rw [hV]; go_cell
  have c3 : V.cell? ⟨w.heap.size + 1 + 1 + 1, 3, none⟩ = some (.int .i64 0) := by rw [hV]; go_cell
  have y0 : V.frozen? ⟨w.heap.size + 1, 0, none⟩ = false := by rw [hV]; simp only [World.frozen?_setCell]; exact y0
  have z0 : V.frozen? ⟨w.heap.size + 1 + 1 + 1, 0, none⟩ = false := by rw [hV]; simp only [World.frozen?_setCell]; exact z0
  have y1 : V.frozen? ⟨w.heap.size + 1, 1, none⟩ = false := by rw [hV]; simp only [World.frozen?_setCell]; exact y1
  have z1 : V.frozen? ⟨w.heap.size + 1 + 1 + 1, 1, none⟩ = false := by rw [hV]; simp only [World.frozen?_setCell]; exact z1
  have y2 : V.frozen? ⟨w.heap.size + 1, 2, none⟩ = false := by rw [hV]; simp only [World.frozen?_setCell]; exact y2
  have z2 : V.frozen? ⟨w.heap.size + 1 + 1 + 1, 2, none⟩ = false := by rw [hV]; simp only [World.frozen?_setCell]; exact z2
  have y3 : V.frozen? ⟨w.heap.size + 1, 3, none⟩ = false := by rw [hV]; simp only [World.frozen?_setCell]; exact y3
  have z3 : V.frozen? ⟨w.heap.size + 1 + 1 + 1, 3, none⟩ = false := by rw [hV]; simp only [World.frozen?_setCell]; exact z3
  rw [← hV]
  clear hV hH e1 e2 r0 r1
  have lV := ltb c0
  go_wp2_with fail
  exact bodyPost_ret (v := .tuple #[.agg #[.int .i64 pl, .int .i64 mx, .bool fl, .int .i64 t], .int .i64 0]) (by simp [results, Tryd.results36, go_sem, c0, c1, c2, c3, z0, z1, z2, z3]) rfl ⟨by rw [HS.out], by go_grown⟩
set_option maxRecDepth 100000 in
set_option maxHeartbeats 3200000 in
theorem next_2 (M : Mst) (hM : VM M) (x g1 g2 i1 g0 i2 g3 : Nat) (pl wi : Int) (fl : Bool) (st t n : Int) (w : World) (hR : RulesAt w M x g1 g2 i1 g0 i2 g3) (hv : VE ⟨t, 2, n⟩) (ht : st ≤ t) :
    Calls Tryd.prog 36 #[RV x g1 g2 i1 g0 i2 g3, .agg #[.int .i64 pl, .int .i64 wi, .bool fl, .int .i64 st], .agg #[.int .i64 t, .int .i64 2, .int .i64 n]] w fun e w' => e = .returned (.tuple #[encB (stp M ⟨pl, wi, fl, st⟩ ⟨t, 2, n⟩).1, .int .i64 (stp M ⟨pl, wi, fl, st⟩ ⟨t, 2, n⟩).2]) ∧ Bl w w' := by
  have RR := Lib.hid (fun w' (h : Bl w w') => hR.below h)
  have HM := Lib.hid hM
  clear hR hM
  have Q := Lib.hid (show decide (VE ⟨t, 2, n⟩) = true from decide_eq_true hv)
  have HA := Lib.hid (show alw M ⟨pl, wi, fl, st⟩ 2 t ↔ (pl = 0 ∧ wi ≤ M.wi ∧ (bef M M.no t ∨ bef M (M.no + M.ag) t)) by simp [alw])
  have H1 := Lib.hid (show alw M ⟨pl, wi, fl, st⟩ 2 t → stp M ⟨pl, wi, fl, st⟩ ⟨t, 2, n⟩ = (⟨1, wi, fl, t⟩, 0) by intro h; unfold stp; rw [if_pos ⟨hv, ht⟩, if_pos h]; simp [doe])
  have H2 := Lib.hid (show ¬ alw M ⟨pl, wi, fl, st⟩ 2 t → stp M ⟨pl, wi, fl, st⟩ ⟨t, 2, n⟩ = (Bal.zero, 9) by intro h; unfold stp; rw [if_pos ⟨hv, ht⟩, if_neg h])
  clear hv
  by_cases q : decide (pl = 0 ∧ wi ≤ M.wi ∧ (bef M M.no t ∨ bef M (M.no + M.ag) t)) = true
  · have AX := Lib.hid q
    have HS := Lib.hid (H1.out (HA.out.2 (of_decide_eq_true q)))
    clear q
    go_enter Tryd.func36, Tryd.ntmps36
    go_wp2_with fail
    refine (isEvent_any ⟨t, 2, n⟩ _).mono ?_
    rintro e1 w1 ⟨rfl, hb⟩
    have r0 := kcb hb (b := w.heap.size) (o := 4) (v := .func (.func 37) #[] #[.pointer (some ⟨x, 0, none⟩)]) (by go_cell)
    have r1 := kcb hb (b := w.heap.size) (o := 5) (v := .func (.func 47) #[] #[.pointer (some ⟨g1, 0, none⟩)]) (by go_cell)
    have s0 := kcb hb (b := w.heap.size + 1) (o := 0) (v := .int .i64 pl) (by go_cell)
    have s1 := kcb hb (b := w.heap.size + 1) (o := 1) (v := .int .i64 wi) (by go_cell)
    have s2 := kcb hb (b := w.heap.size + 1) (o := 2) (v := .bool fl) (by go_cell)
    have s3 := kcb hb (b := w.heap.size + 1) (o := 3) (v := .int .i64 st) (by go_cell)
    have e0 := kcb hb (b := w.heap.size + 1 + 1) (o := 0) (v := .int .i64 t) (by go_cell)
    have e1 := kcb hb (b := w.heap.size + 1 + 1) (o := 1) (v := .int .i64 2) (by go_cell)
    have e2 := kcb hb (b := w.heap.size + 1 + 1) (o := 2) (v := .int .i64 n) (by go_cell)
    have c0 := kcb hb (b := w.heap.size + 1 + 1 + 1) (o := 0) (v := .int .i64 0) (by go_cell)
    have c1 := kcb hb (b := w.heap.size + 1 + 1 + 1) (o := 1) (v := .int .i64 0) (by go_cell)
    have c2 := kcb hb (b := w.heap.size + 1 + 1 + 1) (o := 2) (v := .bool false) (by go_cell)
    have c3 := kcb hb (b := w.heap.size + 1 + 1 + 1) (o := 3) (v := .int .i64 0) (by go_cell)
    have y0 := fzb hb (b := w.heap.size + 1) (o := 0) (by (try simp only [frozen?_alloc_cells, World.frozen?_setCell]); first | assumption | exact fz_new (by (try simp only [World.size_alloc, World.size_setCell]); omega)) (by (try simp only [World.size_alloc, World.size_setCell]); omega)
    have y1 := fzb hb (b := w.heap.size + 1) (o := 1) (by (try simp only [frozen?_alloc_cells, World.frozen?_setCell]); first | assumption | exact fz_new (by (try simp only [World.size_alloc, World.size_setCell]); omega)) (by (try simp only [World.size_alloc, World.size_setCell]); omega)
    have y2 := fzb hb (b := w.heap.size + 1) (o := 2) (by (try simp only [frozen?_alloc_cells, World.frozen?_setCell]); first | assumption | exact fz_new (by (try simp only [World.size_alloc, World.size_setCell]); omega)) (by (try simp only [World.size_alloc, World.size_setCell]); omega)
    have y3 := fzb hb (b := w.heap.size + 1) (o := 3) (by (try simp only [frozen?_alloc_cells, World.frozen?_setCell]); first | assumption | exact fz_new (by (try simp only [World.size_alloc, World.size_setCell]); omega)) (by (try simp only [World.size_alloc, World.size_setCell]); omega)
    have z0 := fzb hb (b := w.heap.size + 1 + 1 + 1) (o := 0) (by (try simp only [frozen?_alloc_cells, World.frozen?_setCell]); first | assumption | exact fz_new (by (try simp only [World.size_alloc, World.size_setCell]); omega)) (by (try simp only [World.size_alloc, World.size_setCell]); omega)
    have z1 := fzb hb (b := w.heap.size + 1 + 1 + 1) (o := 1) (by (try simp only [frozen?_alloc_cells, World.frozen?_setCell]); first | assumption | exact fz_new (by (try simp only [World.size_alloc, World.size_setCell]); omega)) (by (try simp only [World.size_alloc, World.size_setCell]); omega)
    have z2 := fzb hb (b := w.heap.size + 1 + 1 + 1) (o := 2) (by (try simp only [frozen?_alloc_cells, World.frozen?_setCell]); first | assumption | exact fz_new (by (try simp only [World.size_alloc, World.size_setCell]); omega)) (by (try simp only [World.size_alloc, World.size_setCell]); omega)
    have z3 := fzb hb (b := w.heap.size + 1 + 1 + 1) (o := 3) (by (try simp only [frozen?_alloc_cells, World.frozen?_setCell]); first | assumption | exact fz_new (by (try simp only [World.size_alloc, World.size_setCell]); omega)) (by (try simp only [World.size_alloc, World.size_setCell]); omega)
    have B1 : Bl w w1 := Below.trans (by go_grown) (hb.mono (by (try simp only [World.size_alloc]); omega))
    have l1 := ltb c0
    clear hb
    rw [Q.out]
    go_wp2_with fail
    refine wp_region_noPanic ?_
    refine wp_region_held_drew (S := fun w' => Bl w w' ∧ w'.cell? ⟨w.heap.size, 4, none⟩ = some (.func (.func 37) #[] #[.pointer (some ⟨x, 0, none⟩)]) ∧ w'.cell? ⟨w.heap.size + 1, 0, none⟩ = some (.int .i64 pl) ∧ w'.cell? ⟨w.heap.size + 1, 1, none⟩ = some (.int .i64 wi) ∧ w'.cell? ⟨w.heap.size + 1, 2, none⟩ = some (.bool fl) ∧ w'.cell? ⟨w.heap.size + 1, 3, none⟩ = some (.int .i64 st) ∧ w'.cell? ⟨w.heap.size + 1 + 1, 0, none⟩ = some (.int .i64 t) ∧ w'.cell? ⟨w.heap.size + 1 + 1, 1, none⟩ = some (.int .i64 2)) (by kernel_rfl) (⟨B1.tr (Bl.d1 _), kcb (Bl.d1 _) r0, kcb (Bl.d1 _) s0, kcb (Bl.d1 _) s1, kcb (Bl.d1 _) s2, kcb (Bl.d1 _) s3, kcb (Bl.d1 _) e0, kcb (Bl.d1 _) e1⟩) (fun hH => ?_)
    refine wpAnyH_take (i := 0) (oi := ({ dst := some 19, op := Go.Op.fieldAddr 38 (Go.Operand.tmp 5) 1, type := 0, pos := "run.go:106", after := #[], guard := none } : Oper)) (v := ?_) rfl (by kernel_rfl) (by kernel_rfl) (by kernel_rfl) (fun _ _ _ h => h) (Or.inl ⟨by rfl, ?_⟩) hH ?_
    rotate_left
    · intro w hSw; (try dsimp only at hSw); go_simp; try with_reducible rfl
    try simp only [Act.put, List.setIfInBounds_toArray, List.set_cons_zero, List.set_cons_succ]
    refine wpAnyH_take (i := 1) (oi := ({ dst := some 20, op := Go.Op.load 3 (Go.Operand.tmp 19), type := 3, pos := "run.go:106", after := #[{ on := 0, ground := Go.Ground.data }], guard := none } : Oper)) (v := ?_) rfl (by kernel_rfl) (by kernel_rfl) (by kernel_rfl) (fun _ _ _ h => h) (Or.inl ⟨by rfl, ?_⟩) hH ?_
    rotate_left
    · intro w hSw; (try dsimp only at hSw); go_simp; try with_reducible rfl
    try simp only [Act.put, List.setIfInBounds_toArray, List.set_cons_zero, List.set_cons_succ]
    refine wpAnyH_take (i := 2) (oi := ({ dst := some 21, op := Go.Op.indexAddr 75 (Go.Operand.tmp 3) (Go.Operand.tmp 20), type := 0, pos := "run.go:106", after := #[{ on := 1, ground := Go.Ground.data }], guard := none } : Oper)) (v := ?_) rfl (by kernel_rfl) (by kernel_rfl) (by kernel_rfl) (fun _ _ _ h => h) (Or.inl ⟨by rfl, ?_⟩) hH ?_
    rotate_left
    · intro w hSw; (try dsimp only at hSw); go_simp; try with_reducible rfl
    try simp only [Act.put, List.setIfInBounds_toArray, List.set_cons_zero, List.set_cons_succ]
    refine wpAnyH_take (i := 3) (oi := ({ dst := some 22, op := Go.Op.fieldAddr 73 (Go.Operand.tmp 21) 0, type := 0, pos := "run.go:106", after := #[{ on := 2, ground := Go.Ground.data }], guard := none } : Oper)) (v := ?_) rfl (by kernel_rfl) (by kernel_rfl) (by kernel_rfl) (fun _ _ _ h => h) (Or.inl ⟨by rfl, ?_⟩) hH ?_
    rotate_left
    · intro w hSw; (try dsimp only at hSw); go_simp; try with_reducible rfl
    try simp only [Act.put, List.setIfInBounds_toArray, List.set_cons_zero, List.set_cons_succ]
    refine wpAnyH_take (i := 4) (oi := ({ dst := some 23, op := Go.Op.load 70 (Go.Operand.tmp 22), type := 70, pos := "run.go:106", after := #[{ on := 3, ground := Go.Ground.data }], guard := none } : Oper)) (v := ?_) rfl (by kernel_rfl) (by kernel_rfl) (by kernel_rfl) (fun _ _ _ h => h) (Or.inl ⟨by rfl, ?_⟩) hH ?_
    rotate_left
    · intro w hSw; (try dsimp only at hSw); go_simp; try with_reducible rfl
    try simp only [Act.put, List.setIfInBounds_toArray, List.set_cons_zero, List.set_cons_succ]
    refine wpAnyH_take (i := 5) (oi := ({ dst := some 24, op := Go.Op.load 53 (Go.Operand.tmp 4), type := 53, pos := "run.go:106", after := #[], guard := none } : Oper)) (v := ?_) rfl (by kernel_rfl) (by kernel_rfl) (by kernel_rfl) (fun _ _ _ h => h) (Or.inl ⟨by rfl, ?_⟩) hH ?_
    rotate_left
    · intro w hSw; (try dsimp only at hSw); go_simp; try with_reducible rfl
    try simp only [Act.put, List.setIfInBounds_toArray, List.set_cons_zero, List.set_cons_succ]
    refine wpAnyH_take (i := 6) (oi := ({ dst := some 25, op := Go.Op.fieldAddr 38 (Go.Operand.tmp 5) 0, type := 0, pos := "run.go:106", after := #[], guard := none } : Oper)) (v := ?_) rfl (by kernel_rfl) (by kernel_rfl) (by kernel_rfl) (fun _ _ _ h => h) (Or.inl ⟨by rfl, ?_⟩) hH ?_
    rotate_left
    · intro w hSw; (try dsimp only at hSw); go_simp; try with_reducible rfl
    try simp only [Act.put, List.setIfInBounds_toArray, List.set_cons_zero, List.set_cons_succ]
    refine wpAnyH_take (i := 7) (oi := ({ dst := some 26, op := Go.Op.load 3 (Go.Operand.tmp 25), type := 3, pos := "run.go:106", after := #[{ on := 6, ground := Go.Ground.data }], guard := none } : Oper)) (v := ?_) rfl (by kernel_rfl) (by kernel_rfl) (by kernel_rfl) (fun _ _ _ h => h) (Or.inl ⟨by rfl, ?_⟩) hH ?_
    rotate_left
    · intro w hSw; (try dsimp only at hSw); go_simp; try with_reducible rfl
    try simp only [Act.put, List.setIfInBounds_toArray, List.set_cons_zero, List.set_cons_succ]
    refine wpAnyH_ready (rs := [8]) (by kernel_rfl) (by simp) ?_
    refine AllReadyH.cons (o := ({ dst := some 27, op := Go.Op.call { callee := Go.Callee.value (Go.Operand.tmp 23), args := #[Go.Operand.tmp 24, Go.Operand.tmp 26], argTypes := #[53, 3] }, type := 4, pos := "run.go:106", after := #[{ on := 4, ground := Go.Ground.data }, { on := 5, ground := Go.Ground.data }, { on := 7, ground := Go.Ground.data }], guard := none } : Oper)) rfl (fun K hK => ?_) AllReadyH.nil
    go_simp
    go_at_call 37
    refine (raises_any M HM.out ⟨pl, wi, fl, st⟩ t x _ (RR.out _ hH.1).mast).mono ?_
    rintro e9 w2 ⟨rfl, hb⟩
    have hb2 := (Bl.d1 w1).tr hb
    rw [AX.out]
    have r0 := kcb hb2 r0
    have r1 := kcb hb2 r1
    have s0 := kcb hb2 s0
    have s1 := kcb hb2 s1
    have s2 := kcb hb2 s2
    have s3 := kcb hb2 s3
    have e0 := kcb hb2 e0
    have e1 := kcb hb2 e1
    have e2 := kcb hb2 e2
    have c0 := kcb hb2 c0
    have c1 := kcb hb2 c1
    have c2 := kcb hb2 c2
    have c3 := kcb hb2 c3
    have y0 := fzb hb2 y0 (by omega)
    have z0 := fzb hb2 z0 (by omega)
    have y1 := fzb hb2 y1 (by omega)
    have z1 := fzb hb2 z1 (by omega)
    have y2 := fzb hb2 y2 (by omega)
    have z2 := fzb hb2 z2 (by omega)
    have y3 := fzb hb2 y3 (by omega)
    have z3 := fzb hb2 z3 (by omega)
    have B2 := B1.tr hb2
    have l2 := ltb c0
    refine hK.out _ _ ⟨hH.1.tr hb, kcb hb hH.2.1, kcb hb hH.2.2.1, kcb hb hH.2.2.2.1, kcb hb hH.2.2.2.2.1, kcb hb hH.2.2.2.2.2.1, kcb hb hH.2.2.2.2.2.2.1, kcb hb hH.2.2.2.2.2.2.2⟩ (fun hH' => ?_)
    clear hH
    have hH := hH'
    clear hH' hK K
    try simp only [Act.put, List.setIfInBounds_toArray, List.set_cons_zero, List.set_cons_succ]
    refine wpAnyH_take (i := 9) (oi := ({ dst := some 28, op := Go.Op.unOp Go.UnOp.not 4 (Go.Operand.tmp 27), type := 4, pos := "run.go:106", after := #[{ on := 8, ground := Go.Ground.data }], guard := none } : Oper)) (v := ?_) rfl (by kernel_rfl) (by kernel_rfl) (by kernel_rfl) (fun _ _ _ h => h) (Or.inl ⟨by rfl, ?_⟩) hH ?_
    rotate_left
    · intro w hSw; (try dsimp only at hSw); go_simp; try with_reducible rfl
    try simp only [Act.put, List.setIfInBounds_toArray, List.set_cons_zero, List.set_cons_succ]
    refine wpAnyH_done (by kernel_rfl) ?_ _
    refine NoPanic.normal ?_
    go_wp2_with fail
    refine wp_region_noPanic ?_
    refine wp_region_held_drew (S := fun w' => Bl w w' ∧ w'.cell? ⟨w.heap.size, 5, none⟩ = some (.func (.func 47) #[] #[.pointer (some ⟨g1, 0, none⟩)]) ∧ w'.cell? ⟨w.heap.size + 1 + 1, 0, none⟩ = some (.int .i64 t) ∧ w'.cell? ⟨w.heap.size + 1 + 1, 1, none⟩ = some (.int .i64 2) ∧ w'.cell? ⟨w.heap.size + 1 + 1, 2, none⟩ = some (.int .i64 n)) (by kernel_rfl) (⟨B2.tr (Bl.d1 _), kcb (Bl.d1 _) r1, kcb (Bl.d1 _) e0, kcb (Bl.d1 _) e1, kcb (Bl.d1 _) e2⟩) (fun hH => ?_)
    refine wpAnyH_take (i := 0) (oi := ({ dst := some 30, op := Go.Op.fieldAddr 38 (Go.Operand.tmp 5) 1, type := 0, pos := "run.go:109", after := #[], guard := none } : Oper)) (v := ?_) rfl (by kernel_rfl) (by kernel_rfl) (by kernel_rfl) (fun _ _ _ h => h) (Or.inl ⟨by rfl, ?_⟩) hH ?_
    rotate_left
    · intro w hSw; (try dsimp only at hSw); go_simp; try with_reducible rfl
    try simp only [Act.put, List.setIfInBounds_toArray, List.set_cons_zero, List.set_cons_succ]
    refine wpAnyH_take (i := 1) (oi := ({ dst := some 31, op := Go.Op.load 3 (Go.Operand.tmp 30), type := 3, pos := "run.go:109", after := #[{ on := 0, ground := Go.Ground.data }], guard := none } : Oper)) (v := ?_) rfl (by kernel_rfl) (by kernel_rfl) (by kernel_rfl) (fun _ _ _ h => h) (Or.inl ⟨by rfl, ?_⟩) hH ?_
    rotate_left
    · intro w hSw; (try dsimp only at hSw); go_simp; try with_reducible rfl
    try simp only [Act.put, List.setIfInBounds_toArray, List.set_cons_zero, List.set_cons_succ]
    refine wpAnyH_take (i := 2) (oi := ({ dst := some 32, op := Go.Op.indexAddr 75 (Go.Operand.tmp 3) (Go.Operand.tmp 31), type := 0, pos := "run.go:109", after := #[{ on := 1, ground := Go.Ground.data }], guard := none } : Oper)) (v := ?_) rfl (by kernel_rfl) (by kernel_rfl) (by kernel_rfl) (fun _ _ _ h => h) (Or.inl ⟨by rfl, ?_⟩) hH ?_
    rotate_left
    · intro w hSw; (try dsimp only at hSw); go_simp; try with_reducible rfl
    try simp only [Act.put, List.setIfInBounds_toArray, List.set_cons_zero, List.set_cons_succ]
    refine wpAnyH_take (i := 3) (oi := ({ dst := some 33, op := Go.Op.fieldAddr 73 (Go.Operand.tmp 32) 1, type := 0, pos := "run.go:109", after := #[{ on := 2, ground := Go.Ground.data }], guard := none } : Oper)) (v := ?_) rfl (by kernel_rfl) (by kernel_rfl) (by kernel_rfl) (fun _ _ _ h => h) (Or.inl ⟨by rfl, ?_⟩) hH ?_
    rotate_left
    · intro w hSw; (try dsimp only at hSw); go_simp; try with_reducible rfl
    try simp only [Act.put, List.setIfInBounds_toArray, List.set_cons_zero, List.set_cons_succ]
    refine wpAnyH_take (i := 4) (oi := ({ dst := some 34, op := Go.Op.load 71 (Go.Operand.tmp 33), type := 71, pos := "run.go:109", after := #[{ on := 3, ground := Go.Ground.data }], guard := none } : Oper)) (v := ?_) rfl (by kernel_rfl) (by kernel_rfl) (by kernel_rfl) (fun _ _ _ h => h) (Or.inl ⟨by rfl, ?_⟩) hH ?_
    rotate_left
    · intro w hSw; (try dsimp only at hSw); go_simp; try with_reducible rfl
    try simp only [Act.put, List.setIfInBounds_toArray, List.set_cons_zero, List.set_cons_succ]
    refine wpAnyH_take (i := 6) (oi := ({ dst := some 36, op := Go.Op.fieldAddr 38 (Go.Operand.tmp 5) 2, type := 0, pos := "run.go:109", after := #[], guard := none } : Oper)) (v := ?_) rfl (by kernel_rfl) (by kernel_rfl) (by kernel_rfl) (fun _ _ _ h => h) (Or.inl ⟨by rfl, ?_⟩) hH ?_
    rotate_left
    · intro w hSw; (try dsimp only at hSw); go_simp; try with_reducible rfl
    try simp only [Act.put, List.setIfInBounds_toArray, List.set_cons_zero, List.set_cons_succ]
    refine wpAnyH_take (i := 7) (oi := ({ dst := some 37, op := Go.Op.load 3 (Go.Operand.tmp 36), type := 3, pos := "run.go:109", after := #[{ on := 6, ground := Go.Ground.data }], guard := none } : Oper)) (v := ?_) rfl (by kernel_rfl) (by kernel_rfl) (by kernel_rfl) (fun _ _ _ h => h) (Or.inl ⟨by rfl, ?_⟩) hH ?_
    rotate_left
    · intro w hSw; (try dsimp only at hSw); go_simp; try with_reducible rfl
    try simp only [Act.put, List.setIfInBounds_toArray, List.set_cons_zero, List.set_cons_succ]
    refine wpAnyH_ready (rs := [5]) (by kernel_rfl) (by simp) ?_
    refine AllReadyH.cons (o := ({ dst := some 35, op := Go.Op.load 53 (Go.Operand.tmp 4), type := 53, pos := "run.go:109", after := #[], guard := none } : Oper)) rfl (fun K hK => ?_) AllReadyH.nil
    go_simp
    have r0 := kcb (Bl.d1 w2) r0
    have r1 := kcb (Bl.d1 w2) r1
    have s0 := kcb (Bl.d1 w2) s0
    have s1 := kcb (Bl.d1 w2) s1
    have s2 := kcb (Bl.d1 w2) s2
    have s3 := kcb (Bl.d1 w2) s3
    have e0 := kcb (Bl.d1 w2) e0
    have e1 := kcb (Bl.d1 w2) e1
    have e2 := kcb (Bl.d1 w2) e2
    have c0 := kcb (Bl.d1 w2) c0
    have c1 := kcb (Bl.d1 w2) c1
    have c2 := kcb (Bl.d1 w2) c2
    have c3 := kcb (Bl.d1 w2) c3
    refine hK.out _ _ hH (fun hH' => ?_)
    clear hH' hK K
    try simp only [Act.put, List.setIfInBounds_toArray, List.set_cons_zero, List.set_cons_succ]
    refine wpAnyH_ready (rs := [8]) (by kernel_rfl) (by simp) ?_
    refine AllReadyH.cons (o := ({ dst := some 38, op := Go.Op.call { callee := Go.Callee.value (Go.Operand.tmp 34), args := #[Go.Operand.tmp 35, Go.Operand.tmp 37], argTypes := #[53, 3] }, type := 53, pos := "run.go:109", after := #[{ on := 4, ground := Go.Ground.data }, { on := 5, ground := Go.Ground.data }, { on := 7, ground := Go.Ground.data }], guard := none } : Oper)) rfl (fun K hK => ?_) AllReadyH.nil
    go_simp
    go_at_call 47
    refine (goes1_any ⟨pl, wi, fl, st⟩ n 1 g1 _ (RR.out _ hH.1).c1).mono ?_
    rintro e9 w3 ⟨rfl, hb⟩
    have hb3 := (Bl.d1 w2).tr hb
    have r0 := kcb hb r0
    have r1 := kcb hb r1
    have s0 := kcb hb s0
    have s1 := kcb hb s1
    have s2 := kcb hb s2
    have s3 := kcb hb s3
    have e0 := kcb hb e0
    have e1 := kcb hb e1
    have e2 := kcb hb e2
    have c0 := kcb hb c0
    have c1 := kcb hb c1
    have c2 := kcb hb c2
    have c3 := kcb hb c3
    have y0 := fzb hb3 y0 (by omega)
    have z0 := fzb hb3 z0 (by omega)
    have y1 := fzb hb3 y1 (by omega)
    have z1 := fzb hb3 z1 (by omega)
    have y2 := fzb hb3 y2 (by omega)
    have z2 := fzb hb3 z2 (by omega)
    have y3 := fzb hb3 y3 (by omega)
    have z3 := fzb hb3 z3 (by omega)
    have B3 := B2.tr hb3
    have l3 := ltb c0
    refine hK.out _ _ ⟨hH.1.tr hb, kcb hb hH.2.1, kcb hb hH.2.2.1, kcb hb hH.2.2.2.1, kcb hb hH.2.2.2.2⟩ (fun hH' => ?_)
    clear hH
    have hH := hH'
    clear hH' hK K
    try simp only [Act.put, List.setIfInBounds_toArray, List.set_cons_zero, List.set_cons_succ]
    refine wpAnyH_ready (rs := [9]) (by kernel_rfl) (by simp) ?_
    refine AllReadyH.cons (o := ({ dst := none, op := Go.Op.store 53 (Go.Operand.tmp 4) (Go.Operand.tmp 38), type := 0, pos := "run.go:109", after := #[{ on := 8, ground := Go.Ground.data }, { on := 8, ground := Go.Ground.chain }, { on := 0, ground := Go.Ground.phase }, { on := 1, ground := Go.Ground.phase }, { on := 2, ground := Go.Ground.phase }, { on := 3, ground := Go.Ground.phase }, { on := 4, ground := Go.Ground.phase }, { on := 5, ground := Go.Ground.phase }, { on := 6, ground := Go.Ground.phase }, { on := 7, ground := Go.Ground.phase }, { on := 8, ground := Go.Ground.phase }], guard := none } : Oper)) rfl (fun K hK => ?_) AllReadyH.nil
    go_simp
    refine hK.out _ _ ⟨by go_grown, by go_cell, by go_cell, by go_cell, by go_cell⟩ (fun hH' => ?_)
    clear hH' hK K
    try simp only [Act.put, List.setIfInBounds_toArray, List.set_cons_zero, List.set_cons_succ]
    refine wpAnyH_done (by kernel_rfl) ?_ _
    refine NoPanic.normal ?_
    obtain ⟨V, hV⟩ : ∃ V, V = ((((w3).setCell ⟨w.heap.size + 1, 0, none⟩ (.int .i64 1)).setCell ⟨w.heap.size + 1, 1, none⟩ (.int .i64 wi)).setCell ⟨w.heap.size + 1, 2, none⟩ (.bool fl)).setCell ⟨w.heap.size + 1, 3, none⟩ (.int .i64 st) := ⟨_, rfl⟩
    have BV : Bl w V := by rw [hV]; go_grown
    have s0 : V.cell? ⟨w.heap.size + 1, 0, none⟩ = some (.int .i64 1) := by rw [hV]; go_cell
    have s1 : V.cell? ⟨w.heap.size + 1, 1, none⟩ = some (.int .i64 wi) := by rw [hV]; go_cell
    have s2 : V.cell? ⟨w.heap.size + 1, 2, none⟩ = some (.bool fl) := by rw [hV]; go_cell
    have s3 : V.cell? ⟨w.heap.size + 1, 3, none⟩ = some (.int .i64 st) := by rw [hV]; go_cell
    have e0 : V.cell? ⟨w.heap.size + 1 + 1, 0, none⟩ = some (.int .i64 t) := by rw [hV]; go_cell
    have c0 : V.cell? ⟨w.heap.size + 1 + 1 + 1, 0, none⟩ = some (.int .i64 0) := by rw [hV]; go_cell
    have c1 : V.cell? ⟨w.heap.size + 1 + 1 + 1, 1, none⟩ = some (.int .i64 0) := by rw [hV]; go_cell
    have c2 : V.cell? ⟨w.heap.size + 1 + 1 + 1, 2, none⟩ = some (.bool false) := by rw [hV]; go_cell
    have c3 : V.cell? ⟨w.heap.size + 1 + 1 + 1, 3, none⟩ = some (.int .i64 0) := by rw [hV]; go_cell
    have y0 : V.frozen? ⟨w.heap.size + 1, 0, none⟩ = false := by rw [hV]; simp only [World.frozen?_setCell]; exact y0
    have z0 : V.frozen? ⟨w.heap.size + 1 + 1 + 1, 0, none⟩ = false := by rw [hV]; simp only [World.frozen?_setCell]; exact z0
    have y1 : V.frozen? ⟨w.heap.size + 1, 1, none⟩ = false := by rw [hV]; simp only [World.frozen?_setCell]; exact y1
    have z1 : V.frozen? ⟨w.heap.size + 1 + 1 + 1, 1, none⟩ = false := by rw [hV]; simp only [World.frozen?_setCell]; exact z1
    have y2 : V.frozen? ⟨w.heap.size + 1, 2, none⟩ = false := by rw [hV]; simp only [World.frozen?_setCell]; exact y2
    have z2 : V.frozen? ⟨w.heap.size + 1 + 1 + 1, 2, none⟩ = false := by rw [hV]; simp only [World.frozen?_setCell]; exact z2
    have y3 : V.frozen? ⟨w.heap.size + 1, 3, none⟩ = false := by rw [hV]; simp only [World.frozen?_setCell]; exact y3
    have z3 : V.frozen? ⟨w.heap.size + 1 + 1 + 1, 3, none⟩ = false := by rw [hV]; simp only [World.frozen?_setCell]; exact z3
    rw [← hV]
    clear hV hH e1 e2 r0 r1
    have lV := ltb c0
    go_wp2_with fail
    exact bodyPost_ret (v := .tuple #[.agg #[.int .i64 1, .int .i64 wi, .bool fl, .int .i64 t], .int .i64 0]) (by simp [results, Tryd.results36, go_sem, c0, c1, c2, c3, z0, z1, z2, z3]) rfl ⟨by rw [HS.out], by go_grown⟩
  · have AX := Lib.hid (show decide (pl = 0 ∧ wi ≤ M.wi ∧ (bef M M.no t ∨ bef M (M.no + M.ag) t)) = false by simpa using q)
    have HS := Lib.hid (H2.out (fun h => (fun h => q (decide_eq_true h)) (HA.out.1 h)))
    clear q
    go_enter Tryd.func36, Tryd.ntmps36
    go_wp2_with fail
    refine (isEvent_any ⟨t, 2, n⟩ _).mono ?_
    rintro e1 w1 ⟨rfl, hb⟩
    have r0 := kcb hb (b := w.heap.size) (o := 4) (v := .func (.func 37) #[] #[.pointer (some ⟨x, 0, none⟩)]) (by go_cell)
    have r1 := kcb hb (b := w.heap.size) (o := 5) (v := .func (.func 47) #[] #[.pointer (some ⟨g1, 0, none⟩)]) (by go_cell)
    have s0 := kcb hb (b := w.heap.size + 1) (o := 0) (v := .int .i64 pl) (by go_cell)
    have s1 := kcb hb (b := w.heap.size + 1) (o := 1) (v := .int .i64 wi) (by go_cell)
    have s2 := kcb hb (b := w.heap.size + 1) (o := 2) (v := .bool fl) (by go_cell)
    have s3 := kcb hb (b := w.heap.size + 1) (o := 3) (v := .int .i64 st) (by go_cell)
    have e0 := kcb hb (b := w.heap.size + 1 + 1) (o := 0) (v := .int .i64 t) (by go_cell)
    have e1 := kcb hb (b := w.heap.size + 1 + 1) (o := 1) (v := .int .i64 2) (by go_cell)
    have e2 := kcb hb (b := w.heap.size + 1 + 1) (o := 2) (v := .int .i64 n) (by go_cell)
    have c0 := kcb hb (b := w.heap.size + 1 + 1 + 1) (o := 0) (v := .int .i64 0) (by go_cell)
    have c1 := kcb hb (b := w.heap.size + 1 + 1 + 1) (o := 1) (v := .int .i64 0) (by go_cell)
    have c2 := kcb hb (b := w.heap.size + 1 + 1 + 1) (o := 2) (v := .bool false) (by go_cell)
    have c3 := kcb hb (b := w.heap.size + 1 + 1 + 1) (o := 3) (v := .int .i64 0) (by go_cell)
    have y0 := fzb hb (b := w.heap.size + 1) (o := 0) (by (try simp only [frozen?_alloc_cells, World.frozen?_setCell]); first | assumption | exact fz_new (by (try simp only [World.size_alloc, World.size_setCell]); omega)) (by (try simp only [World.size_alloc, World.size_setCell]); omega)
    have y1 := fzb hb (b := w.heap.size + 1) (o := 1) (by (try simp only [frozen?_alloc_cells, World.frozen?_setCell]); first | assumption | exact fz_new (by (try simp only [World.size_alloc, World.size_setCell]); omega)) (by (try simp only [World.size_alloc, World.size_setCell]); omega)
    have y2 := fzb hb (b := w.heap.size + 1) (o := 2) (by (try simp only [frozen?_alloc_cells, World.frozen?_setCell]); first | assumption | exact fz_new (by (try simp only [World.size_alloc, World.size_setCell]); omega)) (by (try simp only [World.size_alloc, World.size_setCell]); omega)
    have y3 := fzb hb (b := w.heap.size + 1) (o := 3) (by (try simp only [frozen?_alloc_cells, World.frozen?_setCell]); first | assumption | exact fz_new (by (try simp only [World.size_alloc, World.size_setCell]); omega)) (by (try simp only [World.size_alloc, World.size_setCell]); omega)
    have z0 := fzb hb (b := w.heap.size + 1 + 1 + 1) (o := 0) (by (try simp only [frozen?_alloc_cells, World.frozen?_setCell]); first | assumption | exact fz_new (by (try simp only [World.size_alloc, World.size_setCell]); omega)) (by (try simp only [World.size_alloc, World.size_setCell]); omega)
    have z1 := fzb hb (b := w.heap.size + 1 + 1 + 1) (o := 1) (by (try simp only [frozen?_alloc_cells, World.frozen?_setCell]); first | assumption | exact fz_new (by (try simp only [World.size_alloc, World.size_setCell]); omega)) (by (try simp only [World.size_alloc, World.size_setCell]); omega)
    have z2 := fzb hb (b := w.heap.size + 1 + 1 + 1) (o := 2) (by (try simp only [frozen?_alloc_cells, World.frozen?_setCell]); first | assumption | exact fz_new (by (try simp only [World.size_alloc, World.size_setCell]); omega)) (by (try simp only [World.size_alloc, World.size_setCell]); omega)
    have z3 := fzb hb (b := w.heap.size + 1 + 1 + 1) (o := 3) (by (try simp only [frozen?_alloc_cells, World.frozen?_setCell]); first | assumption | exact fz_new (by (try simp only [World.size_alloc, World.size_setCell]); omega)) (by (try simp only [World.size_alloc, World.size_setCell]); omega)
    have B1 : Bl w w1 := Below.trans (by go_grown) (hb.mono (by (try simp only [World.size_alloc]); omega))
    have l1 := ltb c0
    clear hb
    rw [Q.out]
    go_wp2_with fail
    refine wp_region_noPanic ?_
    refine wp_region_held_drew (S := fun w' => Bl w w' ∧ w'.cell? ⟨w.heap.size, 4, none⟩ = some (.func (.func 37) #[] #[.pointer (some ⟨x, 0, none⟩)]) ∧ w'.cell? ⟨w.heap.size + 1, 0, none⟩ = some (.int .i64 pl) ∧ w'.cell? ⟨w.heap.size + 1, 1, none⟩ = some (.int .i64 wi) ∧ w'.cell? ⟨w.heap.size + 1, 2, none⟩ = some (.bool fl) ∧ w'.cell? ⟨w.heap.size + 1, 3, none⟩ = some (.int .i64 st) ∧ w'.cell? ⟨w.heap.size + 1 + 1, 0, none⟩ = some (.int .i64 t) ∧ w'.cell? ⟨w.heap.size + 1 + 1, 1, none⟩ = some (.int .i64 2)) (by kernel_rfl) (⟨B1.tr (Bl.d1 _), kcb (Bl.d1 _) r0, kcb (Bl.d1 _) s0, kcb (Bl.d1 _) s1, kcb (Bl.d1 _) s2, kcb (Bl.d1 _) s3, kcb (Bl.d1 _) e0, kcb (Bl.d1 _) e1⟩) (fun hH => ?_)
    refine wpAnyH_take (i := 0) (oi := ({ dst := some 19, op := Go.Op.fieldAddr 38 (Go.Operand.tmp 5) 1, type := 0, pos := "run.go:106", after := #[], guard := none } : Oper)) (v := ?_) rfl (by kernel_rfl) (by kernel_rfl) (by kernel_rfl) (fun _ _ _ h => h) (Or.inl ⟨by rfl, ?_⟩) hH ?_
    rotate_left
    · intro w hSw; (try dsimp only at hSw); go_simp; try with_reducible rfl
    try simp only [Act.put, List.setIfInBounds_toArray, List.set_cons_zero, List.set_cons_succ]
    refine wpAnyH_take (i := 1) (oi := ({ dst := some 20, op := Go.Op.load 3 (Go.Operand.tmp 19), type := 3, pos := "run.go:106", after := #[{ on := 0, ground := Go.Ground.data }], guard := none } : Oper)) (v := ?_) rfl (by kernel_rfl) (by kernel_rfl) (by kernel_rfl) (fun _ _ _ h => h) (Or.inl ⟨by rfl, ?_⟩) hH ?_
    rotate_left
    · intro w hSw; (try dsimp only at hSw); go_simp; try with_reducible rfl
    try simp only [Act.put, List.setIfInBounds_toArray, List.set_cons_zero, List.set_cons_succ]
    refine wpAnyH_take (i := 2) (oi := ({ dst := some 21, op := Go.Op.indexAddr 75 (Go.Operand.tmp 3) (Go.Operand.tmp 20), type := 0, pos := "run.go:106", after := #[{ on := 1, ground := Go.Ground.data }], guard := none } : Oper)) (v := ?_) rfl (by kernel_rfl) (by kernel_rfl) (by kernel_rfl) (fun _ _ _ h => h) (Or.inl ⟨by rfl, ?_⟩) hH ?_
    rotate_left
    · intro w hSw; (try dsimp only at hSw); go_simp; try with_reducible rfl
    try simp only [Act.put, List.setIfInBounds_toArray, List.set_cons_zero, List.set_cons_succ]
    refine wpAnyH_take (i := 3) (oi := ({ dst := some 22, op := Go.Op.fieldAddr 73 (Go.Operand.tmp 21) 0, type := 0, pos := "run.go:106", after := #[{ on := 2, ground := Go.Ground.data }], guard := none } : Oper)) (v := ?_) rfl (by kernel_rfl) (by kernel_rfl) (by kernel_rfl) (fun _ _ _ h => h) (Or.inl ⟨by rfl, ?_⟩) hH ?_
    rotate_left
    · intro w hSw; (try dsimp only at hSw); go_simp; try with_reducible rfl
    try simp only [Act.put, List.setIfInBounds_toArray, List.set_cons_zero, List.set_cons_succ]
    refine wpAnyH_take (i := 4) (oi := ({ dst := some 23, op := Go.Op.load 70 (Go.Operand.tmp 22), type := 70, pos := "run.go:106", after := #[{ on := 3, ground := Go.Ground.data }], guard := none } : Oper)) (v := ?_) rfl (by kernel_rfl) (by kernel_rfl) (by kernel_rfl) (fun _ _ _ h => h) (Or.inl ⟨by rfl, ?_⟩) hH ?_
    rotate_left
    · intro w hSw; (try dsimp only at hSw); go_simp; try with_reducible rfl
    try simp only [Act.put, List.setIfInBounds_toArray, List.set_cons_zero, List.set_cons_succ]
    refine wpAnyH_take (i := 5) (oi := ({ dst := some 24, op := Go.Op.load 53 (Go.Operand.tmp 4), type := 53, pos := "run.go:106", after := #[], guard := none } : Oper)) (v := ?_) rfl (by kernel_rfl) (by kernel_rfl) (by kernel_rfl) (fun _ _ _ h => h) (Or.inl ⟨by rfl, ?_⟩) hH ?_
    rotate_left
    · intro w hSw; (try dsimp only at hSw); go_simp; try with_reducible rfl
    try simp only [Act.put, List.setIfInBounds_toArray, List.set_cons_zero, List.set_cons_succ]
    refine wpAnyH_take (i := 6) (oi := ({ dst := some 25, op := Go.Op.fieldAddr 38 (Go.Operand.tmp 5) 0, type := 0, pos := "run.go:106", after := #[], guard := none } : Oper)) (v := ?_) rfl (by kernel_rfl) (by kernel_rfl) (by kernel_rfl) (fun _ _ _ h => h) (Or.inl ⟨by rfl, ?_⟩) hH ?_
    rotate_left
    · intro w hSw; (try dsimp only at hSw); go_simp; try with_reducible rfl
    try simp only [Act.put, List.setIfInBounds_toArray, List.set_cons_zero, List.set_cons_succ]
    refine wpAnyH_take (i := 7) (oi := ({ dst := some 26, op := Go.Op.load 3 (Go.Operand.tmp 25), type := 3, pos := "run.go:106", after := #[{ on := 6, ground := Go.Ground.data }], guard := none } : Oper)) (v := ?_) rfl (by kernel_rfl) (by kernel_rfl) (by kernel_rfl) (fun _ _ _ h => h) (Or.inl ⟨by rfl, ?_⟩) hH ?_
    rotate_left
    · intro w hSw; (try dsimp only at hSw); go_simp; try with_reducible rfl
    try simp only [Act.put, List.setIfInBounds_toArray, List.set_cons_zero, List.set_cons_succ]
    refine wpAnyH_ready (rs := [8]) (by kernel_rfl) (by simp) ?_
    refine AllReadyH.cons (o := ({ dst := some 27, op := Go.Op.call { callee := Go.Callee.value (Go.Operand.tmp 23), args := #[Go.Operand.tmp 24, Go.Operand.tmp 26], argTypes := #[53, 3] }, type := 4, pos := "run.go:106", after := #[{ on := 4, ground := Go.Ground.data }, { on := 5, ground := Go.Ground.data }, { on := 7, ground := Go.Ground.data }], guard := none } : Oper)) rfl (fun K hK => ?_) AllReadyH.nil
    go_simp
    go_at_call 37
    refine (raises_any M HM.out ⟨pl, wi, fl, st⟩ t x _ (RR.out _ hH.1).mast).mono ?_
    rintro e9 w2 ⟨rfl, hb⟩
    have hb2 := (Bl.d1 w1).tr hb
    rw [AX.out]
    have r0 := kcb hb2 r0
    have r1 := kcb hb2 r1
    have s0 := kcb hb2 s0
    have s1 := kcb hb2 s1
    have s2 := kcb hb2 s2
    have s3 := kcb hb2 s3
    have e0 := kcb hb2 e0
    have e1 := kcb hb2 e1
    have e2 := kcb hb2 e2
    have c0 := kcb hb2 c0
    have c1 := kcb hb2 c1
    have c2 := kcb hb2 c2
    have c3 := kcb hb2 c3
    have y0 := fzb hb2 y0 (by omega)
    have z0 := fzb hb2 z0 (by omega)
    have y1 := fzb hb2 y1 (by omega)
    have z1 := fzb hb2 z1 (by omega)
    have y2 := fzb hb2 y2 (by omega)
    have z2 := fzb hb2 z2 (by omega)
    have y3 := fzb hb2 y3 (by omega)
    have z3 := fzb hb2 z3 (by omega)
    have B2 := B1.tr hb2
    have l2 := ltb c0
    refine hK.out _ _ ⟨hH.1.tr hb, kcb hb hH.2.1, kcb hb hH.2.2.1, kcb hb hH.2.2.2.1, kcb hb hH.2.2.2.2.1, kcb hb hH.2.2.2.2.2.1, kcb hb hH.2.2.2.2.2.2.1, kcb hb hH.2.2.2.2.2.2.2⟩ (fun hH' => ?_)
    clear hH
    have hH := hH'
    clear hH' hK K
    try simp only [Act.put, List.setIfInBounds_toArray, List.set_cons_zero, List.set_cons_succ]
    refine wpAnyH_take (i := 9) (oi := ({ dst := some 28, op := Go.Op.unOp Go.UnOp.not 4 (Go.Operand.tmp 27), type := 4, pos := "run.go:106", after := #[{ on := 8, ground := Go.Ground.data }], guard := none } : Oper)) (v := ?_) rfl (by kernel_rfl) (by kernel_rfl) (by kernel_rfl) (fun _ _ _ h => h) (Or.inl ⟨by rfl, ?_⟩) hH ?_
    rotate_left
    · intro w hSw; (try dsimp only at hSw); go_simp; try with_reducible rfl
    try simp only [Act.put, List.setIfInBounds_toArray, List.set_cons_zero, List.set_cons_succ]
    refine wpAnyH_done (by kernel_rfl) ?_ _
    refine NoPanic.normal ?_
    go_wp2_with fail
    exact bodyPost_ret (v := .tuple #[.agg #[.int .i64 0, .int .i64 0, .bool false, .int .i64 0], .int .i64 9]) (by simp [results, Tryd.results36, go_sem, c0, c1, c2, c3, z0, z1, z2, z3]) rfl ⟨by rw [HS.out], by go_grown⟩
set_option maxRecDepth 100000 in
set_option maxHeartbeats 3200000 in
theorem next_3 (M : Mst) (hM : VM M) (x g1 g2 i1 g0 i2 g3 : Nat) (pl wi : Int) (fl : Bool) (st t n : Int) (w : World) (hR : RulesAt w M x g1 g2 i1 g0 i2 g3) (hv : VE ⟨t, 3, n⟩) (ht : st ≤ t) :
    Calls Tryd.prog 36 #[RV x g1 g2 i1 g0 i2 g3, .agg #[.int .i64 pl, .int .i64 wi, .bool fl, .int .i64 st], .agg #[.int .i64 t, .int .i64 3, .int .i64 n]] w fun e w' => e = .returned (.tuple #[encB (stp M ⟨pl, wi, fl, st⟩ ⟨t, 3, n⟩).1, .int .i64 (stp M ⟨pl, wi, fl, st⟩ ⟨t, 3, n⟩).2]) ∧ Bl w w' := by
  have RR := Lib.hid (fun w' (h : Bl w w') => hR.below h)
  have HM := Lib.hid hM
  clear hR hM
  have Q := Lib.hid (show decide (VE ⟨t, 3, n⟩) = true from decide_eq_true hv)
  have HA := Lib.hid (show alw M ⟨pl, wi, fl, st⟩ 3 t ↔ (pl = 1 ∧ M.no - M.fu ≤ t ∧ t ≤ M.no + M.ag) by simp [alw])
  have H1 := Lib.hid (show alw M ⟨pl, wi, fl, st⟩ 3 t → stp M ⟨pl, wi, fl, st⟩ ⟨t, 3, n⟩ = (⟨2, wi, fl, t⟩, 0) by intro h; unfold stp; rw [if_pos ⟨hv, ht⟩, if_pos h]; simp [doe])
  have H2 := Lib.hid (show ¬ alw M ⟨pl, wi, fl, st⟩ 3 t → stp M ⟨pl, wi, fl, st⟩ ⟨t, 3, n⟩ = (Bal.zero, 9) by intro h; unfold stp; rw [if_pos ⟨hv, ht⟩, if_neg h])
  clear hv
  by_cases q : decide (pl = 1 ∧ M.no - M.fu ≤ t ∧ t ≤ M.no + M.ag) = true
  · have AX := Lib.hid q
    have HS := Lib.hid (H1.out (HA.out.2 (of_decide_eq_true q)))
    clear q
    go_enter Tryd.func36, Tryd.ntmps36
    go_wp2_with fail
    refine (isEvent_any ⟨t, 3, n⟩ _).mono ?_
    rintro e1 w1 ⟨rfl, hb⟩
    have r0 := kcb hb (b := w.heap.size) (o := 6) (v := .func (.func 39) #[] #[.pointer (some ⟨x, 0, none⟩)]) (by go_cell)
    have r1 := kcb hb (b := w.heap.size) (o := 7) (v := .func (.func 47) #[] #[.pointer (some ⟨g2, 0, none⟩)]) (by go_cell)
    have s0 := kcb hb (b := w.heap.size + 1) (o := 0) (v := .int .i64 pl) (by go_cell)
    have s1 := kcb hb (b := w.heap.size + 1) (o := 1) (v := .int .i64 wi) (by go_cell)
    have s2 := kcb hb (b := w.heap.size + 1) (o := 2) (v := .bool fl) (by go_cell)
    have s3 := kcb hb (b := w.heap.size + 1) (o := 3) (v := .int .i64 st) (by go_cell)
    have e0 := kcb hb (b := w.heap.size + 1 + 1) (o := 0) (v := .int .i64 t) (by go_cell)
    have e1 := kcb hb (b := w.heap.size + 1 + 1) (o := 1) (v := .int .i64 3) (by go_cell)
    have e2 := kcb hb (b := w.heap.size + 1 + 1) (o := 2) (v := .int .i64 n) (by go_cell)
    have c0 := kcb hb (b := w.heap.size + 1 + 1 + 1) (o := 0) (v := .int .i64 0) (by go_cell)
    have c1 := kcb hb (b := w.heap.size + 1 + 1 + 1) (o := 1) (v := .int .i64 0) (by go_cell)
    have c2 := kcb hb (b := w.heap.size + 1 + 1 + 1) (o := 2) (v := .bool false) (by go_cell)
    have c3 := kcb hb (b := w.heap.size + 1 + 1 + 1) (o := 3) (v := .int .i64 0) (by go_cell)
    have y0 := fzb hb (b := w.heap.size + 1) (o := 0) (by (try simp only [frozen?_alloc_cells, World.frozen?_setCell]); first | assumption | exact fz_new (by (try simp only [World.size_alloc, World.size_setCell]); omega)) (by (try simp only [World.size_alloc, World.size_setCell]); omega)
    have y1 := fzb hb (b := w.heap.size + 1) (o := 1) (by (try simp only [frozen?_alloc_cells, World.frozen?_setCell]); first | assumption | exact fz_new (by (try simp only [World.size_alloc, World.size_setCell]); omega)) (by (try simp only [World.size_alloc, World.size_setCell]); omega)
    have y2 := fzb hb (b := w.heap.size + 1) (o := 2) (by (try simp only [frozen?_alloc_cells, World.frozen?_setCell]); first | assumption | exact fz_new (by (try simp only [World.size_alloc, World.size_setCell]); omega)) (by (try simp only [World.size_alloc, World.size_setCell]); omega)
    have y3 := fzb hb (b := w.heap.size + 1) (o := 3) (by (try simp only [frozen?_alloc_cells, World.frozen?_setCell]); first | assumption | exact fz_new (by (try simp only [World.size_alloc, World.size_setCell]); omega)) (by (try simp only [World.size_alloc, World.size_setCell]); omega)
    have z0 := fzb hb (b := w.heap.size + 1 + 1 + 1) (o := 0) (by (try simp only [frozen?_alloc_cells, World.frozen?_setCell]); first | assumption | exact fz_new (by (try simp only [World.size_alloc, World.size_setCell]); omega)) (by (try simp only [World.size_alloc, World.size_setCell]); omega)
    have z1 := fzb hb (b := w.heap.size + 1 + 1 + 1) (o := 1) (by (try simp only [frozen?_alloc_cells, World.frozen?_setCell]); first | assumption | exact fz_new (by (try simp only [World.size_alloc, World.size_setCell]); omega)) (by (try simp only [World.size_alloc, World.size_setCell]); omega)
    have z2 := fzb hb (b := w.heap.size + 1 + 1 + 1) (o := 2) (by (try simp only [frozen?_alloc_cells, World.frozen?_setCell]); first | assumption | exact fz_new (by (try simp only [World.size_alloc, World.size_setCell]); omega)) (by (try simp only [World.size_alloc, World.size_setCell]); omega)
    have z3 := fzb hb (b := w.heap.size + 1 + 1 + 1) (o := 3) (by (try simp only [frozen?_alloc_cells, World.frozen?_setCell]); first | assumption | exact fz_new (by (try simp only [World.size_alloc, World.size_setCell]); omega)) (by (try simp only [World.size_alloc, World.size_setCell]); omega)
    have B1 : Bl w w1 := Below.trans (by go_grown) (hb.mono (by (try simp only [World.size_alloc]); omega))
    have l1 := ltb c0
    clear hb
    rw [Q.out]
    go_wp2_with fail
    refine wp_region_noPanic ?_
    refine wp_region_held_drew (S := fun w' => Bl w w' ∧ w'.cell? ⟨w.heap.size, 6, none⟩ = some (.func (.func 39) #[] #[.pointer (some ⟨x, 0, none⟩)]) ∧ w'.cell? ⟨w.heap.size + 1, 0, none⟩ = some (.int .i64 pl) ∧ w'.cell? ⟨w.heap.size + 1, 1, none⟩ = some (.int .i64 wi) ∧ w'.cell? ⟨w.heap.size + 1, 2, none⟩ = some (.bool fl) ∧ w'.cell? ⟨w.heap.size + 1, 3, none⟩ = some (.int .i64 st) ∧ w'.cell? ⟨w.heap.size + 1 + 1, 0, none⟩ = some (.int .i64 t) ∧ w'.cell? ⟨w.heap.size + 1 + 1, 1, none⟩ = some (.int .i64 3)) (by kernel_rfl) (⟨B1.tr (Bl.d1 _), kcb (Bl.d1 _) r0, kcb (Bl.d1 _) s0, kcb (Bl.d1 _) s1, kcb (Bl.d1 _) s2, kcb (Bl.d1 _) s3, kcb (Bl.d1 _) e0, kcb (Bl.d1 _) e1⟩) (fun hH => ?_)
    refine wpAnyH_take (i := 0) (oi := ({ dst := some 19, op := Go.Op.fieldAddr 38 (Go.Operand.tmp 5) 1, type := 0, pos := "run.go:106", after := #[], guard := none } : Oper)) (v := ?_) rfl (by kernel_rfl) (by kernel_rfl) (by kernel_rfl) (fun _ _ _ h => h) (Or.inl ⟨by rfl, ?_⟩) hH ?_
    rotate_left
    · intro w hSw; (try dsimp only at hSw); go_simp; try with_reducible rfl
    try simp only [Act.put, List.setIfInBounds_toArray, List.set_cons_zero, List.set_cons_succ]
    refine wpAnyH_take (i := 1) (oi := ({ dst := some 20, op := Go.Op.load 3 (Go.Operand.tmp 19), type := 3, pos := "run.go:106", after := #[{ on := 0, ground := Go.Ground.data }], guard := none } : Oper)) (v := ?_) rfl (by kernel_rfl) (by kernel_rfl) (by kernel_rfl) (fun _ _ _ h => h) (Or.inl ⟨by rfl, ?_⟩) hH ?_
    rotate_left
    · intro w hSw; (try dsimp only at hSw); go_simp; try with_reducible rfl
    try simp only [Act.put, List.setIfInBounds_toArray, List.set_cons_zero, List.set_cons_succ]
    refine wpAnyH_take (i := 2) (oi := ({ dst := some 21, op := Go.Op.indexAddr 75 (Go.Operand.tmp 3) (Go.Operand.tmp 20), type := 0, pos := "run.go:106", after := #[{ on := 1, ground := Go.Ground.data }], guard := none } : Oper)) (v := ?_) rfl (by kernel_rfl) (by kernel_rfl) (by kernel_rfl) (fun _ _ _ h => h) (Or.inl ⟨by rfl, ?_⟩) hH ?_
    rotate_left
    · intro w hSw; (try dsimp only at hSw); go_simp; try with_reducible rfl
    try simp only [Act.put, List.setIfInBounds_toArray, List.set_cons_zero, List.set_cons_succ]
    refine wpAnyH_take (i := 3) (oi := ({ dst := some 22, op := Go.Op.fieldAddr 73 (Go.Operand.tmp 21) 0, type := 0, pos := "run.go:106", after := #[{ on := 2, ground := Go.Ground.data }], guard := none } : Oper)) (v := ?_) rfl (by kernel_rfl) (by kernel_rfl) (by kernel_rfl) (fun _ _ _ h => h) (Or.inl ⟨by rfl, ?_⟩) hH ?_
    rotate_left
    · intro w hSw; (try dsimp only at hSw); go_simp; try with_reducible rfl
    try simp only [Act.put, List.setIfInBounds_toArray, List.set_cons_zero, List.set_cons_succ]
    refine wpAnyH_take (i := 4) (oi := ({ dst := some 23, op := Go.Op.load 70 (Go.Operand.tmp 22), type := 70, pos := "run.go:106", after := #[{ on := 3, ground := Go.Ground.data }], guard := none } : Oper)) (v := ?_) rfl (by kernel_rfl) (by kernel_rfl) (by kernel_rfl) (fun _ _ _ h => h) (Or.inl ⟨by rfl, ?_⟩) hH ?_
    rotate_left
    · intro w hSw; (try dsimp only at hSw); go_simp; try with_reducible rfl
    try simp only [Act.put, List.setIfInBounds_toArray, List.set_cons_zero, List.set_cons_succ]
    refine wpAnyH_take (i := 5) (oi := ({ dst := some 24, op := Go.Op.load 53 (Go.Operand.tmp 4), type := 53, pos := "run.go:106", after := #[], guard := none } : Oper)) (v := ?_) rfl (by kernel_rfl) (by kernel_rfl) (by kernel_rfl) (fun _ _ _ h => h) (Or.inl ⟨by rfl, ?_⟩) hH ?_
    rotate_left
    · intro w hSw; (try dsimp only at hSw); go_simp; try with_reducible rfl
    try simp only [Act.put, List.setIfInBounds_toArray, List.set_cons_zero, List.set_cons_succ]
    refine wpAnyH_take (i := 6) (oi := ({ dst := some 25, op := Go.Op.fieldAddr 38 (Go.Operand.tmp 5) 0, type := 0, pos := "run.go:106", after := #[], guard := none } : Oper)) (v := ?_) rfl (by kernel_rfl) (by kernel_rfl) (by kernel_rfl) (fun _ _ _ h => h) (Or.inl ⟨by rfl, ?_⟩) hH ?_
    rotate_left
    · intro w hSw; (try dsimp only at hSw); go_simp; try with_reducible rfl
    try simp only [Act.put, List.setIfInBounds_toArray, List.set_cons_zero, List.set_cons_succ]
    refine wpAnyH_take (i := 7) (oi := ({ dst := some 26, op := Go.Op.load 3 (Go.Operand.tmp 25), type := 3, pos := "run.go:106", after := #[{ on := 6, ground := Go.Ground.data }], guard := none } : Oper)) (v := ?_) rfl (by kernel_rfl) (by kernel_rfl) (by kernel_rfl) (fun _ _ _ h => h) (Or.inl ⟨by rfl, ?_⟩) hH ?_
    rotate_left
    · intro w hSw; (try dsimp only at hSw); go_simp; try with_reducible rfl
    try simp only [Act.put, List.setIfInBounds_toArray, List.set_cons_zero, List.set_cons_succ]
    refine wpAnyH_ready (rs := [8]) (by kernel_rfl) (by simp) ?_
    refine AllReadyH.cons (o := ({ dst := some 27, op := Go.Op.call { callee := Go.Callee.value (Go.Operand.tmp 23), args := #[Go.Operand.tmp 24, Go.Operand.tmp 26], argTypes := #[53, 3] }, type := 4, pos := "run.go:106", after := #[{ on := 4, ground := Go.Ground.data }, { on := 5, ground := Go.Ground.data }, { on := 7, ground := Go.Ground.data }], guard := none } : Oper)) rfl (fun K hK => ?_) AllReadyH.nil
    go_simp
    go_at_call 39
    refine (fills_any M HM.out ⟨pl, wi, fl, st⟩ t x _ (RR.out _ hH.1).mast).mono ?_
    rintro e9 w2 ⟨rfl, hb⟩
    have hb2 := (Bl.d1 w1).tr hb
    rw [AX.out]
    have r0 := kcb hb2 r0
    have r1 := kcb hb2 r1
    have s0 := kcb hb2 s0
    have s1 := kcb hb2 s1
    have s2 := kcb hb2 s2
    have s3 := kcb hb2 s3
    have e0 := kcb hb2 e0
    have e1 := kcb hb2 e1
    have e2 := kcb hb2 e2
    have c0 := kcb hb2 c0
    have c1 := kcb hb2 c1
    have c2 := kcb hb2 c2
    have c3 := kcb hb2 c3
    have y0 := fzb hb2 y0 (by omega)
    have z0 := fzb hb2 z0 (by omega)
    have y1 := fzb hb2 y1 (by omega)
    have z1 := fzb hb2 z1 (by omega)
    have y2 := fzb hb2 y2 (by omega)
    have z2 := fzb hb2 z2 (by omega)
    have y3 := fzb hb2 y3 (by omega)
    have z3 := fzb hb2 z3 (by omega)
    have B2 := B1.tr hb2
    have l2 := ltb c0
    refine hK.out _ _ ⟨hH.1.tr hb, kcb hb hH.2.1, kcb hb hH.2.2.1, kcb hb hH.2.2.2.1, kcb hb hH.2.2.2.2.1, kcb hb hH.2.2.2.2.2.1, kcb hb hH.2.2.2.2.2.2.1, kcb hb hH.2.2.2.2.2.2.2⟩ (fun hH' => ?_)
    clear hH
    have hH := hH'
    clear hH' hK K
    try simp only [Act.put, List.setIfInBounds_toArray, List.set_cons_zero, List.set_cons_succ]
    refine wpAnyH_take (i := 9) (oi := ({ dst := some 28, op := Go.Op.unOp Go.UnOp.not 4 (Go.Operand.tmp 27), type := 4, pos := "run.go:106", after := #[{ on := 8, ground := Go.Ground.data }], guard := none } : Oper)) (v := ?_) rfl (by kernel_rfl) (by kernel_rfl) (by kernel_rfl) (fun _ _ _ h => h) (Or.inl ⟨by rfl, ?_⟩) hH ?_
    rotate_left
    · intro w hSw; (try dsimp only at hSw); go_simp; try with_reducible rfl
    try simp only [Act.put, List.setIfInBounds_toArray, List.set_cons_zero, List.set_cons_succ]
    refine wpAnyH_done (by kernel_rfl) ?_ _
    refine NoPanic.normal ?_
    go_wp2_with fail
    refine wp_region_noPanic ?_
    refine wp_region_held_drew (S := fun w' => Bl w w' ∧ w'.cell? ⟨w.heap.size, 7, none⟩ = some (.func (.func 47) #[] #[.pointer (some ⟨g2, 0, none⟩)]) ∧ w'.cell? ⟨w.heap.size + 1 + 1, 0, none⟩ = some (.int .i64 t) ∧ w'.cell? ⟨w.heap.size + 1 + 1, 1, none⟩ = some (.int .i64 3) ∧ w'.cell? ⟨w.heap.size + 1 + 1, 2, none⟩ = some (.int .i64 n)) (by kernel_rfl) (⟨B2.tr (Bl.d1 _), kcb (Bl.d1 _) r1, kcb (Bl.d1 _) e0, kcb (Bl.d1 _) e1, kcb (Bl.d1 _) e2⟩) (fun hH => ?_)
    refine wpAnyH_take (i := 0) (oi := ({ dst := some 30, op := Go.Op.fieldAddr 38 (Go.Operand.tmp 5) 1, type := 0, pos := "run.go:109", after := #[], guard := none } : Oper)) (v := ?_) rfl (by kernel_rfl) (by kernel_rfl) (by kernel_rfl) (fun _ _ _ h => h) (Or.inl ⟨by rfl, ?_⟩) hH ?_
    rotate_left
    · intro w hSw; (try dsimp only at hSw); go_simp; try with_reducible rfl
    try simp only [Act.put, List.setIfInBounds_toArray, List.set_cons_zero, List.set_cons_succ]
    refine wpAnyH_take (i := 1) (oi := ({ dst := some 31, op := Go.Op.load 3 (Go.Operand.tmp 30), type := 3, pos := "run.go:109", after := #[{ on := 0, ground := Go.Ground.data }], guard := none } : Oper)) (v := ?_) rfl (by kernel_rfl) (by kernel_rfl) (by kernel_rfl) (fun _ _ _ h => h) (Or.inl ⟨by rfl, ?_⟩) hH ?_
    rotate_left
    · intro w hSw; (try dsimp only at hSw); go_simp; try with_reducible rfl
    try simp only [Act.put, List.setIfInBounds_toArray, List.set_cons_zero, List.set_cons_succ]
    refine wpAnyH_take (i := 2) (oi := ({ dst := some 32, op := Go.Op.indexAddr 75 (Go.Operand.tmp 3) (Go.Operand.tmp 31), type := 0, pos := "run.go:109", after := #[{ on := 1, ground := Go.Ground.data }], guard := none } : Oper)) (v := ?_) rfl (by kernel_rfl) (by kernel_rfl) (by kernel_rfl) (fun _ _ _ h => h) (Or.inl ⟨by rfl, ?_⟩) hH ?_
    rotate_left
    · intro w hSw; (try dsimp only at hSw); go_simp; try with_reducible rfl
    try simp only [Act.put, List.setIfInBounds_toArray, List.set_cons_zero, List.set_cons_succ]
    refine wpAnyH_take (i := 3) (oi := ({ dst := some 33, op := Go.Op.fieldAddr 73 (Go.Operand.tmp 32) 1, type := 0, pos := "run.go:109", after := #[{ on := 2, ground := Go.Ground.data }], guard := none } : Oper)) (v := ?_) rfl (by kernel_rfl) (by kernel_rfl) (by kernel_rfl) (fun _ _ _ h => h) (Or.inl ⟨by rfl, ?_⟩) hH ?_
    rotate_left
    · intro w hSw; (try dsimp only at hSw); go_simp; try with_reducible rfl
    try simp only [Act.put, List.setIfInBounds_toArray, List.set_cons_zero, List.set_cons_succ]
    refine wpAnyH_take (i := 4) (oi := ({ dst := some 34, op := Go.Op.load 71 (Go.Operand.tmp 33), type := 71, pos := "run.go:109", after := #[{ on := 3, ground := Go.Ground.data }], guard := none } : Oper)) (v := ?_) rfl (by kernel_rfl) (by kernel_rfl) (by kernel_rfl) (fun _ _ _ h => h) (Or.inl ⟨by rfl, ?_⟩) hH ?_
    rotate_left
    · intro w hSw; (try dsimp only at hSw); go_simp; try with_reducible rfl
    try simp only [Act.put, List.setIfInBounds_toArray, List.set_cons_zero, List.set_cons_succ]
    refine wpAnyH_take (i := 6) (oi := ({ dst := some 36, op := Go.Op.fieldAddr 38 (Go.Operand.tmp 5) 2, type := 0, pos := "run.go:109", after := #[], guard := none } : Oper)) (v := ?_) rfl (by kernel_rfl) (by kernel_rfl) (by kernel_rfl) (fun _ _ _ h => h) (Or.inl ⟨by rfl, ?_⟩) hH ?_
    rotate_left
    · intro w hSw; (try dsimp only at hSw); go_simp; try with_reducible rfl
    try simp only [Act.put, List.setIfInBounds_toArray, List.set_cons_zero, List.set_cons_succ]
    refine wpAnyH_take (i := 7) (oi := ({ dst := some 37, op := Go.Op.load 3 (Go.Operand.tmp 36), type := 3, pos := "run.go:109", after := #[{ on := 6, ground := Go.Ground.data }], guard := none } : Oper)) (v := ?_) rfl (by kernel_rfl) (by kernel_rfl) (by kernel_rfl) (fun _ _ _ h => h) (Or.inl ⟨by rfl, ?_⟩) hH ?_
    rotate_left
    · intro w hSw; (try dsimp only at hSw); go_simp; try with_reducible rfl
    try simp only [Act.put, List.setIfInBounds_toArray, List.set_cons_zero, List.set_cons_succ]
    refine wpAnyH_ready (rs := [5]) (by kernel_rfl) (by simp) ?_
    refine AllReadyH.cons (o := ({ dst := some 35, op := Go.Op.load 53 (Go.Operand.tmp 4), type := 53, pos := "run.go:109", after := #[], guard := none } : Oper)) rfl (fun K hK => ?_) AllReadyH.nil
    go_simp
    have r0 := kcb (Bl.d1 w2) r0
    have r1 := kcb (Bl.d1 w2) r1
    have s0 := kcb (Bl.d1 w2) s0
    have s1 := kcb (Bl.d1 w2) s1
    have s2 := kcb (Bl.d1 w2) s2
    have s3 := kcb (Bl.d1 w2) s3
    have e0 := kcb (Bl.d1 w2) e0
    have e1 := kcb (Bl.d1 w2) e1
    have e2 := kcb (Bl.d1 w2) e2
    have c0 := kcb (Bl.d1 w2) c0
    have c1 := kcb (Bl.d1 w2) c1
    have c2 := kcb (Bl.d1 w2) c2
    have c3 := kcb (Bl.d1 w2) c3
    refine hK.out _ _ hH (fun hH' => ?_)
    clear hH' hK K
    try simp only [Act.put, List.setIfInBounds_toArray, List.set_cons_zero, List.set_cons_succ]
    refine wpAnyH_ready (rs := [8]) (by kernel_rfl) (by simp) ?_
    refine AllReadyH.cons (o := ({ dst := some 38, op := Go.Op.call { callee := Go.Callee.value (Go.Operand.tmp 34), args := #[Go.Operand.tmp 35, Go.Operand.tmp 37], argTypes := #[53, 3] }, type := 53, pos := "run.go:109", after := #[{ on := 4, ground := Go.Ground.data }, { on := 5, ground := Go.Ground.data }, { on := 7, ground := Go.Ground.data }], guard := none } : Oper)) rfl (fun K hK => ?_) AllReadyH.nil
    go_simp
    go_at_call 47
    refine (goes1_any ⟨pl, wi, fl, st⟩ n 2 g2 _ (RR.out _ hH.1).c2).mono ?_
    rintro e9 w3 ⟨rfl, hb⟩
    have hb3 := (Bl.d1 w2).tr hb
    have r0 := kcb hb r0
    have r1 := kcb hb r1
    have s0 := kcb hb s0
    have s1 := kcb hb s1
    have s2 := kcb hb s2
    have s3 := kcb hb s3
    have e0 := kcb hb e0
    have e1 := kcb hb e1
    have e2 := kcb hb e2
    have c0 := kcb hb c0
    have c1 := kcb hb c1
    have c2 := kcb hb c2
    have c3 := kcb hb c3
    have y0 := fzb hb3 y0 (by omega)
    have z0 := fzb hb3 z0 (by omega)
    have y1 := fzb hb3 y1 (by omega)
    have z1 := fzb hb3 z1 (by omega)
    have y2 := fzb hb3 y2 (by omega)
    have z2 := fzb hb3 z2 (by omega)
    have y3 := fzb hb3 y3 (by omega)
    have z3 := fzb hb3 z3 (by omega)
    have B3 := B2.tr hb3
    have l3 := ltb c0
    refine hK.out _ _ ⟨hH.1.tr hb, kcb hb hH.2.1, kcb hb hH.2.2.1, kcb hb hH.2.2.2.1, kcb hb hH.2.2.2.2⟩ (fun hH' => ?_)
    clear hH
    have hH := hH'
    clear hH' hK K
    try simp only [Act.put, List.setIfInBounds_toArray, List.set_cons_zero, List.set_cons_succ]
    refine wpAnyH_ready (rs := [9]) (by kernel_rfl) (by simp) ?_
    refine AllReadyH.cons (o := ({ dst := none, op := Go.Op.store 53 (Go.Operand.tmp 4) (Go.Operand.tmp 38), type := 0, pos := "run.go:109", after := #[{ on := 8, ground := Go.Ground.data }, { on := 8, ground := Go.Ground.chain }, { on := 0, ground := Go.Ground.phase }, { on := 1, ground := Go.Ground.phase }, { on := 2, ground := Go.Ground.phase }, { on := 3, ground := Go.Ground.phase }, { on := 4, ground := Go.Ground.phase }, { on := 5, ground := Go.Ground.phase }, { on := 6, ground := Go.Ground.phase }, { on := 7, ground := Go.Ground.phase }, { on := 8, ground := Go.Ground.phase }], guard := none } : Oper)) rfl (fun K hK => ?_) AllReadyH.nil
    go_simp
    refine hK.out _ _ ⟨by go_grown, by go_cell, by go_cell, by go_cell, by go_cell⟩ (fun hH' => ?_)
    clear hH' hK K
    try simp only [Act.put, List.setIfInBounds_toArray, List.set_cons_zero, List.set_cons_succ]
    refine wpAnyH_done (by kernel_rfl) ?_ _
    refine NoPanic.normal ?_
    obtain ⟨V, hV⟩ : ∃ V, V = ((((w3).setCell ⟨w.heap.size + 1, 0, none⟩ (.int .i64 2)).setCell ⟨w.heap.size + 1, 1, none⟩ (.int .i64 wi)).setCell ⟨w.heap.size + 1, 2, none⟩ (.bool fl)).setCell ⟨w.heap.size + 1, 3, none⟩ (.int .i64 st) := ⟨_, rfl⟩
    have BV : Bl w V := by rw [hV]; go_grown
    have s0 : V.cell? ⟨w.heap.size + 1, 0, none⟩ = some (.int .i64 2) := by rw [hV]; go_cell
    have s1 : V.cell? ⟨w.heap.size + 1, 1, none⟩ = some (.int .i64 wi) := by rw [hV]; go_cell
    have s2 : V.cell? ⟨w.heap.size + 1, 2, none⟩ = some (.bool fl) := by rw [hV]; go_cell
    have s3 : V.cell? ⟨w.heap.size + 1, 3, none⟩ = some (.int .i64 st) := by rw [hV]; go_cell
    have e0 : V.cell? ⟨w.heap.size + 1 + 1, 0, none⟩ = some (.int .i64 t) := by rw [hV]; go_cell
    have c0 : V.cell? ⟨w.heap.size + 1 + 1 + 1, 0, none⟩ = some (.int .i64 0) := by rw [hV]; go_cell
    have c1 : V.cell? ⟨w.heap.size + 1 + 1 + 1, 1, none⟩ = some (.int .i64 0) := by rw [hV]; go_cell
    have c2 : V.cell? ⟨w.heap.size + 1 + 1 + 1, 2, none⟩ = some (.bool false) := by rw [hV]; go_cell
    have c3 : V.cell? ⟨w.heap.size + 1 + 1 + 1, 3, none⟩ = some (.int .i64 0) := by rw [hV]; go_cell
    have y0 : V.frozen? ⟨w.heap.size + 1, 0, none⟩ = false := by rw [hV]; simp only [World.frozen?_setCell]; exact y0
    have z0 : V.frozen? ⟨w.heap.size + 1 + 1 + 1, 0, none⟩ = false := by rw [hV]; simp only [World.frozen?_setCell]; exact z0
    have y1 : V.frozen? ⟨w.heap.size + 1, 1, none⟩ = false := by rw [hV]; simp only [World.frozen?_setCell]; exact y1
    have z1 : V.frozen? ⟨w.heap.size + 1 + 1 + 1, 1, none⟩ = false := by rw [hV]; simp only [World.frozen?_setCell]; exact z1
    have y2 : V.frozen? ⟨w.heap.size + 1, 2, none⟩ = false := by rw [hV]; simp only [World.frozen?_setCell]; exact y2
    have z2 : V.frozen? ⟨w.heap.size + 1 + 1 + 1, 2, none⟩ = false := by rw [hV]; simp only [World.frozen?_setCell]; exact z2
    have y3 : V.frozen? ⟨w.heap.size + 1, 3, none⟩ = false := by rw [hV]; simp only [World.frozen?_setCell]; exact y3
    have z3 : V.frozen? ⟨w.heap.size + 1 + 1 + 1, 3, none⟩ = false := by rw [hV]; simp only [World.frozen?_setCell]; exact z3
    rw [← hV]
    clear hV hH e1 e2 r0 r1
    have lV := ltb c0
    go_wp2_with fail
    exact bodyPost_ret (v := .tuple #[.agg #[.int .i64 2, .int .i64 wi, .bool fl, .int .i64 t], .int .i64 0]) (by simp [results, Tryd.results36, go_sem, c0, c1, c2, c3, z0, z1, z2, z3]) rfl ⟨by rw [HS.out], by go_grown⟩
  · have AX := Lib.hid (show decide (pl = 1 ∧ M.no - M.fu ≤ t ∧ t ≤ M.no + M.ag) = false by simpa using q)
    have HS := Lib.hid (H2.out (fun h => (fun h => q (decide_eq_true h)) (HA.out.1 h)))
    clear q
    go_enter Tryd.func36, Tryd.ntmps36
    go_wp2_with fail
    refine (isEvent_any ⟨t, 3, n⟩ _).mono ?_
    rintro e1 w1 ⟨rfl, hb⟩
    have r0 := kcb hb (b := w.heap.size) (o := 6) (v := .func (.func 39) #[] #[.pointer (some ⟨x, 0, none⟩)]) (by go_cell)
    have r1 := kcb hb (b := w.heap.size) (o := 7) (v := .func (.func 47) #[] #[.pointer (some ⟨g2, 0, none⟩)]) (by go_cell)
    have s0 := kcb hb (b := w.heap.size + 1) (o := 0) (v := .int .i64 pl) (by go_cell)
    have s1 := kcb hb (b := w.heap.size + 1) (o := 1) (v := .int .i64 wi) (by go_cell)
    have s2 := kcb hb (b := w.heap.size + 1) (o := 2) (v := .bool fl) (by go_cell)
    have s3 := kcb hb (b := w.heap.size + 1) (o := 3) (v := .int .i64 st) (by go_cell)
    have e0 := kcb hb (b := w.heap.size + 1 + 1) (o := 0) (v := .int .i64 t) (by go_cell)
    have e1 := kcb hb (b := w.heap.size + 1 + 1) (o := 1) (v := .int .i64 3) (by go_cell)
    have e2 := kcb hb (b := w.heap.size + 1 + 1) (o := 2) (v := .int .i64 n) (by go_cell)
    have c0 := kcb hb (b := w.heap.size + 1 + 1 + 1) (o := 0) (v := .int .i64 0) (by go_cell)
    have c1 := kcb hb (b := w.heap.size + 1 + 1 + 1) (o := 1) (v := .int .i64 0) (by go_cell)
    have c2 := kcb hb (b := w.heap.size + 1 + 1 + 1) (o := 2) (v := .bool false) (by go_cell)
    have c3 := kcb hb (b := w.heap.size + 1 + 1 + 1) (o := 3) (v := .int .i64 0) (by go_cell)
    have y0 := fzb hb (b := w.heap.size + 1) (o := 0) (by (try simp only [frozen?_alloc_cells, World.frozen?_setCell]); first | assumption | exact fz_new (by (try simp only [World.size_alloc, World.size_setCell]); omega)) (by (try simp only [World.size_alloc, World.size_setCell]); omega)
    have y1 := fzb hb (b := w.heap.size + 1) (o := 1) (by (try simp only [frozen?_alloc_cells, World.frozen?_setCell]); first | assumption | exact fz_new (by (try simp only [World.size_alloc, World.size_setCell]); omega)) (by (try simp only [World.size_alloc, World.size_setCell]); omega)
    have y2 := fzb hb (b := w.heap.size + 1) (o := 2) (by (try simp only [frozen?_alloc_cells, World.frozen?_setCell]); first | assumption | exact fz_new (by (try simp only [World.size_alloc, World.size_setCell]); omega)) (by (try simp only [World.size_alloc, World.size_setCell]); omega)
    have y3 := fzb hb (b := w.heap.size + 1) (o := 3) (by (try simp only [frozen?_alloc_cells, World.frozen?_setCell]); first | assumption | exact fz_new (by (try simp only [World.size_alloc, World.size_setCell]); omega)) (by (try simp only [World.size_alloc, World.size_setCell]); omega)
    have z0 := fzb hb (b := w.heap.size + 1 + 1 + 1) (o := 0) (by (try simp only [frozen?_alloc_cells, World.frozen?_setCell]); first | assumption | exact fz_new (by (try simp only [World.size_alloc, World.size_setCell]); omega)) (by (try simp only [World.size_alloc, World.size_setCell]); omega)
    have z1 := fzb hb (b := w.heap.size + 1 + 1 + 1) (o := 1) (by (try simp only [frozen?_alloc_cells, World.frozen?_setCell]); first | assumption | exact fz_new (by (try simp only [World.size_alloc, World.size_setCell]); omega)) (by (try simp only [World.size_alloc, World.size_setCell]); omega)
    have z2 := fzb hb (b := w.heap.size + 1 + 1 + 1) (o := 2) (by (try simp only [frozen?_alloc_cells, World.frozen?_setCell]); first | assumption | exact fz_new (by (try simp only [World.size_alloc, World.size_setCell]); omega)) (by (try simp only [World.size_alloc, World.size_setCell]); omega)
    have z3 := fzb hb (b := w.heap.size + 1 + 1 + 1) (o := 3) (by (try simp only [frozen?_alloc_cells, World.frozen?_setCell]); first | assumption | exact fz_new (by (try simp only [World.size_alloc, World.size_setCell]); omega)) (by (try simp only [World.size_alloc, World.size_setCell]); omega)
    have B1 : Bl w w1 := Below.trans (by go_grown) (hb.mono (by (try simp only [World.size_alloc]); omega))
    have l1 := ltb c0
    clear hb
    rw [Q.out]
    go_wp2_with fail
    refine wp_region_noPanic ?_
    refine wp_region_held_drew (S := fun w' => Bl w w' ∧ w'.cell? ⟨w.heap.size, 6, none⟩ = some (.func (.func 39) #[] #[.pointer (some ⟨x, 0, none⟩)]) ∧ w'.cell? ⟨w.heap.size + 1, 0, none⟩ = some (.int .i64 pl) ∧ w'.cell? ⟨w.heap.size + 1, 1, none⟩ = some (.int .i64 wi) ∧ w'.cell? ⟨w.heap.size + 1, 2, none⟩ = some (.bool fl) ∧ w'.cell? ⟨w.heap.size + 1, 3, none⟩ = some (.int .i64 st) ∧ w'.cell? ⟨w.heap.size + 1 + 1, 0, none⟩ = some (.int .i64 t) ∧ w'.cell? ⟨w.heap.size + 1 + 1, 1, none⟩ = some (.int .i64 3)) (by kernel_rfl) (⟨B1.tr (Bl.d1 _), kcb (Bl.d1 _) r0, kcb (Bl.d1 _) s0, kcb (Bl.d1 _) s1, kcb (Bl.d1 _) s2, kcb (Bl.d1 _) s3, kcb (Bl.d1 _) e0, kcb (Bl.d1 _) e1⟩) (fun hH => ?_)
    refine wpAnyH_take (i := 0) (oi := ({ dst := some 19, op := Go.Op.fieldAddr 38 (Go.Operand.tmp 5) 1, type := 0, pos := "run.go:106", after := #[], guard := none } : Oper)) (v := ?_) rfl (by kernel_rfl) (by kernel_rfl) (by kernel_rfl) (fun _ _ _ h => h) (Or.inl ⟨by rfl, ?_⟩) hH ?_
    rotate_left
    · intro w hSw; (try dsimp only at hSw); go_simp; try with_reducible rfl
    try simp only [Act.put, List.setIfInBounds_toArray, List.set_cons_zero, List.set_cons_succ]
    refine wpAnyH_take (i := 1) (oi := ({ dst := some 20, op := Go.Op.load 3 (Go.Operand.tmp 19), type := 3, pos := "run.go:106", after := #[{ on := 0, ground := Go.Ground.data }], guard := none } : Oper)) (v := ?_) rfl (by kernel_rfl) (by kernel_rfl) (by kernel_rfl) (fun _ _ _ h => h) (Or.inl ⟨by rfl, ?_⟩) hH ?_
    rotate_left
    · intro w hSw; (try dsimp only at hSw); go_simp; try with_reducible rfl
    try simp only [Act.put, List.setIfInBounds_toArray, List.set_cons_zero, List.set_cons_succ]
    refine wpAnyH_take (i := 2) (oi := ({ dst := some 21, op := Go.Op.indexAddr 75 (Go.Operand.tmp 3) (Go.Operand.tmp 20), type := 0, pos := "run.go:106", after := #[{ on := 1, ground := Go.Ground.data }], guard := none } : Oper)) (v := ?_) rfl (by kernel_rfl) (by kernel_rfl) (by kernel_rfl) (fun _ _ _ h => h) (Or.inl ⟨by rfl, ?_⟩) hH ?_
    rotate_left
    · intro w hSw; (try dsimp only at hSw); go_simp; try with_reducible rfl
    try simp only [Act.put, List.setIfInBounds_toArray, List.set_cons_zero, List.set_cons_succ]
    refine wpAnyH_take (i := 3) (oi := ({ dst := some 22, op := Go.Op.fieldAddr 73 (Go.Operand.tmp 21) 0, type := 0, pos := "run.go:106", after := #[{ on := 2, ground := Go.Ground.data }], guard := none } : Oper)) (v := ?_) rfl (by kernel_rfl) (by kernel_rfl) (by kernel_rfl) (fun _ _ _ h => h) (Or.inl ⟨by rfl, ?_⟩) hH ?_
    rotate_left
    · intro w hSw; (try dsimp only at hSw); go_simp; try with_reducible rfl
    try simp only [Act.put, List.setIfInBounds_toArray, List.set_cons_zero, List.set_cons_succ]
    refine wpAnyH_take (i := 4) (oi := ({ dst := some 23, op := Go.Op.load 70 (Go.Operand.tmp 22), type := 70, pos := "run.go:106", after := #[{ on := 3, ground := Go.Ground.data }], guard := none } : Oper)) (v := ?_) rfl (by kernel_rfl) (by kernel_rfl) (by kernel_rfl) (fun _ _ _ h => h) (Or.inl ⟨by rfl, ?_⟩) hH ?_
    rotate_left
    · intro w hSw; (try dsimp only at hSw); go_simp; try with_reducible rfl
    try simp only [Act.put, List.setIfInBounds_toArray, List.set_cons_zero, List.set_cons_succ]
    refine wpAnyH_take (i := 5) (oi := ({ dst := some 24, op := Go.Op.load 53 (Go.Operand.tmp 4), type := 53, pos := "run.go:106", after := #[], guard := none } : Oper)) (v := ?_) rfl (by kernel_rfl) (by kernel_rfl) (by kernel_rfl) (fun _ _ _ h => h) (Or.inl ⟨by rfl, ?_⟩) hH ?_
    rotate_left
    · intro w hSw; (try dsimp only at hSw); go_simp; try with_reducible rfl
    try simp only [Act.put, List.setIfInBounds_toArray, List.set_cons_zero, List.set_cons_succ]
    refine wpAnyH_take (i := 6) (oi := ({ dst := some 25, op := Go.Op.fieldAddr 38 (Go.Operand.tmp 5) 0, type := 0, pos := "run.go:106", after := #[], guard := none } : Oper)) (v := ?_) rfl (by kernel_rfl) (by kernel_rfl) (by kernel_rfl) (fun _ _ _ h => h) (Or.inl ⟨by rfl, ?_⟩) hH ?_
    rotate_left
    · intro w hSw; (try dsimp only at hSw); go_simp; try with_reducible rfl
    try simp only [Act.put, List.setIfInBounds_toArray, List.set_cons_zero, List.set_cons_succ]
    refine wpAnyH_take (i := 7) (oi := ({ dst := some 26, op := Go.Op.load 3 (Go.Operand.tmp 25), type := 3, pos := "run.go:106", after := #[{ on := 6, ground := Go.Ground.data }], guard := none } : Oper)) (v := ?_) rfl (by kernel_rfl) (by kernel_rfl) (by kernel_rfl) (fun _ _ _ h => h) (Or.inl ⟨by rfl, ?_⟩) hH ?_
    rotate_left
    · intro w hSw; (try dsimp only at hSw); go_simp; try with_reducible rfl
    try simp only [Act.put, List.setIfInBounds_toArray, List.set_cons_zero, List.set_cons_succ]
    refine wpAnyH_ready (rs := [8]) (by kernel_rfl) (by simp) ?_
    refine AllReadyH.cons (o := ({ dst := some 27, op := Go.Op.call { callee := Go.Callee.value (Go.Operand.tmp 23), args := #[Go.Operand.tmp 24, Go.Operand.tmp 26], argTypes := #[53, 3] }, type := 4, pos := "run.go:106", after := #[{ on := 4, ground := Go.Ground.data }, { on := 5, ground := Go.Ground.data }, { on := 7, ground := Go.Ground.data }], guard := none } : Oper)) rfl (fun K hK => ?_) AllReadyH.nil
    go_simp
    go_at_call 39
    refine (fills_any M HM.out ⟨pl, wi, fl, st⟩ t x _ (RR.out _ hH.1).mast).mono ?_
    rintro e9 w2 ⟨rfl, hb⟩
    have hb2 := (Bl.d1 w1).tr hb
    rw [AX.out]
    have r0 := kcb hb2 r0
    have r1 := kcb hb2 r1
    have s0 := kcb hb2 s0
    have s1 := kcb hb2 s1
    have s2 := kcb hb2 s2
    have s3 := kcb hb2 s3
    have e0 := kcb hb2 e0
    have e1 := kcb hb2 e1
    have e2 := kcb hb2 e2
    have c0 := kcb hb2 c0
    have c1 := kcb hb2 c1
    have c2 := kcb hb2 c2
    have c3 := kcb hb2 c3
    have y0 := fzb hb2 y0 (by omega)
    have z0 := fzb hb2 z0 (by omega)
    have y1 := fzb hb2 y1 (by omega)
    have z1 := fzb hb2 z1 (by omega)
    have y2 := fzb hb2 y2 (by omega)
    have z2 := fzb hb2 z2 (by omega)
    have y3 := fzb hb2 y3 (by omega)
    have z3 := fzb hb2 z3 (by omega)
    have B2 := B1.tr hb2
    have l2 := ltb c0
    refine hK.out _ _ ⟨hH.1.tr hb, kcb hb hH.2.1, kcb hb hH.2.2.1, kcb hb hH.2.2.2.1, kcb hb hH.2.2.2.2.1, kcb hb hH.2.2.2.2.2.1, kcb hb hH.2.2.2.2.2.2.1, kcb hb hH.2.2.2.2.2.2.2⟩ (fun hH' => ?_)
    clear hH
    have hH := hH'
    clear hH' hK K
    try simp only [Act.put, List.setIfInBounds_toArray, List.set_cons_zero, List.set_cons_succ]
    refine wpAnyH_take (i := 9) (oi := ({ dst := some 28, op := Go.Op.unOp Go.UnOp.not 4 (Go.Operand.tmp 27), type := 4, pos := "run.go:106", after := #[{ on := 8, ground := Go.Ground.data }], guard := none } : Oper)) (v := ?_) rfl (by kernel_rfl) (by kernel_rfl) (by kernel_rfl) (fun _ _ _ h => h) (Or.inl ⟨by rfl, ?_⟩) hH ?_
    rotate_left
    · intro w hSw; (try dsimp only at hSw); go_simp; try with_reducible rfl
    try simp only [Act.put, List.setIfInBounds_toArray, List.set_cons_zero, List.set_cons_succ]
    refine wpAnyH_done (by kernel_rfl) ?_ _
    refine NoPanic.normal ?_
    go_wp2_with fail
    exact bodyPost_ret (v := .tuple #[.agg #[.int .i64 0, .int .i64 0, .bool false, .int .i64 0], .int .i64 9]) (by simp [results, Tryd.results36, go_sem, c0, c1, c2, c3, z0, z1, z2, z3]) rfl ⟨by rw [HS.out], by go_grown⟩
set_option maxRecDepth 100000 in
set_option maxHeartbeats 3200000 in
theorem next_4 (M : Mst) (hM : VM M) (x g1 g2 i1 g0 i2 g3 : Nat) (pl wi : Int) (fl : Bool) (st t n : Int) (w : World) (hR : RulesAt w M x g1 g2 i1 g0 i2 g3) (hv : VE ⟨t, 4, n⟩) (ht : st ≤ t) :
    Calls Tryd.prog 36 #[RV x g1 g2 i1 g0 i2 g3, .agg #[.int .i64 pl, .int .i64 wi, .bool fl, .int .i64 st], .agg #[.int .i64 t, .int .i64 4, .int .i64 n]] w fun e w' => e = .returned (.tuple #[encB (stp M ⟨pl, wi, fl, st⟩ ⟨t, 4, n⟩).1, .int .i64 (stp M ⟨pl, wi, fl, st⟩ ⟨t, 4, n⟩).2]) ∧ Bl w w' := by
  have RR := Lib.hid (fun w' (h : Bl w w') => hR.below h)
  have HM := Lib.hid hM
  clear hR hM
  have Q := Lib.hid (show decide (VE ⟨t, 4, n⟩) = true from decide_eq_true hv)
  have HA := Lib.hid (show alw M ⟨pl, wi, fl, st⟩ 4 t ↔ pl = 2 by simp [alw])
  have H1 := Lib.hid (show alw M ⟨pl, wi, fl, st⟩ 4 t → stp M ⟨pl, wi, fl, st⟩ ⟨t, 4, n⟩ = (⟨0, wi, fl, t⟩, 0) by intro h; unfold stp; rw [if_pos ⟨hv, ht⟩, if_pos h]; simp [doe])
  have H2 := Lib.hid (show ¬ alw M ⟨pl, wi, fl, st⟩ 4 t → stp M ⟨pl, wi, fl, st⟩ ⟨t, 4, n⟩ = (Bal.zero, 9) by intro h; unfold stp; rw [if_pos ⟨hv, ht⟩, if_neg h])
  clear hv
  by_cases q : decide (pl = 2) = true
  · have AX := Lib.hid q
    have HS := Lib.hid (H1.out (HA.out.2 (of_decide_eq_true q)))
    clear q
    go_enter Tryd.func36, Tryd.ntmps36
    go_wp2_with fail
    refine (isEvent_any ⟨t, 4, n⟩ _).mono ?_
    rintro e1 w1 ⟨rfl, hb⟩
    have r0 := kcb hb (b := w.heap.size) (o := 8) (v := .func (.func 48) #[] #[.pointer (some ⟨i1, 0, none⟩)]) (by go_cell)
    have r1 := kcb hb (b := w.heap.size) (o := 9) (v := .func (.func 47) #[] #[.pointer (some ⟨g0, 0, none⟩)]) (by go_cell)
    have s0 := kcb hb (b := w.heap.size + 1) (o := 0) (v := .int .i64 pl) (by go_cell)
    have s1 := kcb hb (b := w.heap.size + 1) (o := 1) (v := .int .i64 wi) (by go_cell)
    have s2 := kcb hb (b := w.heap.size + 1) (o := 2) (v := .bool fl) (by go_cell)
    have s3 := kcb hb (b := w.heap.size + 1) (o := 3) (v := .int .i64 st) (by go_cell)
    have e0 := kcb hb (b := w.heap.size + 1 + 1) (o := 0) (v := .int .i64 t) (by go_cell)
    have e1 := kcb hb (b := w.heap.size + 1 + 1) (o := 1) (v := .int .i64 4) (by go_cell)
    have e2 := kcb hb (b := w.heap.size + 1 + 1) (o := 2) (v := .int .i64 n) (by go_cell)
    have c0 := kcb hb (b := w.heap.size + 1 + 1 + 1) (o := 0) (v := .int .i64 0) (by go_cell)
    have c1 := kcb hb (b := w.heap.size + 1 + 1 + 1) (o := 1) (v := .int .i64 0) (by go_cell)
    have c2 := kcb hb (b := w.heap.size + 1 + 1 + 1) (o := 2) (v := .bool false) (by go_cell)
    have c3 := kcb hb (b := w.heap.size + 1 + 1 + 1) (o := 3) (v := .int .i64 0) (by go_cell)
    have y0 := fzb hb (b := w.heap.size + 1) (o := 0) (by (try simp only [frozen?_alloc_cells, World.frozen?_setCell]); first | assumption | exact fz_new (by (try simp only [World.size_alloc, World.size_setCell]); omega)) (by (try simp only [World.size_alloc, World.size_setCell]); omega)
    have y1 := fzb hb (b := w.heap.size + 1) (o := 1) (by (try simp only [frozen?_alloc_cells, World.frozen?_setCell]); first | assumption | exact fz_new (by (try simp only [World.size_alloc, World.size_setCell]); omega)) (by (try simp only [World.size_alloc, World.size_setCell]); omega)
    have y2 := fzb hb (b := w.heap.size + 1) (o := 2) (by (try simp only [frozen?_alloc_cells, World.frozen?_setCell]); first | assumption | exact fz_new (by (try simp only [World.size_alloc, World.size_setCell]); omega)) (by (try simp only [World.size_alloc, World.size_setCell]); omega)
    have y3 := fzb hb (b := w.heap.size + 1) (o := 3) (by (try simp only [frozen?_alloc_cells, World.frozen?_setCell]); first | assumption | exact fz_new (by (try simp only [World.size_alloc, World.size_setCell]); omega)) (by (try simp only [World.size_alloc, World.size_setCell]); omega)
    have z0 := fzb hb (b := w.heap.size + 1 + 1 + 1) (o := 0) (by (try simp only [frozen?_alloc_cells, World.frozen?_setCell]); first | assumption | exact fz_new (by (try simp only [World.size_alloc, World.size_setCell]); omega)) (by (try simp only [World.size_alloc, World.size_setCell]); omega)
    have z1 := fzb hb (b := w.heap.size + 1 + 1 + 1) (o := 1) (by (try simp only [frozen?_alloc_cells, World.frozen?_setCell]); first | assumption | exact fz_new (by (try simp only [World.size_alloc, World.size_setCell]); omega)) (by (try simp only [World.size_alloc, World.size_setCell]); omega)
    have z2 := fzb hb (b := w.heap.size + 1 + 1 + 1) (o := 2) (by (try simp only [frozen?_alloc_cells, World.frozen?_setCell]); first | assumption | exact fz_new (by (try simp only [World.size_alloc, World.size_setCell]); omega)) (by (try simp only [World.size_alloc, World.size_setCell]); omega)
    have z3 := fzb hb (b := w.heap.size + 1 + 1 + 1) (o := 3) (by (try simp only [frozen?_alloc_cells, World.frozen?_setCell]); first | assumption | exact fz_new (by (try simp only [World.size_alloc, World.size_setCell]); omega)) (by (try simp only [World.size_alloc, World.size_setCell]); omega)
    have B1 : Bl w w1 := Below.trans (by go_grown) (hb.mono (by (try simp only [World.size_alloc]); omega))
    have l1 := ltb c0
    clear hb
    rw [Q.out]
    go_wp2_with fail
    refine wp_region_noPanic ?_
    refine wp_region_held_drew (S := fun w' => Bl w w' ∧ w'.cell? ⟨w.heap.size, 8, none⟩ = some (.func (.func 48) #[] #[.pointer (some ⟨i1, 0, none⟩)]) ∧ w'.cell? ⟨w.heap.size + 1, 0, none⟩ = some (.int .i64 pl) ∧ w'.cell? ⟨w.heap.size + 1, 1, none⟩ = some (.int .i64 wi) ∧ w'.cell? ⟨w.heap.size + 1, 2, none⟩ = some (.bool fl) ∧ w'.cell? ⟨w.heap.size + 1, 3, none⟩ = some (.int .i64 st) ∧ w'.cell? ⟨w.heap.size + 1 + 1, 0, none⟩ = some (.int .i64 t) ∧ w'.cell? ⟨w.heap.size + 1 + 1, 1, none⟩ = some (.int .i64 4)) (by kernel_rfl) (⟨B1.tr (Bl.d1 _), kcb (Bl.d1 _) r0, kcb (Bl.d1 _) s0, kcb (Bl.d1 _) s1, kcb (Bl.d1 _) s2, kcb (Bl.d1 _) s3, kcb (Bl.d1 _) e0, kcb (Bl.d1 _) e1⟩) (fun hH => ?_)
    refine wpAnyH_take (i := 0) (oi := ({ dst := some 19, op := Go.Op.fieldAddr 38 (Go.Operand.tmp 5) 1, type := 0, pos := "run.go:106", after := #[], guard := none } : Oper)) (v := ?_) rfl (by kernel_rfl) (by kernel_rfl) (by kernel_rfl) (fun _ _ _ h => h) (Or.inl ⟨by rfl, ?_⟩) hH ?_
    rotate_left
    · intro w hSw; (try dsimp only at hSw); go_simp; try with_reducible rfl
    try simp only [Act.put, List.setIfInBounds_toArray, List.set_cons_zero, List.set_cons_succ]
    refine wpAnyH_take (i := 1) (oi := ({ dst := some 20, op := Go.Op.load 3 (Go.Operand.tmp 19), type := 3, pos := "run.go:106", after := #[{ on := 0, ground := Go.Ground.data }], guard := none } : Oper)) (v := ?_) rfl (by kernel_rfl) (by kernel_rfl) (by kernel_rfl) (fun _ _ _ h => h) (Or.inl ⟨by rfl, ?_⟩) hH ?_
    rotate_left
    · intro w hSw; (try dsimp only at hSw); go_simp; try with_reducible rfl
    try simp only [Act.put, List.setIfInBounds_toArray, List.set_cons_zero, List.set_cons_succ]
    refine wpAnyH_take (i := 2) (oi := ({ dst := some 21, op := Go.Op.indexAddr 75 (Go.Operand.tmp 3) (Go.Operand.tmp 20), type := 0, pos := "run.go:106", after := #[{ on := 1, ground := Go.Ground.data }], guard := none } : Oper)) (v := ?_) rfl (by kernel_rfl) (by kernel_rfl) (by kernel_rfl) (fun _ _ _ h => h) (Or.inl ⟨by rfl, ?_⟩) hH ?_
    rotate_left
    · intro w hSw; (try dsimp only at hSw); go_simp; try with_reducible rfl
    try simp only [Act.put, List.setIfInBounds_toArray, List.set_cons_zero, List.set_cons_succ]
    refine wpAnyH_take (i := 3) (oi := ({ dst := some 22, op := Go.Op.fieldAddr 73 (Go.Operand.tmp 21) 0, type := 0, pos := "run.go:106", after := #[{ on := 2, ground := Go.Ground.data }], guard := none } : Oper)) (v := ?_) rfl (by kernel_rfl) (by kernel_rfl) (by kernel_rfl) (fun _ _ _ h => h) (Or.inl ⟨by rfl, ?_⟩) hH ?_
    rotate_left
    · intro w hSw; (try dsimp only at hSw); go_simp; try with_reducible rfl
    try simp only [Act.put, List.setIfInBounds_toArray, List.set_cons_zero, List.set_cons_succ]
    refine wpAnyH_take (i := 4) (oi := ({ dst := some 23, op := Go.Op.load 70 (Go.Operand.tmp 22), type := 70, pos := "run.go:106", after := #[{ on := 3, ground := Go.Ground.data }], guard := none } : Oper)) (v := ?_) rfl (by kernel_rfl) (by kernel_rfl) (by kernel_rfl) (fun _ _ _ h => h) (Or.inl ⟨by rfl, ?_⟩) hH ?_
    rotate_left
    · intro w hSw; (try dsimp only at hSw); go_simp; try with_reducible rfl
    try simp only [Act.put, List.setIfInBounds_toArray, List.set_cons_zero, List.set_cons_succ]
    refine wpAnyH_take (i := 5) (oi := ({ dst := some 24, op := Go.Op.load 53 (Go.Operand.tmp 4), type := 53, pos := "run.go:106", after := #[], guard := none } : Oper)) (v := ?_) rfl (by kernel_rfl) (by kernel_rfl) (by kernel_rfl) (fun _ _ _ h => h) (Or.inl ⟨by rfl, ?_⟩) hH ?_
    rotate_left
    · intro w hSw; (try dsimp only at hSw); go_simp; try with_reducible rfl
    try simp only [Act.put, List.setIfInBounds_toArray, List.set_cons_zero, List.set_cons_succ]
    refine wpAnyH_take (i := 6) (oi := ({ dst := some 25, op := Go.Op.fieldAddr 38 (Go.Operand.tmp 5) 0, type := 0, pos := "run.go:106", after := #[], guard := none } : Oper)) (v := ?_) rfl (by kernel_rfl) (by kernel_rfl) (by kernel_rfl) (fun _ _ _ h => h) (Or.inl ⟨by rfl, ?_⟩) hH ?_
    rotate_left
    · intro w hSw; (try dsimp only at hSw); go_simp; try with_reducible rfl
    try simp only [Act.put, List.setIfInBounds_toArray, List.set_cons_zero, List.set_cons_succ]
    refine wpAnyH_take (i := 7) (oi := ({ dst := some 26, op := Go.Op.load 3 (Go.Operand.tmp 25), type := 3, pos := "run.go:106", after := #[{ on := 6, ground := Go.Ground.data }], guard := none } : Oper)) (v := ?_) rfl (by kernel_rfl) (by kernel_rfl) (by kernel_rfl) (fun _ _ _ h => h) (Or.inl ⟨by rfl, ?_⟩) hH ?_
    rotate_left
    · intro w hSw; (try dsimp only at hSw); go_simp; try with_reducible rfl
    try simp only [Act.put, List.setIfInBounds_toArray, List.set_cons_zero, List.set_cons_succ]
    refine wpAnyH_ready (rs := [8]) (by kernel_rfl) (by simp) ?_
    refine AllReadyH.cons (o := ({ dst := some 27, op := Go.Op.call { callee := Go.Callee.value (Go.Operand.tmp 23), args := #[Go.Operand.tmp 24, Go.Operand.tmp 26], argTypes := #[53, 3] }, type := 4, pos := "run.go:106", after := #[{ on := 4, ground := Go.Ground.data }, { on := 5, ground := Go.Ground.data }, { on := 7, ground := Go.Ground.data }], guard := none } : Oper)) rfl (fun K hK => ?_) AllReadyH.nil
    go_simp
    go_at_call 48
    refine (is1_any ⟨pl, wi, fl, st⟩ t 2 i1 _ (RR.out _ hH.1).d1).mono ?_
    rintro e9 w2 ⟨rfl, hb⟩
    have hb2 := (Bl.d1 w1).tr hb
    rw [AX.out]
    have r0 := kcb hb2 r0
    have r1 := kcb hb2 r1
    have s0 := kcb hb2 s0
    have s1 := kcb hb2 s1
    have s2 := kcb hb2 s2
    have s3 := kcb hb2 s3
    have e0 := kcb hb2 e0
    have e1 := kcb hb2 e1
    have e2 := kcb hb2 e2
    have c0 := kcb hb2 c0
    have c1 := kcb hb2 c1
    have c2 := kcb hb2 c2
    have c3 := kcb hb2 c3
    have y0 := fzb hb2 y0 (by omega)
    have z0 := fzb hb2 z0 (by omega)
    have y1 := fzb hb2 y1 (by omega)
    have z1 := fzb hb2 z1 (by omega)
    have y2 := fzb hb2 y2 (by omega)
    have z2 := fzb hb2 z2 (by omega)
    have y3 := fzb hb2 y3 (by omega)
    have z3 := fzb hb2 z3 (by omega)
    have B2 := B1.tr hb2
    have l2 := ltb c0
    refine hK.out _ _ ⟨hH.1.tr hb, kcb hb hH.2.1, kcb hb hH.2.2.1, kcb hb hH.2.2.2.1, kcb hb hH.2.2.2.2.1, kcb hb hH.2.2.2.2.2.1, kcb hb hH.2.2.2.2.2.2.1, kcb hb hH.2.2.2.2.2.2.2⟩ (fun hH' => ?_)
    clear hH
    have hH := hH'
    clear hH' hK K
    try simp only [Act.put, List.setIfInBounds_toArray, List.set_cons_zero, List.set_cons_succ]
    refine wpAnyH_take (i := 9) (oi := ({ dst := some 28, op := Go.Op.unOp Go.UnOp.not 4 (Go.Operand.tmp 27), type := 4, pos := "run.go:106", after := #[{ on := 8, ground := Go.Ground.data }], guard := none } : Oper)) (v := ?_) rfl (by kernel_rfl) (by kernel_rfl) (by kernel_rfl) (fun _ _ _ h => h) (Or.inl ⟨by rfl, ?_⟩) hH ?_
    rotate_left
    · intro w hSw; (try dsimp only at hSw); go_simp; try with_reducible rfl
    try simp only [Act.put, List.setIfInBounds_toArray, List.set_cons_zero, List.set_cons_succ]
    refine wpAnyH_done (by kernel_rfl) ?_ _
    refine NoPanic.normal ?_
    go_wp2_with fail
    refine wp_region_noPanic ?_
    refine wp_region_held_drew (S := fun w' => Bl w w' ∧ w'.cell? ⟨w.heap.size, 9, none⟩ = some (.func (.func 47) #[] #[.pointer (some ⟨g0, 0, none⟩)]) ∧ w'.cell? ⟨w.heap.size + 1 + 1, 0, none⟩ = some (.int .i64 t) ∧ w'.cell? ⟨w.heap.size + 1 + 1, 1, none⟩ = some (.int .i64 4) ∧ w'.cell? ⟨w.heap.size + 1 + 1, 2, none⟩ = some (.int .i64 n)) (by kernel_rfl) (⟨B2.tr (Bl.d1 _), kcb (Bl.d1 _) r1, kcb (Bl.d1 _) e0, kcb (Bl.d1 _) e1, kcb (Bl.d1 _) e2⟩) (fun hH => ?_)
    refine wpAnyH_take (i := 0) (oi := ({ dst := some 30, op := Go.Op.fieldAddr 38 (Go.Operand.tmp 5) 1, type := 0, pos := "run.go:109", after := #[], guard := none } : Oper)) (v := ?_) rfl (by kernel_rfl) (by kernel_rfl) (by kernel_rfl) (fun _ _ _ h => h) (Or.inl ⟨by rfl, ?_⟩) hH ?_
    rotate_left
    · intro w hSw; (try dsimp only at hSw); go_simp; try with_reducible rfl
    try simp only [Act.put, List.setIfInBounds_toArray, List.set_cons_zero, List.set_cons_succ]
    refine wpAnyH_take (i := 1) (oi := ({ dst := some 31, op := Go.Op.load 3 (Go.Operand.tmp 30), type := 3, pos := "run.go:109", after := #[{ on := 0, ground := Go.Ground.data }], guard := none } : Oper)) (v := ?_) rfl (by kernel_rfl) (by kernel_rfl) (by kernel_rfl) (fun _ _ _ h => h) (Or.inl ⟨by rfl, ?_⟩) hH ?_
    rotate_left
    · intro w hSw; (try dsimp only at hSw); go_simp; try with_reducible rfl
    try simp only [Act.put, List.setIfInBounds_toArray, List.set_cons_zero, List.set_cons_succ]
    refine wpAnyH_take (i := 2) (oi := ({ dst := some 32, op := Go.Op.indexAddr 75 (Go.Operand.tmp 3) (Go.Operand.tmp 31), type := 0, pos := "run.go:109", after := #[{ on := 1, ground := Go.Ground.data }], guard := none } : Oper)) (v := ?_) rfl (by kernel_rfl) (by kernel_rfl) (by kernel_rfl) (fun _ _ _ h => h) (Or.inl ⟨by rfl, ?_⟩) hH ?_
    rotate_left
    · intro w hSw; (try dsimp only at hSw); go_simp; try with_reducible rfl
    try simp only [Act.put, List.setIfInBounds_toArray, List.set_cons_zero, List.set_cons_succ]
    refine wpAnyH_take (i := 3) (oi := ({ dst := some 33, op := Go.Op.fieldAddr 73 (Go.Operand.tmp 32) 1, type := 0, pos := "run.go:109", after := #[{ on := 2, ground := Go.Ground.data }], guard := none } : Oper)) (v := ?_) rfl (by kernel_rfl) (by kernel_rfl) (by kernel_rfl) (fun _ _ _ h => h) (Or.inl ⟨by rfl, ?_⟩) hH ?_
    rotate_left
    · intro w hSw; (try dsimp only at hSw); go_simp; try with_reducible rfl
    try simp only [Act.put, List.setIfInBounds_toArray, List.set_cons_zero, List.set_cons_succ]
    refine wpAnyH_take (i := 4) (oi := ({ dst := some 34, op := Go.Op.load 71 (Go.Operand.tmp 33), type := 71, pos := "run.go:109", after := #[{ on := 3, ground := Go.Ground.data }], guard := none } : Oper)) (v := ?_) rfl (by kernel_rfl) (by kernel_rfl) (by kernel_rfl) (fun _ _ _ h => h) (Or.inl ⟨by rfl, ?_⟩) hH ?_
    rotate_left
    · intro w hSw; (try dsimp only at hSw); go_simp; try with_reducible rfl
    try simp only [Act.put, List.setIfInBounds_toArray, List.set_cons_zero, List.set_cons_succ]
    refine wpAnyH_take (i := 6) (oi := ({ dst := some 36, op := Go.Op.fieldAddr 38 (Go.Operand.tmp 5) 2, type := 0, pos := "run.go:109", after := #[], guard := none } : Oper)) (v := ?_) rfl (by kernel_rfl) (by kernel_rfl) (by kernel_rfl) (fun _ _ _ h => h) (Or.inl ⟨by rfl, ?_⟩) hH ?_
    rotate_left
    · intro w hSw; (try dsimp only at hSw); go_simp; try with_reducible rfl
    try simp only [Act.put, List.setIfInBounds_toArray, List.set_cons_zero, List.set_cons_succ]
    refine wpAnyH_take (i := 7) (oi := ({ dst := some 37, op := Go.Op.load 3 (Go.Operand.tmp 36), type := 3, pos := "run.go:109", after := #[{ on := 6, ground := Go.Ground.data }], guard := none } : Oper)) (v := ?_) rfl (by kernel_rfl) (by kernel_rfl) (by kernel_rfl) (fun _ _ _ h => h) (Or.inl ⟨by rfl, ?_⟩) hH ?_
    rotate_left
    · intro w hSw; (try dsimp only at hSw); go_simp; try with_reducible rfl
    try simp only [Act.put, List.setIfInBounds_toArray, List.set_cons_zero, List.set_cons_succ]
    refine wpAnyH_ready (rs := [5]) (by kernel_rfl) (by simp) ?_
    refine AllReadyH.cons (o := ({ dst := some 35, op := Go.Op.load 53 (Go.Operand.tmp 4), type := 53, pos := "run.go:109", after := #[], guard := none } : Oper)) rfl (fun K hK => ?_) AllReadyH.nil
    go_simp
    have r0 := kcb (Bl.d1 w2) r0
    have r1 := kcb (Bl.d1 w2) r1
    have s0 := kcb (Bl.d1 w2) s0
    have s1 := kcb (Bl.d1 w2) s1
    have s2 := kcb (Bl.d1 w2) s2
    have s3 := kcb (Bl.d1 w2) s3
    have e0 := kcb (Bl.d1 w2) e0
    have e1 := kcb (Bl.d1 w2) e1
    have e2 := kcb (Bl.d1 w2) e2
    have c0 := kcb (Bl.d1 w2) c0
    have c1 := kcb (Bl.d1 w2) c1
    have c2 := kcb (Bl.d1 w2) c2
    have c3 := kcb (Bl.d1 w2) c3
    refine hK.out _ _ hH (fun hH' => ?_)
    clear hH' hK K
    try simp only [Act.put, List.setIfInBounds_toArray, List.set_cons_zero, List.set_cons_succ]
    refine wpAnyH_ready (rs := [8]) (by kernel_rfl) (by simp) ?_
    refine AllReadyH.cons (o := ({ dst := some 38, op := Go.Op.call { callee := Go.Callee.value (Go.Operand.tmp 34), args := #[Go.Operand.tmp 35, Go.Operand.tmp 37], argTypes := #[53, 3] }, type := 53, pos := "run.go:109", after := #[{ on := 4, ground := Go.Ground.data }, { on := 5, ground := Go.Ground.data }, { on := 7, ground := Go.Ground.data }], guard := none } : Oper)) rfl (fun K hK => ?_) AllReadyH.nil
    go_simp
    go_at_call 47
    refine (goes1_any ⟨pl, wi, fl, st⟩ n 0 g0 _ (RR.out _ hH.1).c0).mono ?_
    rintro e9 w3 ⟨rfl, hb⟩
    have hb3 := (Bl.d1 w2).tr hb
    have r0 := kcb hb r0
    have r1 := kcb hb r1
    have s0 := kcb hb s0
    have s1 := kcb hb s1
    have s2 := kcb hb s2
    have s3 := kcb hb s3
    have e0 := kcb hb e0
    have e1 := kcb hb e1
    have e2 := kcb hb e2
    have c0 := kcb hb c0
    have c1 := kcb hb c1
    have c2 := kcb hb c2
    have c3 := kcb hb c3
    have y0 := fzb hb3 y0 (by omega)
    have z0 := fzb hb3 z0 (by omega)
    have y1 := fzb hb3 y1 (by omega)
    have z1 := fzb hb3 z1 (by omega)
    have y2 := fzb hb3 y2 (by omega)
    have z2 := fzb hb3 z2 (by omega)
    have y3 := fzb hb3 y3 (by omega)
    have z3 := fzb hb3 z3 (by omega)
    have B3 := B2.tr hb3
    have l3 := ltb c0
    refine hK.out _ _ ⟨hH.1.tr hb, kcb hb hH.2.1, kcb hb hH.2.2.1, kcb hb hH.2.2.2.1, kcb hb hH.2.2.2.2⟩ (fun hH' => ?_)
    clear hH
    have hH := hH'
    clear hH' hK K
    try simp only [Act.put, List.setIfInBounds_toArray, List.set_cons_zero, List.set_cons_succ]
    refine wpAnyH_ready (rs := [9]) (by kernel_rfl) (by simp) ?_
    refine AllReadyH.cons (o := ({ dst := none, op := Go.Op.store 53 (Go.Operand.tmp 4) (Go.Operand.tmp 38), type := 0, pos := "run.go:109", after := #[{ on := 8, ground := Go.Ground.data }, { on := 8, ground := Go.Ground.chain }, { on := 0, ground := Go.Ground.phase }, { on := 1, ground := Go.Ground.phase }, { on := 2, ground := Go.Ground.phase }, { on := 3, ground := Go.Ground.phase }, { on := 4, ground := Go.Ground.phase }, { on := 5, ground := Go.Ground.phase }, { on := 6, ground := Go.Ground.phase }, { on := 7, ground := Go.Ground.phase }, { on := 8, ground := Go.Ground.phase }], guard := none } : Oper)) rfl (fun K hK => ?_) AllReadyH.nil
    go_simp
    refine hK.out _ _ ⟨by go_grown, by go_cell, by go_cell, by go_cell, by go_cell⟩ (fun hH' => ?_)
    clear hH' hK K
    try simp only [Act.put, List.setIfInBounds_toArray, List.set_cons_zero, List.set_cons_succ]
    refine wpAnyH_done (by kernel_rfl) ?_ _
    refine NoPanic.normal ?_
    obtain ⟨V, hV⟩ : ∃ V, V = ((((w3).setCell ⟨w.heap.size + 1, 0, none⟩ (.int .i64 0)).setCell ⟨w.heap.size + 1, 1, none⟩ (.int .i64 wi)).setCell ⟨w.heap.size + 1, 2, none⟩ (.bool fl)).setCell ⟨w.heap.size + 1, 3, none⟩ (.int .i64 st) := ⟨_, rfl⟩
    have BV : Bl w V := by rw [hV]; go_grown
    have s0 : V.cell? ⟨w.heap.size + 1, 0, none⟩ = some (.int .i64 0) := by rw [hV]; go_cell
    have s1 : V.cell? ⟨w.heap.size + 1, 1, none⟩ = some (.int .i64 wi) := by rw [hV]; go_cell
    have s2 : V.cell? ⟨w.heap.size + 1, 2, none⟩ = some (.bool fl) := by rw [hV]; go_cell
    have s3 : V.cell? ⟨w.heap.size + 1, 3, none⟩ = some (.int .i64 st) := by rw [hV]; go_cell
    have e0 : V.cell? ⟨w.heap.size + 1 + 1, 0, none⟩ = some (.int .i64 t) := by rw [hV]; go_cell
    have c0 : V.cell? ⟨w.heap.size + 1 + 1 + 1, 0, none⟩ = some (.int .i64 0) := by rw [hV]; go_cell
    have c1 : V.cell? ⟨w.heap.size + 1 + 1 + 1, 1, none⟩ = some (.int .i64 0) := by rw [hV]; go_cell
    have c2 : V.cell? ⟨w.heap.size + 1 + 1 + 1, 2, none⟩ = some (.bool false) := by rw [hV]; go_cell
    have c3 : V.cell? ⟨w.heap.size + 1 + 1 + 1, 3, none⟩ = some (.int .i64 0) := by rw [hV]; go_cell
    have y0 : V.frozen? ⟨w.heap.size + 1, 0, none⟩ = false := by rw [hV]; simp only [World.frozen?_setCell]; exact y0
    have z0 : V.frozen? ⟨w.heap.size + 1 + 1 + 1, 0, none⟩ = false := by rw [hV]; simp only [World.frozen?_setCell]; exact z0
    have y1 : V.frozen? ⟨w.heap.size + 1, 1, none⟩ = false := by rw [hV]; simp only [World.frozen?_setCell]; exact y1
    have z1 : V.frozen? ⟨w.heap.size + 1 + 1 + 1, 1, none⟩ = false := by rw [hV]; simp only [World.frozen?_setCell]; exact z1
    have y2 : V.frozen? ⟨w.heap.size + 1, 2, none⟩ = false := by rw [hV]; simp only [World.frozen?_setCell]; exact y2
    have z2 : V.frozen? ⟨w.heap.size + 1 + 1 + 1, 2, none⟩ = false := by rw [hV]; simp only [World.frozen?_setCell]; exact z2
    have y3 : V.frozen? ⟨w.heap.size + 1, 3, none⟩ = false := by rw [hV]; simp only [World.frozen?_setCell]; exact y3
    have z3 : V.frozen? ⟨w.heap.size + 1 + 1 + 1, 3, none⟩ = false := by rw [hV]; simp only [World.frozen?_setCell]; exact z3
    rw [← hV]
    clear hV hH e1 e2 r0 r1
    have lV := ltb c0
    go_wp2_with fail
    exact bodyPost_ret (v := .tuple #[.agg #[.int .i64 0, .int .i64 wi, .bool fl, .int .i64 t], .int .i64 0]) (by simp [results, Tryd.results36, go_sem, c0, c1, c2, c3, z0, z1, z2, z3]) rfl ⟨by rw [HS.out], by go_grown⟩
  · have AX := Lib.hid (show decide (pl = 2) = false by simpa using q)
    have HS := Lib.hid (H2.out (fun h => (fun h => q (decide_eq_true h)) (HA.out.1 h)))
    clear q
    go_enter Tryd.func36, Tryd.ntmps36
    go_wp2_with fail
    refine (isEvent_any ⟨t, 4, n⟩ _).mono ?_
    rintro e1 w1 ⟨rfl, hb⟩
    have r0 := kcb hb (b := w.heap.size) (o := 8) (v := .func (.func 48) #[] #[.pointer (some ⟨i1, 0, none⟩)]) (by go_cell)
    have r1 := kcb hb (b := w.heap.size) (o := 9) (v := .func (.func 47) #[] #[.pointer (some ⟨g0, 0, none⟩)]) (by go_cell)
    have s0 := kcb hb (b := w.heap.size + 1) (o := 0) (v := .int .i64 pl) (by go_cell)
    have s1 := kcb hb (b := w.heap.size + 1) (o := 1) (v := .int .i64 wi) (by go_cell)
    have s2 := kcb hb (b := w.heap.size + 1) (o := 2) (v := .bool fl) (by go_cell)
    have s3 := kcb hb (b := w.heap.size + 1) (o := 3) (v := .int .i64 st) (by go_cell)
    have e0 := kcb hb (b := w.heap.size + 1 + 1) (o := 0) (v := .int .i64 t) (by go_cell)
    have e1 := kcb hb (b := w.heap.size + 1 + 1) (o := 1) (v := .int .i64 4) (by go_cell)
    have e2 := kcb hb (b := w.heap.size + 1 + 1) (o := 2) (v := .int .i64 n) (by go_cell)
    have c0 := kcb hb (b := w.heap.size + 1 + 1 + 1) (o := 0) (v := .int .i64 0) (by go_cell)
    have c1 := kcb hb (b := w.heap.size + 1 + 1 + 1) (o := 1) (v := .int .i64 0) (by go_cell)
    have c2 := kcb hb (b := w.heap.size + 1 + 1 + 1) (o := 2) (v := .bool false) (by go_cell)
    have c3 := kcb hb (b := w.heap.size + 1 + 1 + 1) (o := 3) (v := .int .i64 0) (by go_cell)
    have y0 := fzb hb (b := w.heap.size + 1) (o := 0) (by (try simp only [frozen?_alloc_cells, World.frozen?_setCell]); first | assumption | exact fz_new (by (try simp only [World.size_alloc, World.size_setCell]); omega)) (by (try simp only [World.size_alloc, World.size_setCell]); omega)
    have y1 := fzb hb (b := w.heap.size + 1) (o := 1) (by (try simp only [frozen?_alloc_cells, World.frozen?_setCell]); first | assumption | exact fz_new (by (try simp only [World.size_alloc, World.size_setCell]); omega)) (by (try simp only [World.size_alloc, World.size_setCell]); omega)
    have y2 := fzb hb (b := w.heap.size + 1) (o := 2) (by (try simp only [frozen?_alloc_cells, World.frozen?_setCell]); first | assumption | exact fz_new (by (try simp only [World.size_alloc, World.size_setCell]); omega)) (by (try simp only [World.size_alloc, World.size_setCell]); omega)
    have y3 := fzb hb (b := w.heap.size + 1) (o := 3) (by (try simp only [frozen?_alloc_cells, World.frozen?_setCell]); first | assumption | exact fz_new (by (try simp only [World.size_alloc, World.size_setCell]); omega)) (by (try simp only [World.size_alloc, World.size_setCell]); omega)
    have z0 := fzb hb (b := w.heap.size + 1 + 1 + 1) (o := 0) (by (try simp only [frozen?_alloc_cells, World.frozen?_setCell]); first | assumption | exact fz_new (by (try simp only [World.size_alloc, World.size_setCell]); omega)) (by (try simp only [World.size_alloc, World.size_setCell]); omega)
    have z1 := fzb hb (b := w.heap.size + 1 + 1 + 1) (o := 1) (by (try simp only [frozen?_alloc_cells, World.frozen?_setCell]); first | assumption | exact fz_new (by (try simp only [World.size_alloc, World.size_setCell]); omega)) (by (try simp only [World.size_alloc, World.size_setCell]); omega)
    have z2 := fzb hb (b := w.heap.size + 1 + 1 + 1) (o := 2) (by (try simp only [frozen?_alloc_cells, World.frozen?_setCell]); first | assumption | exact fz_new (by (try simp only [World.size_alloc, World.size_setCell]); omega)) (by (try simp only [World.size_alloc, World.size_setCell]); omega)
    have z3 := fzb hb (b := w.heap.size + 1 + 1 + 1) (o := 3) (by (try simp only [frozen?_alloc_cells, World.frozen?_setCell]); first | assumption | exact fz_new (by (try simp only [World.size_alloc, World.size_setCell]); omega)) (by (try simp only [World.size_alloc, World.size_setCell]); omega)
    have B1 : Bl w w1 := Below.trans (by go_grown) (hb.mono (by (try simp only [World.size_alloc]); omega))
    have l1 := ltb c0
    clear hb
    rw [Q.out]
    go_wp2_with fail
    refine wp_region_noPanic ?_
    refine wp_region_held_drew (S := fun w' => Bl w w' ∧ w'.cell? ⟨w.heap.size, 8, none⟩ = some (.func (.func 48) #[] #[.pointer (some ⟨i1, 0, none⟩)]) ∧ w'.cell? ⟨w.heap.size + 1, 0, none⟩ = some (.int .i64 pl) ∧ w'.cell? ⟨w.heap.size + 1, 1, none⟩ = some (.int .i64 wi) ∧ w'.cell? ⟨w.heap.size + 1, 2, none⟩ = some (.bool fl) ∧ w'.cell? ⟨w.heap.size + 1, 3, none⟩ = some (.int .i64 st) ∧ w'.cell? ⟨w.heap.size + 1 + 1, 0, none⟩ = some (.int .i64 t) ∧ w'.cell? ⟨w.heap.size + 1 + 1, 1, none⟩ = some (.int .i64 4)) (by kernel_rfl) (⟨B1.tr (Bl.d1 _), kcb (Bl.d1 _) r0, kcb (Bl.d1 _) s0, kcb (Bl.d1 _) s1, kcb (Bl.d1 _) s2, kcb (Bl.d1 _) s3, kcb (Bl.d1 _) e0, kcb (Bl.d1 _) e1⟩) (fun hH => ?_)
    refine wpAnyH_take (i := 0) (oi := ({ dst := some 19, op := Go.Op.fieldAddr 38 (Go.Operand.tmp 5) 1, type := 0, pos := "run.go:106", after := #[], guard := none } : Oper)) (v := ?_) rfl (by kernel_rfl) (by kernel_rfl) (by kernel_rfl) (fun _ _ _ h => h) (Or.inl ⟨by rfl, ?_⟩) hH ?_
    rotate_left
    · intro w hSw; (try dsimp only at hSw); go_simp; try with_reducible rfl
    try simp only [Act.put, List.setIfInBounds_toArray, List.set_cons_zero, List.set_cons_succ]
    refine wpAnyH_take (i := 1) (oi := ({ dst := some 20, op := Go.Op.load 3 (Go.Operand.tmp 19), type := 3, pos := "run.go:106", after := #[{ on := 0, ground := Go.Ground.data }], guard := none } : Oper)) (v := ?_) rfl (by kernel_rfl) (by kernel_rfl) (by kernel_rfl) (fun _ _ _ h => h) (Or.inl ⟨by rfl, ?_⟩) hH ?_
    rotate_left
    · intro w hSw; (try dsimp only at hSw); go_simp; try with_reducible rfl
    try simp only [Act.put, List.setIfInBounds_toArray, List.set_cons_zero, List.set_cons_succ]
    refine wpAnyH_take (i := 2) (oi := ({ dst := some 21, op := Go.Op.indexAddr 75 (Go.Operand.tmp 3) (Go.Operand.tmp 20), type := 0, pos := "run.go:106", after := #[{ on := 1, ground := Go.Ground.data }], guard := none } : Oper)) (v := ?_) rfl (by kernel_rfl) (by kernel_rfl) (by kernel_rfl) (fun _ _ _ h => h) (Or.inl ⟨by rfl, ?_⟩) hH ?_
    rotate_left
    · intro w hSw; (try dsimp only at hSw); go_simp; try with_reducible rfl
    try simp only [Act.put, List.setIfInBounds_toArray, List.set_cons_zero, List.set_cons_succ]
    refine wpAnyH_take (i := 3) (oi := ({ dst := some 22, op := Go.Op.fieldAddr 73 (Go.Operand.tmp 21) 0, type := 0, pos := "run.go:106", after := #[{ on := 2, ground := Go.Ground.data }], guard := none } : Oper)) (v := ?_) rfl (by kernel_rfl) (by kernel_rfl) (by kernel_rfl) (fun _ _ _ h => h) (Or.inl ⟨by rfl, ?_⟩) hH ?_
    rotate_left
    · intro w hSw; (try dsimp only at hSw); go_simp; try with_reducible rfl
    try simp only [Act.put, List.setIfInBounds_toArray, List.set_cons_zero, List.set_cons_succ]
    refine wpAnyH_take (i := 4) (oi := ({ dst := some 23, op := Go.Op.load 70 (Go.Operand.tmp 22), type := 70, pos := "run.go:106", after := #[{ on := 3, ground := Go.Ground.data }], guard := none } : Oper)) (v := ?_) rfl (by kernel_rfl) (by kernel_rfl) (by kernel_rfl) (fun _ _ _ h => h) (Or.inl ⟨by rfl, ?_⟩) hH ?_
    rotate_left
    · intro w hSw; (try dsimp only at hSw); go_simp; try with_reducible rfl
    try simp only [Act.put, List.setIfInBounds_toArray, List.set_cons_zero, List.set_cons_succ]
    refine wpAnyH_take (i := 5) (oi := ({ dst := some 24, op := Go.Op.load 53 (Go.Operand.tmp 4), type := 53, pos := "run.go:106", after := #[], guard := none } : Oper)) (v := ?_) rfl (by kernel_rfl) (by kernel_rfl) (by kernel_rfl) (fun _ _ _ h => h) (Or.inl ⟨by rfl, ?_⟩) hH ?_
    rotate_left
    · intro w hSw; (try dsimp only at hSw); go_simp; try with_reducible rfl
    try simp only [Act.put, List.setIfInBounds_toArray, List.set_cons_zero, List.set_cons_succ]
    refine wpAnyH_take (i := 6) (oi := ({ dst := some 25, op := Go.Op.fieldAddr 38 (Go.Operand.tmp 5) 0, type := 0, pos := "run.go:106", after := #[], guard := none } : Oper)) (v := ?_) rfl (by kernel_rfl) (by kernel_rfl) (by kernel_rfl) (fun _ _ _ h => h) (Or.inl ⟨by rfl, ?_⟩) hH ?_
    rotate_left
    · intro w hSw; (try dsimp only at hSw); go_simp; try with_reducible rfl
    try simp only [Act.put, List.setIfInBounds_toArray, List.set_cons_zero, List.set_cons_succ]
    refine wpAnyH_take (i := 7) (oi := ({ dst := some 26, op := Go.Op.load 3 (Go.Operand.tmp 25), type := 3, pos := "run.go:106", after := #[{ on := 6, ground := Go.Ground.data }], guard := none } : Oper)) (v := ?_) rfl (by kernel_rfl) (by kernel_rfl) (by kernel_rfl) (fun _ _ _ h => h) (Or.inl ⟨by rfl, ?_⟩) hH ?_
    rotate_left
    · intro w hSw; (try dsimp only at hSw); go_simp; try with_reducible rfl
    try simp only [Act.put, List.setIfInBounds_toArray, List.set_cons_zero, List.set_cons_succ]
    refine wpAnyH_ready (rs := [8]) (by kernel_rfl) (by simp) ?_
    refine AllReadyH.cons (o := ({ dst := some 27, op := Go.Op.call { callee := Go.Callee.value (Go.Operand.tmp 23), args := #[Go.Operand.tmp 24, Go.Operand.tmp 26], argTypes := #[53, 3] }, type := 4, pos := "run.go:106", after := #[{ on := 4, ground := Go.Ground.data }, { on := 5, ground := Go.Ground.data }, { on := 7, ground := Go.Ground.data }], guard := none } : Oper)) rfl (fun K hK => ?_) AllReadyH.nil
    go_simp
    go_at_call 48
    refine (is1_any ⟨pl, wi, fl, st⟩ t 2 i1 _ (RR.out _ hH.1).d1).mono ?_
    rintro e9 w2 ⟨rfl, hb⟩
    have hb2 := (Bl.d1 w1).tr hb
    rw [AX.out]
    have r0 := kcb hb2 r0
    have r1 := kcb hb2 r1
    have s0 := kcb hb2 s0
    have s1 := kcb hb2 s1
    have s2 := kcb hb2 s2
    have s3 := kcb hb2 s3
    have e0 := kcb hb2 e0
    have e1 := kcb hb2 e1
    have e2 := kcb hb2 e2
    have c0 := kcb hb2 c0
    have c1 := kcb hb2 c1
    have c2 := kcb hb2 c2
    have c3 := kcb hb2 c3
    have y0 := fzb hb2 y0 (by omega)
    have z0 := fzb hb2 z0 (by omega)
    have y1 := fzb hb2 y1 (by omega)
    have z1 := fzb hb2 z1 (by omega)
    have y2 := fzb hb2 y2 (by omega)
    have z2 := fzb hb2 z2 (by omega)
    have y3 := fzb hb2 y3 (by omega)
    have z3 := fzb hb2 z3 (by omega)
    have B2 := B1.tr hb2
    have l2 := ltb c0
    refine hK.out _ _ ⟨hH.1.tr hb, kcb hb hH.2.1, kcb hb hH.2.2.1, kcb hb hH.2.2.2.1, kcb hb hH.2.2.2.2.1, kcb hb hH.2.2.2.2.2.1, kcb hb hH.2.2.2.2.2.2.1, kcb hb hH.2.2.2.2.2.2.2⟩ (fun hH' => ?_)
    clear hH
    have hH := hH'
    clear hH' hK K
    try simp only [Act.put, List.setIfInBounds_toArray, List.set_cons_zero, List.set_cons_succ]
    refine wpAnyH_take (i := 9) (oi := ({ dst := some 28, op := Go.Op.unOp Go.UnOp.not 4 (Go.Operand.tmp 27), type := 4, pos := "run.go:106", after := #[{ on := 8, ground := Go.Ground.data }], guard := none } : Oper)) (v := ?_) rfl (by kernel_rfl) (by kernel_rfl) (by kernel_rfl) (fun _ _ _ h => h) (Or.inl ⟨by rfl, ?_⟩) hH ?_
    rotate_left
    · intro w hSw; (try dsimp only at hSw); go_simp; try with_reducible rfl
    try simp only [Act.put, List.setIfInBounds_toArray, List.set_cons_zero, List.set_cons_succ]
    refine wpAnyH_done (by kernel_rfl) ?_ _
    refine NoPanic.normal ?_
    go_wp2_with fail
    exact bodyPost_ret (v := .tuple #[.agg #[.int .i64 0, .int .i64 0, .bool false, .int .i64 0], .int .i64 9]) (by simp [results, Tryd.results36, go_sem, c0, c1, c2, c3, z0, z1, z2, z3]) rfl ⟨by rw [HS.out], by go_grown⟩
set_option maxRecDepth 100000 in
set_option maxHeartbeats 3200000 in
theorem next_5 (M : Mst) (hM : VM M) (x g1 g2 i1 g0 i2 g3 : Nat) (pl wi : Int) (fl : Bool) (st t n : Int) (w : World) (hR : RulesAt w M x g1 g2 i1 g0 i2 g3) (hv : VE ⟨t, 5, n⟩) (ht : st ≤ t) :
    Calls Tryd.prog 36 #[RV x g1 g2 i1 g0 i2 g3, .agg #[.int .i64 pl, .int .i64 wi, .bool fl, .int .i64 st], .agg #[.int .i64 t, .int .i64 5, .int .i64 n]] w fun e w' => e = .returned (.tuple #[encB (stp M ⟨pl, wi, fl, st⟩ ⟨t, 5, n⟩).1, .int .i64 (stp M ⟨pl, wi, fl, st⟩ ⟨t, 5, n⟩).2]) ∧ Bl w w' := by
  have RR := Lib.hid (fun w' (h : Bl w w') => hR.below h)
  have HM := Lib.hid hM
  clear hR hM
  have Q := Lib.hid (show decide (VE ⟨t, 5, n⟩) = true from decide_eq_true hv)
  have HA := Lib.hid (show alw M ⟨pl, wi, fl, st⟩ 5 t ↔ pl = 2 by simp [alw])
  have H1 := Lib.hid (show alw M ⟨pl, wi, fl, st⟩ 5 t → stp M ⟨pl, wi, fl, st⟩ ⟨t, 5, n⟩ = (⟨3, wi, fl, t⟩, 0) by intro h; unfold stp; rw [if_pos ⟨hv, ht⟩, if_pos h]; simp [doe])
  have H2 := Lib.hid (show ¬ alw M ⟨pl, wi, fl, st⟩ 5 t → stp M ⟨pl, wi, fl, st⟩ ⟨t, 5, n⟩ = (Bal.zero, 9) by intro h; unfold stp; rw [if_pos ⟨hv, ht⟩, if_neg h])
  clear hv
  by_cases q : decide (pl = 2) = true
  · have AX := Lib.hid q
    have HS := Lib.hid (H1.out (HA.out.2 (of_decide_eq_true q)))
    clear q
    go_enter Tryd.func36, Tryd.ntmps36
    go_wp2_with fail
    refine (isEvent_any ⟨t, 5, n⟩ _).mono ?_
    rintro e1 w1 ⟨rfl, hb⟩
    have r0 := kcb hb (b := w.heap.size) (o := 10) (v := .func (.func 48) #[] #[.pointer (some ⟨i2, 0, none⟩)]) (by go_cell)
    have r1 := kcb hb (b := w.heap.size) (o := 11) (v := .func (.func 47) #[] #[.pointer (some ⟨g3, 0, none⟩)]) (by go_cell)
    have s0 := kcb hb (b := w.heap.size + 1) (o := 0) (v := .int .i64 pl) (by go_cell)
    have s1 := kcb hb (b := w.heap.size + 1) (o := 1) (v := .int .i64 wi) (by go_cell)
    have s2 := kcb hb (b := w.heap.size + 1) (o := 2) (v := .bool fl) (by go_cell)
    have s3 := kcb hb (b := w.heap.size + 1) (o := 3) (v := .int .i64 st) (by go_cell)
    have e0 := kcb hb (b := w.heap.size + 1 + 1) (o := 0) (v := .int .i64 t) (by go_cell)
    have e1 := kcb hb (b := w.heap.size + 1 + 1) (o := 1) (v := .int .i64 5) (by go_cell)
    have e2 := kcb hb (b := w.heap.size + 1 + 1) (o := 2) (v := .int .i64 n) (by go_cell)
    have c0 := kcb hb (b := w.heap.size + 1 + 1 + 1) (o := 0) (v := .int .i64 0) (by go_cell)
    have c1 := kcb hb (b := w.heap.size + 1 + 1 + 1) (o := 1) (v := .int .i64 0) (by go_cell)
    have c2 := kcb hb (b := w.heap.size + 1 + 1 + 1) (o := 2) (v := .bool false) (by go_cell)
    have c3 := kcb hb (b := w.heap.size + 1 + 1 + 1) (o := 3) (v := .int .i64 0) (by go_cell)
    have y0 := fzb hb (b := w.heap.size + 1) (o := 0) (by (try simp only [frozen?_alloc_cells, World.frozen?_setCell]); first | assumption | exact fz_new (by (try simp only [World.size_alloc, World.size_setCell]); omega)) (by (try simp only [World.size_alloc, World.size_setCell]); omega)
    have y1 := fzb hb (b := w.heap.size + 1) (o := 1) (by (try simp only [frozen?_alloc_cells, World.frozen?_setCell]); first | assumption | exact fz_new (by (try simp only [World.size_alloc, World.size_setCell]); omega)) (by (try simp only [World.size_alloc, World.size_setCell]); omega)
    have y2 := fzb hb (b := w.heap.size + 1) (o := 2) (by (try simp only [frozen?_alloc_cells, World.frozen?_setCell]); first | assumption | exact fz_new (by (try simp only [World.size_alloc, World.size_setCell]); omega)) (by (try simp only [World.size_alloc, World.size_setCell]); omega)
    have y3 := fzb hb (b := w.heap.size + 1) (o := 3) (by (try simp only [frozen?_alloc_cells, World.frozen?_setCell]); first | assumption | exact fz_new (by (try simp only [World.size_alloc, World.size_setCell]); omega)) (by (try simp only [World.size_alloc, World.size_setCell]); omega)
    have z0 := fzb hb (b := w.heap.size + 1 + 1 + 1) (o := 0) (by (try simp only [frozen?_alloc_cells, World.frozen?_setCell]); first | assumption | exact fz_new (by (try simp only [World.size_alloc, World.size_setCell]); omega)) (by (try simp only [World.size_alloc, World.size_setCell]); omega)
    have z1 := fzb hb (b := w.heap.size + 1 + 1 + 1) (o := 1) (by (try simp only [frozen?_alloc_cells, World.frozen?_setCell]); first | assumption | exact fz_new (by (try simp only [World.size_alloc, World.size_setCell]); omega)) (by (try simp only [World.size_alloc, World.size_setCell]); omega)
    have z2 := fzb hb (b := w.heap.size + 1 + 1 + 1) (o := 2) (by (try simp only [frozen?_alloc_cells, World.frozen?_setCell]); first | assumption | exact fz_new (by (try simp only [World.size_alloc, World.size_setCell]); omega)) (by (try simp only [World.size_alloc, World.size_setCell]); omega)
    have z3 := fzb hb (b := w.heap.size + 1 + 1 + 1) (o := 3) (by (try simp only [frozen?_alloc_cells, World.frozen?_setCell]); first | assumption | exact fz_new (by (try simp only [World.size_alloc, World.size_setCell]); omega)) (by (try simp only [World.size_alloc, World.size_setCell]); omega)
    have B1 : Bl w w1 := Below.trans (by go_grown) (hb.mono (by (try simp only [World.size_alloc]); omega))
    have l1 := ltb c0
    clear hb
    rw [Q.out]
    go_wp2_with fail
    refine wp_region_noPanic ?_
    refine wp_region_held_drew (S := fun w' => Bl w w' ∧ w'.cell? ⟨w.heap.size, 10, none⟩ = some (.func (.func 48) #[] #[.pointer (some ⟨i2, 0, none⟩)]) ∧ w'.cell? ⟨w.heap.size + 1, 0, none⟩ = some (.int .i64 pl) ∧ w'.cell? ⟨w.heap.size + 1, 1, none⟩ = some (.int .i64 wi) ∧ w'.cell? ⟨w.heap.size + 1, 2, none⟩ = some (.bool fl) ∧ w'.cell? ⟨w.heap.size + 1, 3, none⟩ = some (.int .i64 st) ∧ w'.cell? ⟨w.heap.size + 1 + 1, 0, none⟩ = some (.int .i64 t) ∧ w'.cell? ⟨w.heap.size + 1 + 1, 1, none⟩ = some (.int .i64 5)) (by kernel_rfl) (⟨B1.tr (Bl.d1 _), kcb (Bl.d1 _) r0, kcb (Bl.d1 _) s0, kcb (Bl.d1 _) s1, kcb (Bl.d1 _) s2, kcb (Bl.d1 _) s3, kcb (Bl.d1 _) e0, kcb (Bl.d1 _) e1⟩) (fun hH => ?_)
    refine wpAnyH_take (i := 0) (oi := ({ dst := some 19, op := Go.Op.fieldAddr 38 (Go.Operand.tmp 5) 1, type := 0, pos := "run.go:106", after := #[], guard := none } : Oper)) (v := ?_) rfl (by kernel_rfl) (by kernel_rfl) (by kernel_rfl) (fun _ _ _ h => h) (Or.inl ⟨by rfl, ?_⟩) hH ?_
    rotate_left
    · intro w hSw; (try dsimp only at hSw); go_simp; try with_reducible rfl
    try simp only [Act.put, List.setIfInBounds_toArray, List.set_cons_zero, List.set_cons_succ]
    refine wpAnyH_take (i := 1) (oi := ({ dst := some 20, op := Go.Op.load 3 (Go.Operand.tmp 19), type := 3, pos := "run.go:106", after := #[{ on := 0, ground := Go.Ground.data }], guard := none } : Oper)) (v := ?_) rfl (by kernel_rfl) (by kernel_rfl) (by kernel_rfl) (fun _ _ _ h => h) (Or.inl ⟨by rfl, ?_⟩) hH ?_
    rotate_left
    · intro w hSw; (try dsimp only at hSw); go_simp; try with_reducible rfl
    try simp only [Act.put, List.setIfInBounds_toArray, List.set_cons_zero, List.set_cons_succ]
    refine wpAnyH_take (i := 2) (oi := ({ dst := some 21, op := Go.Op.indexAddr 75 (Go.Operand.tmp 3) (Go.Operand.tmp 20), type := 0, pos := "run.go:106", after := #[{ on := 1, ground := Go.Ground.data }], guard := none } : Oper)) (v := ?_) rfl (by kernel_rfl) (by kernel_rfl) (by kernel_rfl) (fun _ _ _ h => h) (Or.inl ⟨by rfl, ?_⟩) hH ?_
    rotate_left
    · intro w hSw; (try dsimp only at hSw); go_simp; try with_reducible rfl
    try simp only [Act.put, List.setIfInBounds_toArray, List.set_cons_zero, List.set_cons_succ]
    refine wpAnyH_take (i := 3) (oi := ({ dst := some 22, op := Go.Op.fieldAddr 73 (Go.Operand.tmp 21) 0, type := 0, pos := "run.go:106", after := #[{ on := 2, ground := Go.Ground.data }], guard := none } : Oper)) (v := ?_) rfl (by kernel_rfl) (by kernel_rfl) (by kernel_rfl) (fun _ _ _ h => h) (Or.inl ⟨by rfl, ?_⟩) hH ?_
    rotate_left
    · intro w hSw; (try dsimp only at hSw); go_simp; try with_reducible rfl
    try simp only [Act.put, List.setIfInBounds_toArray, List.set_cons_zero, List.set_cons_succ]
    refine wpAnyH_take (i := 4) (oi := ({ dst := some 23, op := Go.Op.load 70 (Go.Operand.tmp 22), type := 70, pos := "run.go:106", after := #[{ on := 3, ground := Go.Ground.data }], guard := none } : Oper)) (v := ?_) rfl (by kernel_rfl) (by kernel_rfl) (by kernel_rfl) (fun _ _ _ h => h) (Or.inl ⟨by rfl, ?_⟩) hH ?_
    rotate_left
    · intro w hSw; (try dsimp only at hSw); go_simp; try with_reducible rfl
    try simp only [Act.put, List.setIfInBounds_toArray, List.set_cons_zero, List.set_cons_succ]
    refine wpAnyH_take (i := 5) (oi := ({ dst := some 24, op := Go.Op.load 53 (Go.Operand.tmp 4), type := 53, pos := "run.go:106", after := #[], guard := none } : Oper)) (v := ?_) rfl (by kernel_rfl) (by kernel_rfl) (by kernel_rfl) (fun _ _ _ h => h) (Or.inl ⟨by rfl, ?_⟩) hH ?_
    rotate_left
    · intro w hSw; (try dsimp only at hSw); go_simp; try with_reducible rfl
    try simp only [Act.put, List.setIfInBounds_toArray, List.set_cons_zero, List.set_cons_succ]
    refine wpAnyH_take (i := 6) (oi := ({ dst := some 25, op := Go.Op.fieldAddr 38 (Go.Operand.tmp 5) 0, type := 0, pos := "run.go:106", after := #[], guard := none } : Oper)) (v := ?_) rfl (by kernel_rfl) (by kernel_rfl) (by kernel_rfl) (fun _ _ _ h => h) (Or.inl ⟨by rfl, ?_⟩) hH ?_
    rotate_left
    · intro w hSw; (try dsimp only at hSw); go_simp; try with_reducible rfl
    try simp only [Act.put, List.setIfInBounds_toArray, List.set_cons_zero, List.set_cons_succ]
    refine wpAnyH_take (i := 7) (oi := ({ dst := some 26, op := Go.Op.load 3 (Go.Operand.tmp 25), type := 3, pos := "run.go:106", after := #[{ on := 6, ground := Go.Ground.data }], guard := none } : Oper)) (v := ?_) rfl (by kernel_rfl) (by kernel_rfl) (by kernel_rfl) (fun _ _ _ h => h) (Or.inl ⟨by rfl, ?_⟩) hH ?_
    rotate_left
    · intro w hSw; (try dsimp only at hSw); go_simp; try with_reducible rfl
    try simp only [Act.put, List.setIfInBounds_toArray, List.set_cons_zero, List.set_cons_succ]
    refine wpAnyH_ready (rs := [8]) (by kernel_rfl) (by simp) ?_
    refine AllReadyH.cons (o := ({ dst := some 27, op := Go.Op.call { callee := Go.Callee.value (Go.Operand.tmp 23), args := #[Go.Operand.tmp 24, Go.Operand.tmp 26], argTypes := #[53, 3] }, type := 4, pos := "run.go:106", after := #[{ on := 4, ground := Go.Ground.data }, { on := 5, ground := Go.Ground.data }, { on := 7, ground := Go.Ground.data }], guard := none } : Oper)) rfl (fun K hK => ?_) AllReadyH.nil
    go_simp
    go_at_call 48
    refine (is1_any ⟨pl, wi, fl, st⟩ t 2 i2 _ (RR.out _ hH.1).d2).mono ?_
    rintro e9 w2 ⟨rfl, hb⟩
    have hb2 := (Bl.d1 w1).tr hb
    rw [AX.out]
    have r0 := kcb hb2 r0
    have r1 := kcb hb2 r1
    have s0 := kcb hb2 s0
    have s1 := kcb hb2 s1
    have s2 := kcb hb2 s2
    have s3 := kcb hb2 s3
    have e0 := kcb hb2 e0
    have e1 := kcb hb2 e1
    have e2 := kcb hb2 e2
    have c0 := kcb hb2 c0
    have c1 := kcb hb2 c1
    have c2 := kcb hb2 c2
    have c3 := kcb hb2 c3
    have y0 := fzb hb2 y0 (by omega)
    have z0 := fzb hb2 z0 (by omega)
    have y1 := fzb hb2 y1 (by omega)
    have z1 := fzb hb2 z1 (by omega)
    have y2 := fzb hb2 y2 (by omega)
    have z2 := fzb hb2 z2 (by omega)
    have y3 := fzb hb2 y3 (by omega)
    have z3 := fzb hb2 z3 (by omega)
    have B2 := B1.tr hb2
    have l2 := ltb c0
    refine hK.out _ _ ⟨hH.1.tr hb, kcb hb hH.2.1, kcb hb hH.2.2.1, kcb hb hH.2.2.2.1, kcb hb hH.2.2.2.2.1, kcb hb hH.2.2.2.2.2.1, kcb hb hH.2.2.2.2.2.2.1, kcb hb hH.2.2.2.2.2.2.2⟩ (fun hH' => ?_)
    clear hH
    have hH := hH'
    clear hH' hK K
    try simp only [Act.put, List.setIfInBounds_toArray, List.set_cons_zero, List.set_cons_succ]
    refine wpAnyH_take (i := 9) (oi := ({ dst := some 28, op := Go.Op.unOp Go.UnOp.not 4 (Go.Operand.tmp 27), type := 4, pos := "run.go:106", after := #[{ on := 8, ground := Go.Ground.data }], guard := none } : Oper)) (v := ?_) rfl (by kernel_rfl) (by kernel_rfl) (by kernel_rfl) (fun _ _ _ h => h) (Or.inl ⟨by rfl, ?_⟩) hH ?_
    rotate_left
    · intro w hSw; (try dsimp only at hSw); go_simp; try with_reducible rfl
    try simp only [Act.put, List.setIfInBounds_toArray, List.set_cons_zero, List.set_cons_succ]
    refine wpAnyH_done (by kernel_rfl) ?_ _
    refine NoPanic.normal ?_
    go_wp2_with fail
    refine wp_region_noPanic ?_
    refine wp_region_held_drew (S := fun w' => Bl w w' ∧ w'.cell? ⟨w.heap.size, 11, none⟩ = some (.func (.func 47) #[] #[.pointer (some ⟨g3, 0, none⟩)]) ∧ w'.cell? ⟨w.heap.size + 1 + 1, 0, none⟩ = some (.int .i64 t) ∧ w'.cell? ⟨w.heap.size + 1 + 1, 1, none⟩ = some (.int .i64 5) ∧ w'.cell? ⟨w.heap.size + 1 + 1, 2, none⟩ = some (.int .i64 n)) (by kernel_rfl) (⟨B2.tr (Bl.d1 _), kcb (Bl.d1 _) r1, kcb (Bl.d1 _) e0, kcb (Bl.d1 _) e1, kcb (Bl.d1 _) e2⟩) (fun hH => ?_)
    refine wpAnyH_take (i := 0) (oi := ({ dst := some 30, op := Go.Op.fieldAddr 38 (Go.Operand.tmp 5) 1, type := 0, pos := "run.go:109", after := #[], guard := none } : Oper)) (v := ?_) rfl (by kernel_rfl) (by kernel_rfl) (by kernel_rfl) (fun _ _ _ h => h) (Or.inl ⟨by rfl, ?_⟩) hH ?_
    rotate_left
    · intro w hSw; (try dsimp only at hSw); go_simp; try with_reducible rfl
    try simp only [Act.put, List.setIfInBounds_toArray, List.set_cons_zero, List.set_cons_succ]
    refine wpAnyH_take (i := 1) (oi := ({ dst := some 31, op := Go.Op.load 3 (Go.Operand.tmp 30), type := 3, pos := "run.go:109", after := #[{ on := 0, ground := Go.Ground.data }], guard := none } : Oper)) (v := ?_) rfl (by kernel_rfl) (by kernel_rfl) (by kernel_rfl) (fun _ _ _ h => h) (Or.inl ⟨by rfl, ?_⟩) hH ?_
    rotate_left
    · intro w hSw; (try dsimp only at hSw); go_simp; try with_reducible rfl
    try simp only [Act.put, List.setIfInBounds_toArray, List.set_cons_zero, List.set_cons_succ]
    refine wpAnyH_take (i := 2) (oi := ({ dst := some 32, op := Go.Op.indexAddr 75 (Go.Operand.tmp 3) (Go.Operand.tmp 31), type := 0, pos := "run.go:109", after := #[{ on := 1, ground := Go.Ground.data }], guard := none } : Oper)) (v := ?_) rfl (by kernel_rfl) (by kernel_rfl) (by kernel_rfl) (fun _ _ _ h => h) (Or.inl ⟨by rfl, ?_⟩) hH ?_
    rotate_left
    · intro w hSw; (try dsimp only at hSw); go_simp; try with_reducible rfl
    try simp only [Act.put, List.setIfInBounds_toArray, List.set_cons_zero, List.set_cons_succ]
    refine wpAnyH_take (i := 3) (oi := ({ dst := some 33, op := Go.Op.fieldAddr 73 (Go.Operand.tmp 32) 1, type := 0, pos := "run.go:109", after := #[{ on := 2, ground := Go.Ground.data }], guard := none } : Oper)) (v := ?_) rfl (by kernel_rfl) (by kernel_rfl) (by kernel_rfl) (fun _ _ _ h => h) (Or.inl ⟨by rfl, ?_⟩) hH ?_
    rotate_left
    · intro w hSw; (try dsimp only at hSw); go_simp; try with_reducible rfl
    try simp only [Act.put, List.setIfInBounds_toArray, List.set_cons_zero, List.set_cons_succ]
    refine wpAnyH_take (i := 4) (oi := ({ dst := some 34, op := Go.Op.load 71 (Go.Operand.tmp 33), type := 71, pos := "run.go:109", after := #[{ on := 3, ground := Go.Ground.data }], guard := none } : Oper)) (v := ?_) rfl (by kernel_rfl) (by kernel_rfl) (by kernel_rfl) (fun _ _ _ h => h) (Or.inl ⟨by rfl, ?_⟩) hH ?_
    rotate_left
    · intro w hSw; (try dsimp only at hSw); go_simp; try with_reducible rfl
    try simp only [Act.put, List.setIfInBounds_toArray, List.set_cons_zero, List.set_cons_succ]
    refine wpAnyH_take (i := 6) (oi := ({ dst := some 36, op := Go.Op.fieldAddr 38 (Go.Operand.tmp 5) 2, type := 0, pos := "run.go:109", after := #[], guard := none } : Oper)) (v := ?_) rfl (by kernel_rfl) (by kernel_rfl) (by kernel_rfl) (fun _ _ _ h => h) (Or.inl ⟨by rfl, ?_⟩) hH ?_
    rotate_left
    · intro w hSw; (try dsimp only at hSw); go_simp; try with_reducible rfl
    try simp only [Act.put, List.setIfInBounds_toArray, List.set_cons_zero, List.set_cons_succ]
    refine wpAnyH_take (i := 7) (oi := ({ dst := some 37, op := Go.Op.load 3 (Go.Operand.tmp 36), type := 3, pos := "run.go:109", after := #[{ on := 6, ground := Go.Ground.data }], guard := none } : Oper)) (v := ?_) rfl (by kernel_rfl) (by kernel_rfl) (by kernel_rfl) (fun _ _ _ h => h) (Or.inl ⟨by rfl, ?_⟩) hH ?_
    rotate_left
    · intro w hSw; (try dsimp only at hSw); go_simp; try with_reducible rfl
    try simp only [Act.put, List.setIfInBounds_toArray, List.set_cons_zero, List.set_cons_succ]
    refine wpAnyH_ready (rs := [5]) (by kernel_rfl) (by simp) ?_
    refine AllReadyH.cons (o := ({ dst := some 35, op := Go.Op.load 53 (Go.Operand.tmp 4), type := 53, pos := "run.go:109", after := #[], guard := none } : Oper)) rfl (fun K hK => ?_) AllReadyH.nil
    go_simp
    have r0 := kcb (Bl.d1 w2) r0
    have r1 := kcb (Bl.d1 w2) r1
    have s0 := kcb (Bl.d1 w2) s0
    have s1 := kcb (Bl.d1 w2) s1
    have s2 := kcb (Bl.d1 w2) s2
    have s3 := kcb (Bl.d1 w2) s3
    have e0 := kcb (Bl.d1 w2) e0
    have e1 := kcb (Bl.d1 w2) e1
    have e2 := kcb (Bl.d1 w2) e2
    have c0 := kcb (Bl.d1 w2) c0
    have c1 := kcb (Bl.d1 w2) c1
    have c2 := kcb (Bl.d1 w2) c2
    have c3 := kcb (Bl.d1 w2) c3
    refine hK.out _ _ hH (fun hH' => ?_)
    clear hH' hK K
    try simp only [Act.put, List.setIfInBounds_toArray, List.set_cons_zero, List.set_cons_succ]
    refine wpAnyH_ready (rs := [8]) (by kernel_rfl) (by simp) ?_
    refine AllReadyH.cons (o := ({ dst := some 38, op := Go.Op.call { callee := Go.Callee.value (Go.Operand.tmp 34), args := #[Go.Operand.tmp 35, Go.Operand.tmp 37], argTypes := #[53, 3] }, type := 53, pos := "run.go:109", after := #[{ on := 4, ground := Go.Ground.data }, { on := 5, ground := Go.Ground.data }, { on := 7, ground := Go.Ground.data }], guard := none } : Oper)) rfl (fun K hK => ?_) AllReadyH.nil
    go_simp
    go_at_call 47
    refine (goes1_any ⟨pl, wi, fl, st⟩ n 3 g3 _ (RR.out _ hH.1).c3).mono ?_
    rintro e9 w3 ⟨rfl, hb⟩
    have hb3 := (Bl.d1 w2).tr hb
    have r0 := kcb hb r0
    have r1 := kcb hb r1
    have s0 := kcb hb s0
    have s1 := kcb hb s1
    have s2 := kcb hb s2
    have s3 := kcb hb s3
    have e0 := kcb hb e0
    have e1 := kcb hb e1
    have e2 := kcb hb e2
    have c0 := kcb hb c0
    have c1 := kcb hb c1
    have c2 := kcb hb c2
    have c3 := kcb hb c3
    have y0 := fzb hb3 y0 (by omega)
    have z0 := fzb hb3 z0 (by omega)
    have y1 := fzb hb3 y1 (by omega)
    have z1 := fzb hb3 z1 (by omega)
    have y2 := fzb hb3 y2 (by omega)
    have z2 := fzb hb3 z2 (by omega)
    have y3 := fzb hb3 y3 (by omega)
    have z3 := fzb hb3 z3 (by omega)
    have B3 := B2.tr hb3
    have l3 := ltb c0
    refine hK.out _ _ ⟨hH.1.tr hb, kcb hb hH.2.1, kcb hb hH.2.2.1, kcb hb hH.2.2.2.1, kcb hb hH.2.2.2.2⟩ (fun hH' => ?_)
    clear hH
    have hH := hH'
    clear hH' hK K
    try simp only [Act.put, List.setIfInBounds_toArray, List.set_cons_zero, List.set_cons_succ]
    refine wpAnyH_ready (rs := [9]) (by kernel_rfl) (by simp) ?_
    refine AllReadyH.cons (o := ({ dst := none, op := Go.Op.store 53 (Go.Operand.tmp 4) (Go.Operand.tmp 38), type := 0, pos := "run.go:109", after := #[{ on := 8, ground := Go.Ground.data }, { on := 8, ground := Go.Ground.chain }, { on := 0, ground := Go.Ground.phase }, { on := 1, ground := Go.Ground.phase }, { on := 2, ground := Go.Ground.phase }, { on := 3, ground := Go.Ground.phase }, { on := 4, ground := Go.Ground.phase }, { on := 5, ground := Go.Ground.phase }, { on := 6, ground := Go.Ground.phase }, { on := 7, ground := Go.Ground.phase }, { on := 8, ground := Go.Ground.phase }], guard := none } : Oper)) rfl (fun K hK => ?_) AllReadyH.nil
    go_simp
    refine hK.out _ _ ⟨by go_grown, by go_cell, by go_cell, by go_cell, by go_cell⟩ (fun hH' => ?_)
    clear hH' hK K
    try simp only [Act.put, List.setIfInBounds_toArray, List.set_cons_zero, List.set_cons_succ]
    refine wpAnyH_done (by kernel_rfl) ?_ _
    refine NoPanic.normal ?_
    obtain ⟨V, hV⟩ : ∃ V, V = ((((w3).setCell ⟨w.heap.size + 1, 0, none⟩ (.int .i64 3)).setCell ⟨w.heap.size + 1, 1, none⟩ (.int .i64 wi)).setCell ⟨w.heap.size + 1, 2, none⟩ (.bool fl)).setCell ⟨w.heap.size + 1, 3, none⟩ (.int .i64 st) := ⟨_, rfl⟩
    have BV : Bl w V := by rw [hV]; go_grown
    have s0 : V.cell? ⟨w.heap.size + 1, 0, none⟩ = some (.int .i64 3) := by rw [hV]; go_cell
    have s1 : V.cell? ⟨w.heap.size + 1, 1, none⟩ = some (.int .i64 wi) := by rw [hV]; go_cell
    have s2 : V.cell? ⟨w.heap.size + 1, 2, none⟩ = some (.bool fl) := by rw [hV]; go_cell
    have s3 : V.cell? ⟨w.heap.size + 1, 3, none⟩ = some (.int .i64 st) := by rw [hV]; go_cell
    have e0 : V.cell? ⟨w.heap.size + 1 + 1, 0, none⟩ = some (.int .i64 t) := by rw [hV]; go_cell
    have c0 : V.cell? ⟨w.heap.size + 1 + 1 + 1, 0, none⟩ = some (.int .i64 0) := by rw [hV]; go_cell
    have c1 : V.cell? ⟨w.heap.size + 1 + 1 + 1, 1, none⟩ = some (.int .i64 0) := by rw [hV]; go_cell
    have c2 : V.cell? ⟨w.heap.size + 1 + 1 + 1, 2, none⟩ = some (.bool false) := by rw [hV]; go_cell
    have c3 : V.cell? ⟨w.heap.size + 1 + 1 + 1, 3, none⟩ = some (.int .i64 0) := by rw [hV]; go_cell
    have y0 : V.frozen? ⟨w.heap.size + 1, 0, none⟩ = false := by rw [hV]; simp only [World.frozen?_setCell]; exact y0
    have z0 : V.frozen? ⟨w.heap.size + 1 + 1 + 1, 0, none⟩ = false := by rw [hV]; simp only [World.frozen?_setCell]; exact z0
    have y1 : V.frozen? ⟨w.heap.size + 1, 1, none⟩ = false := by rw [hV]; simp only [World.frozen?_setCell]; exact y1
    have z1 : V.frozen? ⟨w.heap.size + 1 + 1 + 1, 1, none⟩ = false := by rw [hV]; simp only [World.frozen?_setCell]; exact z1
    have y2 : V.frozen? ⟨w.heap.size + 1, 2, none⟩ = false := by rw [hV]; simp only [World.frozen?_setCell]; exact y2
    have z2 : V.frozen? ⟨w.heap.size + 1 + 1 + 1, 2, none⟩ = false := by rw [hV]; simp only [World.frozen?_setCell]; exact z2
    have y3 : V.frozen? ⟨w.heap.size + 1, 3, none⟩ = false := by rw [hV]; simp only [World.frozen?_setCell]; exact y3
    have z3 : V.frozen? ⟨w.heap.size + 1 + 1 + 1, 3, none⟩ = false := by rw [hV]; simp only [World.frozen?_setCell]; exact z3
    rw [← hV]
    clear hV hH e1 e2 r0 r1
    have lV := ltb c0
    go_wp2_with fail
    exact bodyPost_ret (v := .tuple #[.agg #[.int .i64 3, .int .i64 wi, .bool fl, .int .i64 t], .int .i64 0]) (by simp [results, Tryd.results36, go_sem, c0, c1, c2, c3, z0, z1, z2, z3]) rfl ⟨by rw [HS.out], by go_grown⟩
  · have AX := Lib.hid (show decide (pl = 2) = false by simpa using q)
    have HS := Lib.hid (H2.out (fun h => (fun h => q (decide_eq_true h)) (HA.out.1 h)))
    clear q
    go_enter Tryd.func36, Tryd.ntmps36
    go_wp2_with fail
    refine (isEvent_any ⟨t, 5, n⟩ _).mono ?_
    rintro e1 w1 ⟨rfl, hb⟩
    have r0 := kcb hb (b := w.heap.size) (o := 10) (v := .func (.func 48) #[] #[.pointer (some ⟨i2, 0, none⟩)]) (by go_cell)
    have r1 := kcb hb (b := w.heap.size) (o := 11) (v := .func (.func 47) #[] #[.pointer (some ⟨g3, 0, none⟩)]) (by go_cell)
    have s0 := kcb hb (b := w.heap.size + 1) (o := 0) (v := .int .i64 pl) (by go_cell)
    have s1 := kcb hb (b := w.heap.size + 1) (o := 1) (v := .int .i64 wi) (by go_cell)
    have s2 := kcb hb (b := w.heap.size + 1) (o := 2) (v := .bool fl) (by go_cell)
    have s3 := kcb hb (b := w.heap.size + 1) (o := 3) (v := .int .i64 st) (by go_cell)
    have e0 := kcb hb (b := w.heap.size + 1 + 1) (o := 0) (v := .int .i64 t) (by go_cell)
    have e1 := kcb hb (b := w.heap.size + 1 + 1) (o := 1) (v := .int .i64 5) (by go_cell)
    have e2 := kcb hb (b := w.heap.size + 1 + 1) (o := 2) (v := .int .i64 n) (by go_cell)
    have c0 := kcb hb (b := w.heap.size + 1 + 1 + 1) (o := 0) (v := .int .i64 0) (by go_cell)
    have c1 := kcb hb (b := w.heap.size + 1 + 1 + 1) (o := 1) (v := .int .i64 0) (by go_cell)
    have c2 := kcb hb (b := w.heap.size + 1 + 1 + 1) (o := 2) (v := .bool false) (by go_cell)
    have c3 := kcb hb (b := w.heap.size + 1 + 1 + 1) (o := 3) (v := .int .i64 0) (by go_cell)
    have y0 := fzb hb (b := w.heap.size + 1) (o := 0) (by (try simp only [frozen?_alloc_cells, World.frozen?_setCell]); first | assumption | exact fz_new (by (try simp only [World.size_alloc, World.size_setCell]); omega)) (by (try simp only [World.size_alloc, World.size_setCell]); omega)
    have y1 := fzb hb (b := w.heap.size + 1) (o := 1) (by (try simp only [frozen?_alloc_cells, World.frozen?_setCell]); first | assumption | exact fz_new (by (try simp only [World.size_alloc, World.size_setCell]); omega)) (by (try simp only [World.size_alloc, World.size_setCell]); omega)
    have y2 := fzb hb (b := w.heap.size + 1) (o := 2) (by (try simp only [frozen?_alloc_cells, World.frozen?_setCell]); first | assumption | exact fz_new (by (try simp only [World.size_alloc, World.size_setCell]); omega)) (by (try simp only [World.size_alloc, World.size_setCell]); omega)
    have y3 := fzb hb (b := w.heap.size + 1) (o := 3) (by (try simp only [frozen?_alloc_cells, World.frozen?_setCell]); first | assumption | exact fz_new (by (try simp only [World.size_alloc, World.size_setCell]); omega)) (by (try simp only [World.size_alloc, World.size_setCell]); omega)
    have z0 := fzb hb (b := w.heap.size + 1 + 1 + 1) (o := 0) (by (try simp only [frozen?_alloc_cells, World.frozen?_setCell]); first | assumption | exact fz_new (by (try simp only [World.size_alloc, World.size_setCell]); omega)) (by (try simp only [World.size_alloc, World.size_setCell]); omega)
    have z1 := fzb hb (b := w.heap.size + 1 + 1 + 1) (o := 1) (by (try simp only [frozen?_alloc_cells, World.frozen?_setCell]); first | assumption | exact fz_new (by (try simp only [World.size_alloc, World.size_setCell]); omega)) (by (try simp only [World.size_alloc, World.size_setCell]); omega)
    have z2 := fzb hb (b := w.heap.size + 1 + 1 + 1) (o := 2) (by (try simp only [frozen?_alloc_cells, World.frozen?_setCell]); first | assumption | exact fz_new (by (try simp only [World.size_alloc, World.size_setCell]); omega)) (by (try simp only [World.size_alloc, World.size_setCell]); omega)
    have z3 := fzb hb (b := w.heap.size + 1 + 1 + 1) (o := 3) (by (try simp only [frozen?_alloc_cells, World.frozen?_setCell]); first | assumption | exact fz_new (by (try simp only [World.size_alloc, World.size_setCell]); omega)) (by (try simp only [World.size_alloc, World.size_setCell]); omega)
    have B1 : Bl w w1 := Below.trans (by go_grown) (hb.mono (by (try simp only [World.size_alloc]); omega))
    have l1 := ltb c0
    clear hb
    rw [Q.out]
    go_wp2_with fail
    refine wp_region_noPanic ?_
    refine wp_region_held_drew (S := fun w' => Bl w w' ∧ w'.cell? ⟨w.heap.size, 10, none⟩ = some (.func (.func 48) #[] #[.pointer (some ⟨i2, 0, none⟩)]) ∧ w'.cell? ⟨w.heap.size + 1, 0, none⟩ = some (.int .i64 pl) ∧ w'.cell? ⟨w.heap.size + 1, 1, none⟩ = some (.int .i64 wi) ∧ w'.cell? ⟨w.heap.size + 1, 2, none⟩ = some (.bool fl) ∧ w'.cell? ⟨w.heap.size + 1, 3, none⟩ = some (.int .i64 st) ∧ w'.cell? ⟨w.heap.size + 1 + 1, 0, none⟩ = some (.int .i64 t) ∧ w'.cell? ⟨w.heap.size + 1 + 1, 1, none⟩ = some (.int .i64 5)) (by kernel_rfl) (⟨B1.tr (Bl.d1 _), kcb (Bl.d1 _) r0, kcb (Bl.d1 _) s0, kcb (Bl.d1 _) s1, kcb (Bl.d1 _) s2, kcb (Bl.d1 _) s3, kcb (Bl.d1 _) e0, kcb (Bl.d1 _) e1⟩) (fun hH => ?_)
    refine wpAnyH_take (i := 0) (oi := ({ dst := some 19, op := Go.Op.fieldAddr 38 (Go.Operand.tmp 5) 1, type := 0, pos := "run.go:106", after := #[], guard := none } : Oper)) (v := ?_) rfl (by kernel_rfl) (by kernel_rfl) (by kernel_rfl) (fun _ _ _ h => h) (Or.inl ⟨by rfl, ?_⟩) hH ?_
    rotate_left
    · intro w hSw; (try dsimp only at hSw); go_simp; try with_reducible rfl
    try simp only [Act.put, List.setIfInBounds_toArray, List.set_cons_zero, List.set_cons_succ]
    refine wpAnyH_take (i := 1) (oi := ({ dst := some 20, op := Go.Op.load 3 (Go.Operand.tmp 19), type := 3, pos := "run.go:106", after := #[{ on := 0, ground := Go.Ground.data }], guard := none } : Oper)) (v := ?_) rfl (by kernel_rfl) (by kernel_rfl) (by kernel_rfl) (fun _ _ _ h => h) (Or.inl ⟨by rfl, ?_⟩) hH ?_
    rotate_left
    · intro w hSw; (try dsimp only at hSw); go_simp; try with_reducible rfl
    try simp only [Act.put, List.setIfInBounds_toArray, List.set_cons_zero, List.set_cons_succ]
    refine wpAnyH_take (i := 2) (oi := ({ dst := some 21, op := Go.Op.indexAddr 75 (Go.Operand.tmp 3) (Go.Operand.tmp 20), type := 0, pos := "run.go:106", after := #[{ on := 1, ground := Go.Ground.data }], guard := none } : Oper)) (v := ?_) rfl (by kernel_rfl) (by kernel_rfl) (by kernel_rfl) (fun _ _ _ h => h) (Or.inl ⟨by rfl, ?_⟩) hH ?_
    rotate_left
    · intro w hSw; (try dsimp only at hSw); go_simp; try with_reducible rfl
    try simp only [Act.put, List.setIfInBounds_toArray, List.set_cons_zero, List.set_cons_succ]
    refine wpAnyH_take (i := 3) (oi := ({ dst := some 22, op := Go.Op.fieldAddr 73 (Go.Operand.tmp 21) 0, type := 0, pos := "run.go:106", after := #[{ on := 2, ground := Go.Ground.data }], guard := none } : Oper)) (v := ?_) rfl (by kernel_rfl) (by kernel_rfl) (by kernel_rfl) (fun _ _ _ h => h) (Or.inl ⟨by rfl, ?_⟩) hH ?_
    rotate_left
    · intro w hSw; (try dsimp only at hSw); go_simp; try with_reducible rfl
    try simp only [Act.put, List.setIfInBounds_toArray, List.set_cons_zero, List.set_cons_succ]
    refine wpAnyH_take (i := 4) (oi := ({ dst := some 23, op := Go.Op.load 70 (Go.Operand.tmp 22), type := 70, pos := "run.go:106", after := #[{ on := 3, ground := Go.Ground.data }], guard := none } : Oper)) (v := ?_) rfl (by kernel_rfl) (by kernel_rfl) (by kernel_rfl) (fun _ _ _ h => h) (Or.inl ⟨by rfl, ?_⟩) hH ?_
    rotate_left
    · intro w hSw; (try dsimp only at hSw); go_simp; try with_reducible rfl
    try simp only [Act.put, List.setIfInBounds_toArray, List.set_cons_zero, List.set_cons_succ]
    refine wpAnyH_take (i := 5) (oi := ({ dst := some 24, op := Go.Op.load 53 (Go.Operand.tmp 4), type := 53, pos := "run.go:106", after := #[], guard := none } : Oper)) (v := ?_) rfl (by kernel_rfl) (by kernel_rfl) (by kernel_rfl) (fun _ _ _ h => h) (Or.inl ⟨by rfl, ?_⟩) hH ?_
    rotate_left
    · intro w hSw; (try dsimp only at hSw); go_simp; try with_reducible rfl
    try simp only [Act.put, List.setIfInBounds_toArray, List.set_cons_zero, List.set_cons_succ]
    refine wpAnyH_take (i := 6) (oi := ({ dst := some 25, op := Go.Op.fieldAddr 38 (Go.Operand.tmp 5) 0, type := 0, pos := "run.go:106", after := #[], guard := none } : Oper)) (v := ?_) rfl (by kernel_rfl) (by kernel_rfl) (by kernel_rfl) (fun _ _ _ h => h) (Or.inl ⟨by rfl, ?_⟩) hH ?_
    rotate_left
    · intro w hSw; (try dsimp only at hSw); go_simp; try with_reducible rfl
    try simp only [Act.put, List.setIfInBounds_toArray, List.set_cons_zero, List.set_cons_succ]
    refine wpAnyH_take (i := 7) (oi := ({ dst := some 26, op := Go.Op.load 3 (Go.Operand.tmp 25), type := 3, pos := "run.go:106", after := #[{ on := 6, ground := Go.Ground.data }], guard := none } : Oper)) (v := ?_) rfl (by kernel_rfl) (by kernel_rfl) (by kernel_rfl) (fun _ _ _ h => h) (Or.inl ⟨by rfl, ?_⟩) hH ?_
    rotate_left
    · intro w hSw; (try dsimp only at hSw); go_simp; try with_reducible rfl
    try simp only [Act.put, List.setIfInBounds_toArray, List.set_cons_zero, List.set_cons_succ]
    refine wpAnyH_ready (rs := [8]) (by kernel_rfl) (by simp) ?_
    refine AllReadyH.cons (o := ({ dst := some 27, op := Go.Op.call { callee := Go.Callee.value (Go.Operand.tmp 23), args := #[Go.Operand.tmp 24, Go.Operand.tmp 26], argTypes := #[53, 3] }, type := 4, pos := "run.go:106", after := #[{ on := 4, ground := Go.Ground.data }, { on := 5, ground := Go.Ground.data }, { on := 7, ground := Go.Ground.data }], guard := none } : Oper)) rfl (fun K hK => ?_) AllReadyH.nil
    go_simp
    go_at_call 48
    refine (is1_any ⟨pl, wi, fl, st⟩ t 2 i2 _ (RR.out _ hH.1).d2).mono ?_
    rintro e9 w2 ⟨rfl, hb⟩
    have hb2 := (Bl.d1 w1).tr hb
    rw [AX.out]
    have r0 := kcb hb2 r0
    have r1 := kcb hb2 r1
    have s0 := kcb hb2 s0
    have s1 := kcb hb2 s1
    have s2 := kcb hb2 s2
    have s3 := kcb hb2 s3
    have e0 := kcb hb2 e0
    have e1 := kcb hb2 e1
    have e2 := kcb hb2 e2
    have c0 := kcb hb2 c0
    have c1 := kcb hb2 c1
    have c2 := kcb hb2 c2
    have c3 := kcb hb2 c3
    have y0 := fzb hb2 y0 (by omega)
    have z0 := fzb hb2 z0 (by omega)
    have y1 := fzb hb2 y1 (by omega)
    have z1 := fzb hb2 z1 (by omega)
    have y2 := fzb hb2 y2 (by omega)
    have z2 := fzb hb2 z2 (by omega)
    have y3 := fzb hb2 y3 (by omega)
    have z3 := fzb hb2 z3 (by omega)
    have B2 := B1.tr hb2
    have l2 := ltb c0
    refine hK.out _ _ ⟨hH.1.tr hb, kcb hb hH.2.1, kcb hb hH.2.2.1, kcb hb hH.2.2.2.1, kcb hb hH.2.2.2.2.1, kcb hb hH.2.2.2.2.2.1, kcb hb hH.2.2.2.2.2.2.1, kcb hb hH.2.2.2.2.2.2.2⟩ (fun hH' => ?_)
    clear hH
    have hH := hH'
    clear hH' hK K
    try simp only [Act.put, List.setIfInBounds_toArray, List.set_cons_zero, List.set_cons_succ]
    refine wpAnyH_take (i := 9) (oi := ({ dst := some 28, op := Go.Op.unOp Go.UnOp.not 4 (Go.Operand.tmp 27), type := 4, pos := "run.go:106", after := #[{ on := 8, ground := Go.Ground.data }], guard := none } : Oper)) (v := ?_) rfl (by kernel_rfl) (by kernel_rfl) (by kernel_rfl) (fun _ _ _ h => h) (Or.inl ⟨by rfl, ?_⟩) hH ?_
    rotate_left
    · intro w hSw; (try dsimp only at hSw); go_simp; try with_reducible rfl
    try simp only [Act.put, List.setIfInBounds_toArray, List.set_cons_zero, List.set_cons_succ]
    refine wpAnyH_done (by kernel_rfl) ?_ _
    refine NoPanic.normal ?_
    go_wp2_with fail
    exact bodyPost_ret (v := .tuple #[.agg #[.int .i64 0, .int .i64 0, .bool false, .int .i64 0], .int .i64 9]) (by simp [results, Tryd.results36, go_sem, c0, c1, c2, c3, z0, z1, z2, z3]) rfl ⟨by rw [HS.out], by go_grown⟩
set_option maxRecDepth 100000 in
set_option maxHeartbeats 3200000 in
theorem next_6 (M : Mst) (hM : VM M) (x g1 g2 i1 g0 i2 g3 : Nat) (pl wi : Int) (fl : Bool) (st t n : Int) (w : World) (hR : RulesAt w M x g1 g2 i1 g0 i2 g3) (hv : VE ⟨t, 6, n⟩) (ht : st ≤ t) :
    Calls Tryd.prog 36 #[RV x g1 g2 i1 g0 i2 g3, .agg #[.int .i64 pl, .int .i64 wi, .bool fl, .int .i64 st], .agg #[.int .i64 t, .int .i64 6, .int .i64 n]] w fun e w' => e = .returned (.tuple #[encB (stp M ⟨pl, wi, fl, st⟩ ⟨t, 6, n⟩).1, .int .i64 (stp M ⟨pl, wi, fl, st⟩ ⟨t, 6, n⟩).2]) ∧ Bl w w' := by
  have RR := Lib.hid (fun w' (h : Bl w w') => hR.below h)
  have HM := Lib.hid hM
  clear hR hM
  have Q := Lib.hid (show decide (VE ⟨t, 6, n⟩) = true from decide_eq_true hv)
  have HA := Lib.hid (show alw M ⟨pl, wi, fl, st⟩ 6 t ↔ fl = false by simp [alw])
  have H1 := Lib.hid (show alw M ⟨pl, wi, fl, st⟩ 6 t → stp M ⟨pl, wi, fl, st⟩ ⟨t, 6, n⟩ = (⟨0, wi, true, t⟩, 0) by intro h; unfold stp; rw [if_pos ⟨hv, ht⟩, if_pos h]; simp [doe])
  have H2 := Lib.hid (show ¬ alw M ⟨pl, wi, fl, st⟩ 6 t → stp M ⟨pl, wi, fl, st⟩ ⟨t, 6, n⟩ = (Bal.zero, 9) by intro h; unfold stp; rw [if_pos ⟨hv, ht⟩, if_neg h])
  clear hv
  by_cases q : (!fl) = true
  · have AX := Lib.hid q
    have HS := Lib.hid (H1.out (HA.out.2 (by simpa using q)))
    clear q
    go_enter Tryd.func36, Tryd.ntmps36
    go_wp2_with fail
    refine (isEvent_any ⟨t, 6, n⟩ _).mono ?_
    rintro e1 w1 ⟨rfl, hb⟩
    have r0 := kcb hb (b := w.heap.size) (o := 12) (v := .func (.func 44) #[] #[]) (by go_cell)
    have r1 := kcb hb (b := w.heap.size) (o := 13) (v := .func (.func 45) #[] #[]) (by go_cell)
    have s0 := kcb hb (b := w.heap.size + 1) (o := 0) (v := .int .i64 pl) (by go_cell)
    have s1 := kcb hb (b := w.heap.size + 1) (o := 1) (v := .int .i64 wi) (by go_cell)
    have s2 := kcb hb (b := w.heap.size + 1) (o := 2) (v := .bool fl) (by go_cell)
    have s3 := kcb hb (b := w.heap.size + 1) (o := 3) (v := .int .i64 st) (by go_cell)
    have e0 := kcb hb (b := w.heap.size + 1 + 1) (o := 0) (v := .int .i64 t) (by go_cell)
    have e1 := kcb hb (b := w.heap.size + 1 + 1) (o := 1) (v := .int .i64 6) (by go_cell)
    have e2 := kcb hb (b := w.heap.size + 1 + 1) (o := 2) (v := .int .i64 n) (by go_cell)
    have c0 := kcb hb (b := w.heap.size + 1 + 1 + 1) (o := 0) (v := .int .i64 0) (by go_cell)
    have c1 := kcb hb (b := w.heap.size + 1 + 1 + 1) (o := 1) (v := .int .i64 0) (by go_cell)
    have c2 := kcb hb (b := w.heap.size + 1 + 1 + 1) (o := 2) (v := .bool false) (by go_cell)
    have c3 := kcb hb (b := w.heap.size + 1 + 1 + 1) (o := 3) (v := .int .i64 0) (by go_cell)
    have y0 := fzb hb (b := w.heap.size + 1) (o := 0) (by (try simp only [frozen?_alloc_cells, World.frozen?_setCell]); first | assumption | exact fz_new (by (try simp only [World.size_alloc, World.size_setCell]); omega)) (by (try simp only [World.size_alloc, World.size_setCell]); omega)
    have y1 := fzb hb (b := w.heap.size + 1) (o := 1) (by (try simp only [frozen?_alloc_cells, World.frozen?_setCell]); first | assumption | exact fz_new (by (try simp only [World.size_alloc, World.size_setCell]); omega)) (by (try simp only [World.size_alloc, World.size_setCell]); omega)
    have y2 := fzb hb (b := w.heap.size + 1) (o := 2) (by (try simp only [frozen?_alloc_cells, World.frozen?_setCell]); first | assumption | exact fz_new (by (try simp only [World.size_alloc, World.size_setCell]); omega)) (by (try simp only [World.size_alloc, World.size_setCell]); omega)
    have y3 := fzb hb (b := w.heap.size + 1) (o := 3) (by (try simp only [frozen?_alloc_cells, World.frozen?_setCell]); first | assumption | exact fz_new (by (try simp only [World.size_alloc, World.size_setCell]); omega)) (by (try simp only [World.size_alloc, World.size_setCell]); omega)
    have z0 := fzb hb (b := w.heap.size + 1 + 1 + 1) (o := 0) (by (try simp only [frozen?_alloc_cells, World.frozen?_setCell]); first | assumption | exact fz_new (by (try simp only [World.size_alloc, World.size_setCell]); omega)) (by (try simp only [World.size_alloc, World.size_setCell]); omega)
    have z1 := fzb hb (b := w.heap.size + 1 + 1 + 1) (o := 1) (by (try simp only [frozen?_alloc_cells, World.frozen?_setCell]); first | assumption | exact fz_new (by (try simp only [World.size_alloc, World.size_setCell]); omega)) (by (try simp only [World.size_alloc, World.size_setCell]); omega)
    have z2 := fzb hb (b := w.heap.size + 1 + 1 + 1) (o := 2) (by (try simp only [frozen?_alloc_cells, World.frozen?_setCell]); first | assumption | exact fz_new (by (try simp only [World.size_alloc, World.size_setCell]); omega)) (by (try simp only [World.size_alloc, World.size_setCell]); omega)
    have z3 := fzb hb (b := w.heap.size + 1 + 1 + 1) (o := 3) (by (try simp only [frozen?_alloc_cells, World.frozen?_setCell]); first | assumption | exact fz_new (by (try simp only [World.size_alloc, World.size_setCell]); omega)) (by (try simp only [World.size_alloc, World.size_setCell]); omega)
    have B1 : Bl w w1 := Below.trans (by go_grown) (hb.mono (by (try simp only [World.size_alloc]); omega))
    have l1 := ltb c0
    clear hb
    rw [Q.out]
    go_wp2_with fail
    refine wp_region_noPanic ?_
    refine wp_region_held_drew (S := fun w' => Bl w w' ∧ w'.cell? ⟨w.heap.size, 12, none⟩ = some (.func (.func 44) #[] #[]) ∧ w'.cell? ⟨w.heap.size + 1, 0, none⟩ = some (.int .i64 pl) ∧ w'.cell? ⟨w.heap.size + 1, 1, none⟩ = some (.int .i64 wi) ∧ w'.cell? ⟨w.heap.size + 1, 2, none⟩ = some (.bool fl) ∧ w'.cell? ⟨w.heap.size + 1, 3, none⟩ = some (.int .i64 st) ∧ w'.cell? ⟨w.heap.size + 1 + 1, 0, none⟩ = some (.int .i64 t) ∧ w'.cell? ⟨w.heap.size + 1 + 1, 1, none⟩ = some (.int .i64 6)) (by kernel_rfl) (⟨B1.tr (Bl.d1 _), kcb (Bl.d1 _) r0, kcb (Bl.d1 _) s0, kcb (Bl.d1 _) s1, kcb (Bl.d1 _) s2, kcb (Bl.d1 _) s3, kcb (Bl.d1 _) e0, kcb (Bl.d1 _) e1⟩) (fun hH => ?_)
    refine wpAnyH_take (i := 0) (oi := ({ dst := some 19, op := Go.Op.fieldAddr 38 (Go.Operand.tmp 5) 1, type := 0, pos := "run.go:106", after := #[], guard := none } : Oper)) (v := ?_) rfl (by kernel_rfl) (by kernel_rfl) (by kernel_rfl) (fun _ _ _ h => h) (Or.inl ⟨by rfl, ?_⟩) hH ?_
    rotate_left
    · intro w hSw; (try dsimp only at hSw); go_simp; try with_reducible rfl
    try simp only [Act.put, List.setIfInBounds_toArray, List.set_cons_zero, List.set_cons_succ]
    refine wpAnyH_take (i := 1) (oi := ({ dst := some 20, op := Go.Op.load 3 (Go.Operand.tmp 19), type := 3, pos := "run.go:106", after := #[{ on := 0, ground := Go.Ground.data }], guard := none } : Oper)) (v := ?_) rfl (by kernel_rfl) (by kernel_rfl) (by kernel_rfl) (fun _ _ _ h => h) (Or.inl ⟨by rfl, ?_⟩) hH ?_
    rotate_left
    · intro w hSw; (try dsimp only at hSw); go_simp; try with_reducible rfl
    try simp only [Act.put, List.setIfInBounds_toArray, List.set_cons_zero, List.set_cons_succ]
    refine wpAnyH_take (i := 2) (oi := ({ dst := some 21, op := Go.Op.indexAddr 75 (Go.Operand.tmp 3) (Go.Operand.tmp 20), type := 0, pos := "run.go:106", after := #[{ on := 1, ground := Go.Ground.data }], guard := none } : Oper)) (v := ?_) rfl (by kernel_rfl) (by kernel_rfl) (by kernel_rfl) (fun _ _ _ h => h) (Or.inl ⟨by rfl, ?_⟩) hH ?_
    rotate_left
    · intro w hSw; (try dsimp only at hSw); go_simp; try with_reducible rfl
    try simp only [Act.put, List.setIfInBounds_toArray, List.set_cons_zero, List.set_cons_succ]
    refine wpAnyH_take (i := 3) (oi := ({ dst := some 22, op := Go.Op.fieldAddr 73 (Go.Operand.tmp 21) 0, type := 0, pos := "run.go:106", after := #[{ on := 2, ground := Go.Ground.data }], guard := none } : Oper)) (v := ?_) rfl (by kernel_rfl) (by kernel_rfl) (by kernel_rfl) (fun _ _ _ h => h) (Or.inl ⟨by rfl, ?_⟩) hH ?_
    rotate_left
    · intro w hSw; (try dsimp only at hSw); go_simp; try with_reducible rfl
    try simp only [Act.put, List.setIfInBounds_toArray, List.set_cons_zero, List.set_cons_succ]
    refine wpAnyH_take (i := 4) (oi := ({ dst := some 23, op := Go.Op.load 70 (Go.Operand.tmp 22), type := 70, pos := "run.go:106", after := #[{ on := 3, ground := Go.Ground.data }], guard := none } : Oper)) (v := ?_) rfl (by kernel_rfl) (by kernel_rfl) (by kernel_rfl) (fun _ _ _ h => h) (Or.inl ⟨by rfl, ?_⟩) hH ?_
    rotate_left
    · intro w hSw; (try dsimp only at hSw); go_simp; try with_reducible rfl
    try simp only [Act.put, List.setIfInBounds_toArray, List.set_cons_zero, List.set_cons_succ]
    refine wpAnyH_take (i := 5) (oi := ({ dst := some 24, op := Go.Op.load 53 (Go.Operand.tmp 4), type := 53, pos := "run.go:106", after := #[], guard := none } : Oper)) (v := ?_) rfl (by kernel_rfl) (by kernel_rfl) (by kernel_rfl) (fun _ _ _ h => h) (Or.inl ⟨by rfl, ?_⟩) hH ?_
    rotate_left
    · intro w hSw; (try dsimp only at hSw); go_simp; try with_reducible rfl
    try simp only [Act.put, List.setIfInBounds_toArray, List.set_cons_zero, List.set_cons_succ]
    refine wpAnyH_take (i := 6) (oi := ({ dst := some 25, op := Go.Op.fieldAddr 38 (Go.Operand.tmp 5) 0, type := 0, pos := "run.go:106", after := #[], guard := none } : Oper)) (v := ?_) rfl (by kernel_rfl) (by kernel_rfl) (by kernel_rfl) (fun _ _ _ h => h) (Or.inl ⟨by rfl, ?_⟩) hH ?_
    rotate_left
    · intro w hSw; (try dsimp only at hSw); go_simp; try with_reducible rfl
    try simp only [Act.put, List.setIfInBounds_toArray, List.set_cons_zero, List.set_cons_succ]
    refine wpAnyH_take (i := 7) (oi := ({ dst := some 26, op := Go.Op.load 3 (Go.Operand.tmp 25), type := 3, pos := "run.go:106", after := #[{ on := 6, ground := Go.Ground.data }], guard := none } : Oper)) (v := ?_) rfl (by kernel_rfl) (by kernel_rfl) (by kernel_rfl) (fun _ _ _ h => h) (Or.inl ⟨by rfl, ?_⟩) hH ?_
    rotate_left
    · intro w hSw; (try dsimp only at hSw); go_simp; try with_reducible rfl
    try simp only [Act.put, List.setIfInBounds_toArray, List.set_cons_zero, List.set_cons_succ]
    refine wpAnyH_ready (rs := [8]) (by kernel_rfl) (by simp) ?_
    refine AllReadyH.cons (o := ({ dst := some 27, op := Go.Op.call { callee := Go.Callee.value (Go.Operand.tmp 23), args := #[Go.Operand.tmp 24, Go.Operand.tmp 26], argTypes := #[53, 3] }, type := 4, pos := "run.go:106", after := #[{ on := 4, ground := Go.Ground.data }, { on := 5, ground := Go.Ground.data }, { on := 7, ground := Go.Ground.data }], guard := none } : Oper)) rfl (fun K hK => ?_) AllReadyH.nil
    go_simp
    go_at_call 44
    refine (hasNoFlag_any ⟨pl, wi, fl, st⟩ t _).mono ?_
    rintro e9 w2 ⟨rfl, hb⟩
    have hb2 := (Bl.d1 w1).tr hb
    rw [AX.out]
    have r0 := kcb hb2 r0
    have r1 := kcb hb2 r1
    have s0 := kcb hb2 s0
    have s1 := kcb hb2 s1
    have s2 := kcb hb2 s2
    have s3 := kcb hb2 s3
    have e0 := kcb hb2 e0
    have e1 := kcb hb2 e1
    have e2 := kcb hb2 e2
    have c0 := kcb hb2 c0
    have c1 := kcb hb2 c1
    have c2 := kcb hb2 c2
    have c3 := kcb hb2 c3
    have y0 := fzb hb2 y0 (by omega)
    have z0 := fzb hb2 z0 (by omega)
    have y1 := fzb hb2 y1 (by omega)
    have z1 := fzb hb2 z1 (by omega)
    have y2 := fzb hb2 y2 (by omega)
    have z2 := fzb hb2 z2 (by omega)
    have y3 := fzb hb2 y3 (by omega)
    have z3 := fzb hb2 z3 (by omega)
    have B2 := B1.tr hb2
    have l2 := ltb c0
    refine hK.out _ _ ⟨hH.1.tr hb, kcb hb hH.2.1, kcb hb hH.2.2.1, kcb hb hH.2.2.2.1, kcb hb hH.2.2.2.2.1, kcb hb hH.2.2.2.2.2.1, kcb hb hH.2.2.2.2.2.2.1, kcb hb hH.2.2.2.2.2.2.2⟩ (fun hH' => ?_)
    clear hH
    have hH := hH'
    clear hH' hK K
    try simp only [Act.put, List.setIfInBounds_toArray, List.set_cons_zero, List.set_cons_succ]
    refine wpAnyH_take (i := 9) (oi := ({ dst := some 28, op := Go.Op.unOp Go.UnOp.not 4 (Go.Operand.tmp 27), type := 4, pos := "run.go:106", after := #[{ on := 8, ground := Go.Ground.data }], guard := none } : Oper)) (v := ?_) rfl (by kernel_rfl) (by kernel_rfl) (by kernel_rfl) (fun _ _ _ h => h) (Or.inl ⟨by rfl, ?_⟩) hH ?_
    rotate_left
    · intro w hSw; (try dsimp only at hSw); go_simp; try with_reducible rfl
    try simp only [Act.put, List.setIfInBounds_toArray, List.set_cons_zero, List.set_cons_succ]
    refine wpAnyH_done (by kernel_rfl) ?_ _
    refine NoPanic.normal ?_
    go_wp2_with fail
    refine wp_region_noPanic ?_
    refine wp_region_held_drew (S := fun w' => Bl w w' ∧ w'.cell? ⟨w.heap.size, 13, none⟩ = some (.func (.func 45) #[] #[]) ∧ w'.cell? ⟨w.heap.size + 1 + 1, 0, none⟩ = some (.int .i64 t) ∧ w'.cell? ⟨w.heap.size + 1 + 1, 1, none⟩ = some (.int .i64 6) ∧ w'.cell? ⟨w.heap.size + 1 + 1, 2, none⟩ = some (.int .i64 n)) (by kernel_rfl) (⟨B2.tr (Bl.d1 _), kcb (Bl.d1 _) r1, kcb (Bl.d1 _) e0, kcb (Bl.d1 _) e1, kcb (Bl.d1 _) e2⟩) (fun hH => ?_)
    refine wpAnyH_take (i := 0) (oi := ({ dst := some 30, op := Go.Op.fieldAddr 38 (Go.Operand.tmp 5) 1, type := 0, pos := "run.go:109", after := #[], guard := none } : Oper)) (v := ?_) rfl (by kernel_rfl) (by kernel_rfl) (by kernel_rfl) (fun _ _ _ h => h) (Or.inl ⟨by rfl, ?_⟩) hH ?_
    rotate_left
    · intro w hSw; (try dsimp only at hSw); go_simp; try with_reducible rfl
    try simp only [Act.put, List.setIfInBounds_toArray, List.set_cons_zero, List.set_cons_succ]
    refine wpAnyH_take (i := 1) (oi := ({ dst := some 31, op := Go.Op.load 3 (Go.Operand.tmp 30), type := 3, pos := "run.go:109", after := #[{ on := 0, ground := Go.Ground.data }], guard := none } : Oper)) (v := ?_) rfl (by kernel_rfl) (by kernel_rfl) (by kernel_rfl) (fun _ _ _ h => h) (Or.inl ⟨by rfl, ?_⟩) hH ?_
    rotate_left
    · intro w hSw; (try dsimp only at hSw); go_simp; try with_reducible rfl
    try simp only [Act.put, List.setIfInBounds_toArray, List.set_cons_zero, List.set_cons_succ]
    refine wpAnyH_take (i := 2) (oi := ({ dst := some 32, op := Go.Op.indexAddr 75 (Go.Operand.tmp 3) (Go.Operand.tmp 31), type := 0, pos := "run.go:109", after := #[{ on := 1, ground := Go.Ground.data }], guard := none } : Oper)) (v := ?_) rfl (by kernel_rfl) (by kernel_rfl) (by kernel_rfl) (fun _ _ _ h => h) (Or.inl ⟨by rfl, ?_⟩) hH ?_
    rotate_left
    · intro w hSw; (try dsimp only at hSw); go_simp; try with_reducible rfl
    try simp only [Act.put, List.setIfInBounds_toArray, List.set_cons_zero, List.set_cons_succ]
    refine wpAnyH_take (i := 3) (oi := ({ dst := some 33, op := Go.Op.fieldAddr 73 (Go.Operand.tmp 32) 1, type := 0, pos := "run.go:109", after := #[{ on := 2, ground := Go.Ground.data }], guard := none } : Oper)) (v := ?_) rfl (by kernel_rfl) (by kernel_rfl) (by kernel_rfl) (fun _ _ _ h => h) (Or.inl ⟨by rfl, ?_⟩) hH ?_
    rotate_left
    · intro w hSw; (try dsimp only at hSw); go_simp; try with_reducible rfl
    try simp only [Act.put, List.setIfInBounds_toArray, List.set_cons_zero, List.set_cons_succ]
    refine wpAnyH_take (i := 4) (oi := ({ dst := some 34, op := Go.Op.load 71 (Go.Operand.tmp 33), type := 71, pos := "run.go:109", after := #[{ on := 3, ground := Go.Ground.data }], guard := none } : Oper)) (v := ?_) rfl (by kernel_rfl) (by kernel_rfl) (by kernel_rfl) (fun _ _ _ h => h) (Or.inl ⟨by rfl, ?_⟩) hH ?_
    rotate_left
    · intro w hSw; (try dsimp only at hSw); go_simp; try with_reducible rfl
    try simp only [Act.put, List.setIfInBounds_toArray, List.set_cons_zero, List.set_cons_succ]
    refine wpAnyH_take (i := 6) (oi := ({ dst := some 36, op := Go.Op.fieldAddr 38 (Go.Operand.tmp 5) 2, type := 0, pos := "run.go:109", after := #[], guard := none } : Oper)) (v := ?_) rfl (by kernel_rfl) (by kernel_rfl) (by kernel_rfl) (fun _ _ _ h => h) (Or.inl ⟨by rfl, ?_⟩) hH ?_
    rotate_left
    · intro w hSw; (try dsimp only at hSw); go_simp; try with_reducible rfl
    try simp only [Act.put, List.setIfInBounds_toArray, List.set_cons_zero, List.set_cons_succ]
    refine wpAnyH_take (i := 7) (oi := ({ dst := some 37, op := Go.Op.load 3 (Go.Operand.tmp 36), type := 3, pos := "run.go:109", after := #[{ on := 6, ground := Go.Ground.data }], guard := none } : Oper)) (v := ?_) rfl (by kernel_rfl) (by kernel_rfl) (by kernel_rfl) (fun _ _ _ h => h) (Or.inl ⟨by rfl, ?_⟩) hH ?_
    rotate_left
    · intro w hSw; (try dsimp only at hSw); go_simp; try with_reducible rfl
    try simp only [Act.put, List.setIfInBounds_toArray, List.set_cons_zero, List.set_cons_succ]
    refine wpAnyH_ready (rs := [5]) (by kernel_rfl) (by simp) ?_
    refine AllReadyH.cons (o := ({ dst := some 35, op := Go.Op.load 53 (Go.Operand.tmp 4), type := 53, pos := "run.go:109", after := #[], guard := none } : Oper)) rfl (fun K hK => ?_) AllReadyH.nil
    go_simp
    have r0 := kcb (Bl.d1 w2) r0
    have r1 := kcb (Bl.d1 w2) r1
    have s0 := kcb (Bl.d1 w2) s0
    have s1 := kcb (Bl.d1 w2) s1
    have s2 := kcb (Bl.d1 w2) s2
    have s3 := kcb (Bl.d1 w2) s3
    have e0 := kcb (Bl.d1 w2) e0
    have e1 := kcb (Bl.d1 w2) e1
    have e2 := kcb (Bl.d1 w2) e2
    have c0 := kcb (Bl.d1 w2) c0
    have c1 := kcb (Bl.d1 w2) c1
    have c2 := kcb (Bl.d1 w2) c2
    have c3 := kcb (Bl.d1 w2) c3
    refine hK.out _ _ hH (fun hH' => ?_)
    clear hH' hK K
    try simp only [Act.put, List.setIfInBounds_toArray, List.set_cons_zero, List.set_cons_succ]
    refine wpAnyH_ready (rs := [8]) (by kernel_rfl) (by simp) ?_
    refine AllReadyH.cons (o := ({ dst := some 38, op := Go.Op.call { callee := Go.Callee.value (Go.Operand.tmp 34), args := #[Go.Operand.tmp 35, Go.Operand.tmp 37], argTypes := #[53, 3] }, type := 53, pos := "run.go:109", after := #[{ on := 4, ground := Go.Ground.data }, { on := 5, ground := Go.Ground.data }, { on := 7, ground := Go.Ground.data }], guard := none } : Oper)) rfl (fun K hK => ?_) AllReadyH.nil
    go_simp
    go_at_call 45
    refine (flags_any ⟨pl, wi, fl, st⟩ n _).mono ?_
    rintro e9 w3 ⟨rfl, hb⟩
    have hb3 := (Bl.d1 w2).tr hb
    have r0 := kcb hb r0
    have r1 := kcb hb r1
    have s0 := kcb hb s0
    have s1 := kcb hb s1
    have s2 := kcb hb s2
    have s3 := kcb hb s3
    have e0 := kcb hb e0
    have e1 := kcb hb e1
    have e2 := kcb hb e2
    have c0 := kcb hb c0
    have c1 := kcb hb c1
    have c2 := kcb hb c2
    have c3 := kcb hb c3
    have y0 := fzb hb3 y0 (by omega)
    have z0 := fzb hb3 z0 (by omega)
    have y1 := fzb hb3 y1 (by omega)
    have z1 := fzb hb3 z1 (by omega)
    have y2 := fzb hb3 y2 (by omega)
    have z2 := fzb hb3 z2 (by omega)
    have y3 := fzb hb3 y3 (by omega)
    have z3 := fzb hb3 z3 (by omega)
    have B3 := B2.tr hb3
    have l3 := ltb c0
    refine hK.out _ _ ⟨hH.1.tr hb, kcb hb hH.2.1, kcb hb hH.2.2.1, kcb hb hH.2.2.2.1, kcb hb hH.2.2.2.2⟩ (fun hH' => ?_)
    clear hH
    have hH := hH'
    clear hH' hK K
    try simp only [Act.put, List.setIfInBounds_toArray, List.set_cons_zero, List.set_cons_succ]
    refine wpAnyH_ready (rs := [9]) (by kernel_rfl) (by simp) ?_
    refine AllReadyH.cons (o := ({ dst := none, op := Go.Op.store 53 (Go.Operand.tmp 4) (Go.Operand.tmp 38), type := 0, pos := "run.go:109", after := #[{ on := 8, ground := Go.Ground.data }, { on := 8, ground := Go.Ground.chain }, { on := 0, ground := Go.Ground.phase }, { on := 1, ground := Go.Ground.phase }, { on := 2, ground := Go.Ground.phase }, { on := 3, ground := Go.Ground.phase }, { on := 4, ground := Go.Ground.phase }, { on := 5, ground := Go.Ground.phase }, { on := 6, ground := Go.Ground.phase }, { on := 7, ground := Go.Ground.phase }, { on := 8, ground := Go.Ground.phase }], guard := none } : Oper)) rfl (fun K hK => ?_) AllReadyH.nil
    go_simp
    refine hK.out _ _ ⟨by go_grown, by go_cell, by go_cell, by go_cell, by go_cell⟩ (fun hH' => ?_)
    clear hH' hK K
    try simp only [Act.put, List.setIfInBounds_toArray, List.set_cons_zero, List.set_cons_succ]
    refine wpAnyH_done (by kernel_rfl) ?_ _
    refine NoPanic.normal ?_
    obtain ⟨V, hV⟩ : ∃ V, V = ((((w3).setCell ⟨w.heap.size + 1, 0, none⟩ (.int .i64 0)).setCell ⟨w.heap.size + 1, 1, none⟩ (.int .i64 wi)).setCell ⟨w.heap.size + 1, 2, none⟩ (.bool true)).setCell ⟨w.heap.size + 1, 3, none⟩ (.int .i64 st) := ⟨_, rfl⟩
    have BV : Bl w V := by rw [hV]; go_grown
    have s0 : V.cell? ⟨w.heap.size + 1, 0, none⟩ = some (.int .i64 0) := by rw [hV]; go_cell
    have s1 : V.cell? ⟨w.heap.size + 1, 1, none⟩ = some (.int .i64 wi) := by rw [hV]; go_cell
    have s2 : V.cell? ⟨w.heap.size + 1, 2, none⟩ = some (.bool true) := by rw [hV]; go_cell
    have s3 : V.cell? ⟨w.heap.size + 1, 3, none⟩ = some (.int .i64 st) := by rw [hV]; go_cell
    have e0 : V.cell? ⟨w.heap.size + 1 + 1, 0, none⟩ = some (.int .i64 t) := by rw [hV]; go_cell
    have c0 : V.cell? ⟨w.heap.size + 1 + 1 + 1, 0, none⟩ = some (.int .i64 0) := by rw [hV]; go_cell
    have c1 : V.cell? ⟨w.heap.size + 1 + 1 + 1, 1, none⟩ = some (.int .i64 0) := by rw [hV]; go_cell
    have c2 : V.cell? ⟨w.heap.size + 1 + 1 + 1, 2, none⟩ = some (.bool false) := by rw [hV]; go_cell
    have c3 : V.cell? ⟨w.heap.size + 1 + 1 + 1, 3, none⟩ = some (.int .i64 0) := by rw [hV]; go_cell
    have y0 : V.frozen? ⟨w.heap.size + 1, 0, none⟩ = false := by rw [hV]; simp only [World.frozen?_setCell]; exact y0
    have z0 : V.frozen? ⟨w.heap.size + 1 + 1 + 1, 0, none⟩ = false := by rw [hV]; simp only [World.frozen?_setCell]; exact z0
    have y1 : V.frozen? ⟨w.heap.size + 1, 1, none⟩ = false := by rw [hV]; simp only [World.frozen?_setCell]; exact y1
    have z1 : V.frozen? ⟨w.heap.size + 1 + 1 + 1, 1, none⟩ = false := by rw [hV]; simp only [World.frozen?_setCell]; exact z1
    have y2 : V.frozen? ⟨w.heap.size + 1, 2, none⟩ = false := by rw [hV]; simp only [World.frozen?_setCell]; exact y2
    have z2 : V.frozen? ⟨w.heap.size + 1 + 1 + 1, 2, none⟩ = false := by rw [hV]; simp only [World.frozen?_setCell]; exact z2
    have y3 : V.frozen? ⟨w.heap.size + 1, 3, none⟩ = false := by rw [hV]; simp only [World.frozen?_setCell]; exact y3
    have z3 : V.frozen? ⟨w.heap.size + 1 + 1 + 1, 3, none⟩ = false := by rw [hV]; simp only [World.frozen?_setCell]; exact z3
    rw [← hV]
    clear hV hH e1 e2 r0 r1
    have lV := ltb c0
    go_wp2_with fail
    exact bodyPost_ret (v := .tuple #[.agg #[.int .i64 0, .int .i64 wi, .bool true, .int .i64 t], .int .i64 0]) (by simp [results, Tryd.results36, go_sem, c0, c1, c2, c3, z0, z1, z2, z3]) rfl ⟨by rw [HS.out], by go_grown⟩
  · have AX := Lib.hid (show (!fl) = false by simpa using q)
    have HS := Lib.hid (H2.out (fun h => (fun h => q (by rw [h]; rfl)) (HA.out.1 h)))
    clear q
    go_enter Tryd.func36, Tryd.ntmps36
    go_wp2_with fail
    refine (isEvent_any ⟨t, 6, n⟩ _).mono ?_
    rintro e1 w1 ⟨rfl, hb⟩
    have r0 := kcb hb (b := w.heap.size) (o := 12) (v := .func (.func 44) #[] #[]) (by go_cell)
    have r1 := kcb hb (b := w.heap.size) (o := 13) (v := .func (.func 45) #[] #[]) (by go_cell)
    have s0 := kcb hb (b := w.heap.size + 1) (o := 0) (v := .int .i64 pl) (by go_cell)
    have s1 := kcb hb (b := w.heap.size + 1) (o := 1) (v := .int .i64 wi) (by go_cell)
    have s2 := kcb hb (b := w.heap.size + 1) (o := 2) (v := .bool fl) (by go_cell)
    have s3 := kcb hb (b := w.heap.size + 1) (o := 3) (v := .int .i64 st) (by go_cell)
    have e0 := kcb hb (b := w.heap.size + 1 + 1) (o := 0) (v := .int .i64 t) (by go_cell)
    have e1 := kcb hb (b := w.heap.size + 1 + 1) (o := 1) (v := .int .i64 6) (by go_cell)
    have e2 := kcb hb (b := w.heap.size + 1 + 1) (o := 2) (v := .int .i64 n) (by go_cell)
    have c0 := kcb hb (b := w.heap.size + 1 + 1 + 1) (o := 0) (v := .int .i64 0) (by go_cell)
    have c1 := kcb hb (b := w.heap.size + 1 + 1 + 1) (o := 1) (v := .int .i64 0) (by go_cell)
    have c2 := kcb hb (b := w.heap.size + 1 + 1 + 1) (o := 2) (v := .bool false) (by go_cell)
    have c3 := kcb hb (b := w.heap.size + 1 + 1 + 1) (o := 3) (v := .int .i64 0) (by go_cell)
    have y0 := fzb hb (b := w.heap.size + 1) (o := 0) (by (try simp only [frozen?_alloc_cells, World.frozen?_setCell]); first | assumption | exact fz_new (by (try simp only [World.size_alloc, World.size_setCell]); omega)) (by (try simp only [World.size_alloc, World.size_setCell]); omega)
    have y1 := fzb hb (b := w.heap.size + 1) (o := 1) (by (try simp only [frozen?_alloc_cells, World.frozen?_setCell]); first | assumption | exact fz_new (by (try simp only [World.size_alloc, World.size_setCell]); omega)) (by (try simp only [World.size_alloc, World.size_setCell]); omega)
    have y2 := fzb hb (b := w.heap.size + 1) (o := 2) (by (try simp only [frozen?_alloc_cells, World.frozen?_setCell]); first | assumption | exact fz_new (by (try simp only [World.size_alloc, World.size_setCell]); omega)) (by (try simp only [World.size_alloc, World.size_setCell]); omega)
    have y3 := fzb hb (b := w.heap.size + 1) (o := 3) (by (try simp only [frozen?_alloc_cells, World.frozen?_setCell]); first | assumption | exact fz_new (by (try simp only [World.size_alloc, World.size_setCell]); omega)) (by (try simp only [World.size_alloc, World.size_setCell]); omega)
    have z0 := fzb hb (b := w.heap.size + 1 + 1 + 1) (o := 0) (by (try simp only [frozen?_alloc_cells, World.frozen?_setCell]); first | assumption | exact fz_new (by (try simp only [World.size_alloc, World.size_setCell]); omega)) (by (try simp only [World.size_alloc, World.size_setCell]); omega)
    have z1 := fzb hb (b := w.heap.size + 1 + 1 + 1) (o := 1) (by (try simp only [frozen?_alloc_cells, World.frozen?_setCell]); first | assumption | exact fz_new (by (try simp only [World.size_alloc, World.size_setCell]); omega)) (by (try simp only [World.size_alloc, World.size_setCell]); omega)
    have z2 := fzb hb (b := w.heap.size + 1 + 1 + 1) (o := 2) (by (try simp only [frozen?_alloc_cells, World.frozen?_setCell]); first | assumption | exact fz_new (by (try simp only [World.size_alloc, World.size_setCell]); omega)) (by (try simp only [World.size_alloc, World.size_setCell]); omega)
    have z3 := fzb hb (b := w.heap.size + 1 + 1 + 1) (o := 3) (by (try simp only [frozen?_alloc_cells, World.frozen?_setCell]); first | assumption | exact fz_new (by (try simp only [World.size_alloc, World.size_setCell]); omega)) (by (try simp only [World.size_alloc, World.size_setCell]); omega)
    have B1 : Bl w w1 := Below.trans (by go_grown) (hb.mono (by (try simp only [World.size_alloc]); omega))
    have l1 := ltb c0
    clear hb
    rw [Q.out]
    go_wp2_with fail
    refine wp_region_noPanic ?_
    refine wp_region_held_drew (S := fun w' => Bl w w' ∧ w'.cell? ⟨w.heap.size, 12, none⟩ = some (.func (.func 44) #[] #[]) ∧ w'.cell? ⟨w.heap.size + 1, 0, none⟩ = some (.int .i64 pl) ∧ w'.cell? ⟨w.heap.size + 1, 1, none⟩ = some (.int .i64 wi) ∧ w'.cell? ⟨w.heap.size + 1, 2, none⟩ = some (.bool fl) ∧ w'.cell? ⟨w.heap.size + 1, 3, none⟩ = some (.int .i64 st) ∧ w'.cell? ⟨w.heap.size + 1 + 1, 0, none⟩ = some (.int .i64 t) ∧ w'.cell? ⟨w.heap.size + 1 + 1, 1, none⟩ = some (.int .i64 6)) (by kernel_rfl) (⟨B1.tr (Bl.d1 _), kcb (Bl.d1 _) r0, kcb (Bl.d1 _) s0, kcb (Bl.d1 _) s1, kcb (Bl.d1 _) s2, kcb (Bl.d1 _) s3, kcb (Bl.d1 _) e0, kcb (Bl.d1 _) e1⟩) (fun hH => ?_)
    refine wpAnyH_take (i := 0) (oi := ({ dst := some 19, op := Go.Op.fieldAddr 38 (Go.Operand.tmp 5) 1, type := 0, pos := "run.go:106", after := #[], guard := none } : Oper)) (v := ?_) rfl (by kernel_rfl) (by kernel_rfl) (by kernel_rfl) (fun _ _ _ h => h) (Or.inl ⟨by rfl, ?_⟩) hH ?_
    rotate_left
    · intro w hSw; (try dsimp only at hSw); go_simp; try with_reducible rfl
    try simp only [Act.put, List.setIfInBounds_toArray, List.set_cons_zero, List.set_cons_succ]
    refine wpAnyH_take (i := 1) (oi := ({ dst := some 20, op := Go.Op.load 3 (Go.Operand.tmp 19), type := 3, pos := "run.go:106", after := #[{ on := 0, ground := Go.Ground.data }], guard := none } : Oper)) (v := ?_) rfl (by kernel_rfl) (by kernel_rfl) (by kernel_rfl) (fun _ _ _ h => h) (Or.inl ⟨by rfl, ?_⟩) hH ?_
    rotate_left
    · intro w hSw; (try dsimp only at hSw); go_simp; try with_reducible rfl
    try simp only [Act.put, List.setIfInBounds_toArray, List.set_cons_zero, List.set_cons_succ]
    refine wpAnyH_take (i := 2) (oi := ({ dst := some 21, op := Go.Op.indexAddr 75 (Go.Operand.tmp 3) (Go.Operand.tmp 20), type := 0, pos := "run.go:106", after := #[{ on := 1, ground := Go.Ground.data }], guard := none } : Oper)) (v := ?_) rfl (by kernel_rfl) (by kernel_rfl) (by kernel_rfl) (fun _ _ _ h => h) (Or.inl ⟨by rfl, ?_⟩) hH ?_
    rotate_left
    · intro w hSw; (try dsimp only at hSw); go_simp; try with_reducible rfl
    try simp only [Act.put, List.setIfInBounds_toArray, List.set_cons_zero, List.set_cons_succ]
    refine wpAnyH_take (i := 3) (oi := ({ dst := some 22, op := Go.Op.fieldAddr 73 (Go.Operand.tmp 21) 0, type := 0, pos := "run.go:106", after := #[{ on := 2, ground := Go.Ground.data }], guard := none } : Oper)) (v := ?_) rfl (by kernel_rfl) (by kernel_rfl) (by kernel_rfl) (fun _ _ _ h => h) (Or.inl ⟨by rfl, ?_⟩) hH ?_
    rotate_left
    · intro w hSw; (try dsimp only at hSw); go_simp; try with_reducible rfl
    try simp only [Act.put, List.setIfInBounds_toArray, List.set_cons_zero, List.set_cons_succ]
    refine wpAnyH_take (i := 4) (oi := ({ dst := some 23, op := Go.Op.load 70 (Go.Operand.tmp 22), type := 70, pos := "run.go:106", after := #[{ on := 3, ground := Go.Ground.data }], guard := none } : Oper)) (v := ?_) rfl (by kernel_rfl) (by kernel_rfl) (by kernel_rfl) (fun _ _ _ h => h) (Or.inl ⟨by rfl, ?_⟩) hH ?_
    rotate_left
    · intro w hSw; (try dsimp only at hSw); go_simp; try with_reducible rfl
    try simp only [Act.put, List.setIfInBounds_toArray, List.set_cons_zero, List.set_cons_succ]
    refine wpAnyH_take (i := 5) (oi := ({ dst := some 24, op := Go.Op.load 53 (Go.Operand.tmp 4), type := 53, pos := "run.go:106", after := #[], guard := none } : Oper)) (v := ?_) rfl (by kernel_rfl) (by kernel_rfl) (by kernel_rfl) (fun _ _ _ h => h) (Or.inl ⟨by rfl, ?_⟩) hH ?_
    rotate_left
    · intro w hSw; (try dsimp only at hSw); go_simp; try with_reducible rfl
    try simp only [Act.put, List.setIfInBounds_toArray, List.set_cons_zero, List.set_cons_succ]
    refine wpAnyH_take (i := 6) (oi := ({ dst := some 25, op := Go.Op.fieldAddr 38 (Go.Operand.tmp 5) 0, type := 0, pos := "run.go:106", after := #[], guard := none } : Oper)) (v := ?_) rfl (by kernel_rfl) (by kernel_rfl) (by kernel_rfl) (fun _ _ _ h => h) (Or.inl ⟨by rfl, ?_⟩) hH ?_
    rotate_left
    · intro w hSw; (try dsimp only at hSw); go_simp; try with_reducible rfl
    try simp only [Act.put, List.setIfInBounds_toArray, List.set_cons_zero, List.set_cons_succ]
    refine wpAnyH_take (i := 7) (oi := ({ dst := some 26, op := Go.Op.load 3 (Go.Operand.tmp 25), type := 3, pos := "run.go:106", after := #[{ on := 6, ground := Go.Ground.data }], guard := none } : Oper)) (v := ?_) rfl (by kernel_rfl) (by kernel_rfl) (by kernel_rfl) (fun _ _ _ h => h) (Or.inl ⟨by rfl, ?_⟩) hH ?_
    rotate_left
    · intro w hSw; (try dsimp only at hSw); go_simp; try with_reducible rfl
    try simp only [Act.put, List.setIfInBounds_toArray, List.set_cons_zero, List.set_cons_succ]
    refine wpAnyH_ready (rs := [8]) (by kernel_rfl) (by simp) ?_
    refine AllReadyH.cons (o := ({ dst := some 27, op := Go.Op.call { callee := Go.Callee.value (Go.Operand.tmp 23), args := #[Go.Operand.tmp 24, Go.Operand.tmp 26], argTypes := #[53, 3] }, type := 4, pos := "run.go:106", after := #[{ on := 4, ground := Go.Ground.data }, { on := 5, ground := Go.Ground.data }, { on := 7, ground := Go.Ground.data }], guard := none } : Oper)) rfl (fun K hK => ?_) AllReadyH.nil
    go_simp
    go_at_call 44
    refine (hasNoFlag_any ⟨pl, wi, fl, st⟩ t _).mono ?_
    rintro e9 w2 ⟨rfl, hb⟩
    have hb2 := (Bl.d1 w1).tr hb
    rw [AX.out]
    have r0 := kcb hb2 r0
    have r1 := kcb hb2 r1
    have s0 := kcb hb2 s0
    have s1 := kcb hb2 s1
    have s2 := kcb hb2 s2
    have s3 := kcb hb2 s3
    have e0 := kcb hb2 e0
    have e1 := kcb hb2 e1
    have e2 := kcb hb2 e2
    have c0 := kcb hb2 c0
    have c1 := kcb hb2 c1
    have c2 := kcb hb2 c2
    have c3 := kcb hb2 c3
    have y0 := fzb hb2 y0 (by omega)
    have z0 := fzb hb2 z0 (by omega)
    have y1 := fzb hb2 y1 (by omega)
    have z1 := fzb hb2 z1 (by omega)
    have y2 := fzb hb2 y2 (by omega)
    have z2 := fzb hb2 z2 (by omega)
    have y3 := fzb hb2 y3 (by omega)
    have z3 := fzb hb2 z3 (by omega)
    have B2 := B1.tr hb2
    have l2 := ltb c0
    refine hK.out _ _ ⟨hH.1.tr hb, kcb hb hH.2.1, kcb hb hH.2.2.1, kcb hb hH.2.2.2.1, kcb hb hH.2.2.2.2.1, kcb hb hH.2.2.2.2.2.1, kcb hb hH.2.2.2.2.2.2.1, kcb hb hH.2.2.2.2.2.2.2⟩ (fun hH' => ?_)
    clear hH
    have hH := hH'
    clear hH' hK K
    try simp only [Act.put, List.setIfInBounds_toArray, List.set_cons_zero, List.set_cons_succ]
    refine wpAnyH_take (i := 9) (oi := ({ dst := some 28, op := Go.Op.unOp Go.UnOp.not 4 (Go.Operand.tmp 27), type := 4, pos := "run.go:106", after := #[{ on := 8, ground := Go.Ground.data }], guard := none } : Oper)) (v := ?_) rfl (by kernel_rfl) (by kernel_rfl) (by kernel_rfl) (fun _ _ _ h => h) (Or.inl ⟨by rfl, ?_⟩) hH ?_
    rotate_left
    · intro w hSw; (try dsimp only at hSw); go_simp; try with_reducible rfl
    try simp only [Act.put, List.setIfInBounds_toArray, List.set_cons_zero, List.set_cons_succ]
    refine wpAnyH_done (by kernel_rfl) ?_ _
    refine NoPanic.normal ?_
    go_wp2_with fail
    exact bodyPost_ret (v := .tuple #[.agg #[.int .i64 0, .int .i64 0, .bool false, .int .i64 0], .int .i64 9]) (by simp [results, Tryd.results36, go_sem, c0, c1, c2, c3, z0, z1, z2, z3]) rfl ⟨by rw [HS.out], by go_grown⟩
theorem next_any (M : Mst) (hM : VM M) (x g1 g2 i1 g0 i2 g3 : Nat) (s : Bal) (e : Evt) (w : World) (hR : RulesAt w M x g1 g2 i1 g0 i2 g3) :
    Calls Tryd.prog 36 #[RV x g1 g2 i1 g0 i2 g3, encB s, encE e] w fun r w' => r = .returned (.tuple #[encB (stp M s e).1, .int .i64 (stp M s e).2]) ∧ Bl w w' := by
  obtain ⟨pl, wi, fl, st⟩ := s
  obtain ⟨t, ki, n⟩ := e
  by_cases h : VE ⟨t, ki, n⟩ ∧ st ≤ t
  · obtain ⟨hv, ht⟩ := h
    rcases hv.kinds with h | h | h | h | h | h <;> (simp only at h; subst h)
    · exact next_1 M hM x g1 g2 i1 g0 i2 g3 pl wi fl st t n w hR hv ht
    · exact next_2 M hM x g1 g2 i1 g0 i2 g3 pl wi fl st t n w hR hv ht
    · exact next_3 M hM x g1 g2 i1 g0 i2 g3 pl wi fl st t n w hR hv ht
    · exact next_4 M hM x g1 g2 i1 g0 i2 g3 pl wi fl st t n w hR hv ht
    · exact next_5 M hM x g1 g2 i1 g0 i2 g3 pl wi fl st t n w hR hv ht
    · exact next_6 M hM x g1 g2 i1 g0 i2 g3 pl wi fl st t n w hR hv ht
  · exact next_bad M hM x g1 g2 i1 g0 i2 g3 pl wi fl st t ki n w hR h
end Go.Proofs.YtajlfflbphbjnaaDoor
