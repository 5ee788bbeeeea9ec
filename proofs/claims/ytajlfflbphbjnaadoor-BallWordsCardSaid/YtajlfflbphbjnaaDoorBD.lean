/-
  Contracts of package ball: the mast's rules.
-/
import Derived.Test.YtajlfflbphbjnaaDoorBC
import Derived.BigQuiet
import Derived.Deep.QuietTactic
import Derived.Deep.RegionHeld3
import Derived.Laws.EntriesVeiled
namespace Go.Proofs.YtajlfflbphbjnaaDoor
open Go.RowKit
set_option linter.unusedSimpArgs false
set_option linter.unusedVariables false

theorem kcb {W w1 : World} (hb : Bl W w1) {b o : Nat} {v : Value} (h : W.cell? ⟨b, o, none⟩ = some v) : w1.cell? ⟨b, o, none⟩ = some v :=
  (hb.cell (p := ⟨b, o, none⟩) (World.block_lt_of_cell? W ⟨b, o, none⟩ h)).trans h
theorem ltb {w : World} {b o : Nat} {v : Value} (h : w.cell? ⟨b, o, none⟩ = some v) : b < w.heap.size := World.block_lt_of_cell? w ⟨b, o, none⟩ h
theorem Bl.db (w : World) (n : Nat) : Bl w (w.drewN n) := ⟨rfl, rfl, rfl, Nat.le_refl _, fun _ _ => rfl⟩
theorem Bl.d1 (w : World) : Bl w w.drew := Bl.db w 1
/-- A block that holds a mast. -/
structure MastAt (w : World) (b : Nat) (M : Mst) : Prop where
  c0 : w.cell? ⟨b, 0, none⟩ = some (.int .i64 M.no)
  c1 : w.cell? ⟨b, 1, none⟩ = some (.int .i64 M.hf)
  c2 : w.cell? ⟨b, 2, none⟩ = some (.int .i64 M.fu)
  c3 : w.cell? ⟨b, 3, none⟩ = some (.int .i64 M.la)
  c4 : w.cell? ⟨b, 4, none⟩ = some (.int .i64 M.ag)
  c5 : w.cell? ⟨b, 5, none⟩ = some (.int .i64 M.wi)
theorem MastAt.below {w w' : World} {b : Nat} {M : Mst} (h : MastAt w b M) (hb : Bl w w') : MastAt w' b M := ⟨kcb hb h.c0, kcb hb h.c1, kcb hb h.c2, kcb hb h.c3, kcb hb h.c4, kcb hb h.c5⟩

set_option maxHeartbeats 400000 in
theorem always_any (s : Bal) (t : Int) (w : World) : Calls Tryd.prog 40 #[encB s, .int .i64 t] w fun e w' => e = .returned (.bool true) ∧ Bl w w' := by
  go_enter Tryd.func40, Tryd.ntmps40
  go_wp2
  go_ret
  exact ⟨rfl, by go_grown⟩
set_option maxHeartbeats 400000 in
theorem hasNoFlag_any (s : Bal) (t : Int) (w : World) : Calls Tryd.prog 44 #[encB s, .int .i64 t] w fun e w' => e = .returned (.bool (!s.fl)) ∧ Bl w w' := by
  go_enter Tryd.func44, Tryd.ntmps44
  go_wp2
  go_ret
  exact ⟨rfl, by go_grown⟩
set_option maxHeartbeats 400000 in
theorem is1_any (s : Bal) (t p : Int) (b : Nat) (w : World) (hp : w.cell? ⟨b, 0, none⟩ = some (.int .i64 p)) : Calls Tryd.prog 48 #[encB s, .int .i64 t, .pointer (some ⟨b, 0, none⟩)] w fun e w' => e = .returned (.bool (decide (s.pl = p))) ∧ Bl w w' := by
  have lb := ltb hp
  go_enter Tryd.func48, Tryd.ntmps48
  go_wp2
  go_ret
  exact ⟨ret_bool (by rw [Bool.eq_iff_iff]; simp), by go_grown⟩
set_option maxHeartbeats 400000 in
theorem goes1_any (s : Bal) (t p : Int) (b : Nat) (w : World) (hp : w.cell? ⟨b, 0, none⟩ = some (.int .i64 p)) : Calls Tryd.prog 47 #[encB s, .int .i64 t, .pointer (some ⟨b, 0, none⟩)] w fun e w' => e = .returned (.agg #[.int .i64 p, .int .i64 s.wi, .bool s.fl, .int .i64 s.t]) ∧ Bl w w' := by
  have lb := ltb hp
  go_enter Tryd.func47, Tryd.ntmps47
  go_wp2_with fail
  exact bodyPost_ret (v := .agg #[.int .i64 p, .int .i64 s.wi, .bool s.fl, .int .i64 s.t]) (by simp [results, Tryd.results47, go_sem]) rfl ⟨rfl, by go_grown⟩
set_option maxHeartbeats 400000 in
theorem blows_any (s : Bal) (n m : Int) (hm : m = if s.wi < n then n else s.wi) (w : World) : Calls Tryd.prog 41 #[encB s, .int .i64 n] w fun e w' => e = .returned (.agg #[.int .i64 s.pl, .int .i64 m, .bool s.fl, .int .i64 s.t]) ∧ Bl w w' := by
  by_cases h : s.wi < n
  · rw [if_pos h] at hm
    subst hm
    go_enter Tryd.func41, Tryd.ntmps41
    go_wp2_with fail
    exact bodyPost_ret (v := .agg #[.int .i64 s.pl, .int .i64 m, .bool s.fl, .int .i64 s.t]) (by simp [results, Tryd.results41, go_sem]) rfl ⟨rfl, by go_grown⟩
  · rw [if_neg h] at hm
    subst hm
    go_enter Tryd.func41, Tryd.ntmps41
    go_wp2_with fail
    exact bodyPost_ret (v := .agg #[.int .i64 s.pl, .int .i64 s.wi, .bool s.fl, .int .i64 s.t]) (by simp [results, Tryd.results41, go_sem]) rfl ⟨rfl, by go_grown⟩
set_option maxHeartbeats 400000 in
theorem flags_any (s : Bal) (n : Int) (w : World) : Calls Tryd.prog 45 #[encB s, .int .i64 n] w fun e w' => e = .returned (.agg #[.int .i64 0, .int .i64 s.wi, .bool true, .int .i64 s.t]) ∧ Bl w w' := by
  go_enter Tryd.func45, Tryd.ntmps45
  go_wp2_with fail
  exact bodyPost_ret (v := .agg #[.int .i64 0, .int .i64 s.wi, .bool true, .int .i64 s.t]) (by simp [results, Tryd.results45, go_sem]) rfl ⟨rfl, by go_grown⟩
set_option maxRecDepth 100000 in
set_option maxHeartbeats 1600000 in
theorem raises_any (M : Mst) (hM : VM M) (s : Bal) (t : Int) (b : Nat) (w : World) (hm : MastAt w b M) : Calls Tryd.prog 37 #[encB s, .int .i64 t, .pointer (some ⟨b, 0, none⟩)] w fun e w' => e = .returned (.bool (decide (s.pl = 0 ∧ s.wi ≤ M.wi ∧ (bef M M.no t ∨ bef M (M.no + M.ag) t)))) ∧ Bl w w' := by
  obtain ⟨m0, m1, m2, m3, m4, m5⟩ := hm
  have lb := ltb m0
  have vno0 := hM.no0
  have vno1 := hM.no1
  have vfu0 := hM.fu0
  have vhf0 := hM.hf0
  have vhf1 := hM.hf1
  have vag0 := hM.ag0
  have vag1 := hM.ag1
  go_enter Tryd.func37, Tryd.ntmps37
  go_wp2_with fail
  obtain ⟨W, hW⟩ : ∃ W, W = w.alloc (.cells #[.int .i64 s.pl, .int .i64 s.wi, .bool s.fl, .int .i64 s.t] 53) := ⟨_, rfl⟩
  have BW : Bl w W := by rw [hW]; go_grown
  have g0 := kcb BW m0
  have g1 := kcb BW m1
  have g2 := kcb BW m2
  have g3 := kcb BW m3
  have g4 := kcb BW m4
  have g5 := kcb BW m5
  have p0 : W.cell? ⟨w.heap.size, 0, none⟩ = some (.int .i64 s.pl) := by rw [hW]; go_cell
  have p1 : W.cell? ⟨w.heap.size, 1, none⟩ = some (.int .i64 s.wi) := by rw [hW]; go_cell
  rw [← hW]
  clear hW m0 m1 m2 m3 m4 m5
  by_cases q : s.pl = 0
  · have q1 : (s.pl == 0) = true := by simp [q]
    by_cases r : s.wi ≤ M.wi
    · have r1 : decide (s.wi ≤ M.wi) = true := by simp [r]
      by_cases u : bef M M.no t
      · have U := Lib.hid (show decide (bef M M.no t) = true from decide_eq_true u)
        refine wp_region_noPanic ?_
        refine wp_region_held_drew (S := fun w' => Bl W w' ∧ w'.cell? ⟨w.heap.size, 0, none⟩ = some (.int .i64 s.pl) ∧ w'.cell? ⟨w.heap.size, 1, none⟩ = some (.int .i64 s.wi) ∧ w'.cell? ⟨b, 0, none⟩ = some (.int .i64 M.no) ∧ w'.cell? ⟨b, 1, none⟩ = some (.int .i64 M.hf) ∧ w'.cell? ⟨b, 2, none⟩ = some (.int .i64 M.fu) ∧ w'.cell? ⟨b, 3, none⟩ = some (.int .i64 M.la) ∧ w'.cell? ⟨b, 4, none⟩ = some (.int .i64 M.ag) ∧ w'.cell? ⟨b, 5, none⟩ = some (.int .i64 M.wi)) (by kernel_rfl) (⟨Bl.d1 _, kcb (Bl.d1 _) p0, kcb (Bl.d1 _) p1, kcb (Bl.d1 _) g0, kcb (Bl.d1 _) g1, kcb (Bl.d1 _) g2, kcb (Bl.d1 _) g3, kcb (Bl.d1 _) g4, kcb (Bl.d1 _) g5⟩) (fun hH => ?_)
        refine wpAnyH_take (i := 0) (oi := ({ dst := some 6, op := Go.Op.fieldAddr 53 (Go.Operand.tmp 3) 0, type := 0, pos := "run.go:28", after := #[], guard := none } : Oper)) (v := ?_) rfl (by kernel_rfl) (by kernel_rfl) (by kernel_rfl) (fun _ _ _ h => h) (Or.inl ⟨by rfl, ?_⟩) hH ?_
        rotate_left
        · intro w hSw; (try dsimp only at hSw); go_simp; try with_reducible rfl
        try simp only [Act.put, List.setIfInBounds_toArray, List.set_cons_zero, List.set_cons_succ]
        refine wpAnyH_take (i := 1) (oi := ({ dst := some 7, op := Go.Op.load 3 (Go.Operand.tmp 6), type := 3, pos := "run.go:28", after := #[{ on := 0, ground := Go.Ground.data }], guard := none } : Oper)) (v := ?_) rfl (by kernel_rfl) (by kernel_rfl) (by kernel_rfl) (fun _ _ _ h => h) (Or.inl ⟨by rfl, ?_⟩) hH ?_
        rotate_left
        · intro w hSw; (try dsimp only at hSw); go_simp; try with_reducible rfl
        try simp only [Act.put, List.setIfInBounds_toArray, List.set_cons_zero, List.set_cons_succ]
        refine wpAnyH_take (i := 2) (oi := ({ dst := some 8, op := Go.Op.binOp Go.BinOp.eql 3 (Go.Operand.tmp 7) (Go.Operand.const (Go.Value.int Go.IntKind.i64 0)) 3, type := 4, pos := "run.go:28", after := #[{ on := 1, ground := Go.Ground.data }], guard := none } : Oper)) (v := ?_) rfl (by kernel_rfl) (by kernel_rfl) (by kernel_rfl) (fun _ _ _ h => h) (Or.inl ⟨by rfl, ?_⟩) hH ?_
        rotate_left
        · intro w hSw; (try dsimp only at hSw); go_simp; try with_reducible rfl
        try simp only [Act.put, List.setIfInBounds_toArray, List.set_cons_zero, List.set_cons_succ]
        refine wpAnyH_take (i := 3) (oi := ({ dst := some 9, op := Go.Op.move (Go.Operand.tmp 8), type := 4, pos := "run.go:28", after := #[{ on := 2, ground := Go.Ground.data }], guard := none } : Oper)) (v := ?_) rfl (by kernel_rfl) (by kernel_rfl) (by kernel_rfl) (fun _ _ _ h => h) (Or.inl ⟨by rfl, ?_⟩) hH ?_
        rotate_left
        · intro w hSw; (try dsimp only at hSw); go_simp; try with_reducible rfl
        try simp only [Act.put, List.setIfInBounds_toArray, List.set_cons_zero, List.set_cons_succ]
        refine wpAnyH_take (i := 4) (oi := ({ dst := some 10, op := Go.Op.fieldAddr 53 (Go.Operand.tmp 3) 1, type := 0, pos := "run.go:28", after := #[{ on := 3, ground := Go.Ground.guard }], guard := some (3, true) } : Oper)) (v := ?_) rfl (by kernel_rfl) (by kernel_rfl) (by kernel_rfl) (fun _ _ _ h => h) (Or.inl ⟨by rfl, ?_⟩) hH ?_
        rotate_left
        · intro w hSw; (try dsimp only at hSw); go_simp; try with_reducible rfl
        try simp only [Act.put, List.setIfInBounds_toArray, List.set_cons_zero, List.set_cons_succ]
        refine wpAnyH_take (i := 5) (oi := ({ dst := some 11, op := Go.Op.load 3 (Go.Operand.tmp 10), type := 3, pos := "run.go:28", after := #[{ on := 4, ground := Go.Ground.data }, { on := 3, ground := Go.Ground.guard }], guard := some (3, true) } : Oper)) (v := ?_) rfl (by kernel_rfl) (by kernel_rfl) (by kernel_rfl) (fun _ _ _ h => h) (Or.inl ⟨by rfl, ?_⟩) hH ?_
        rotate_left
        · intro w hSw; (try dsimp only at hSw); go_simp; try with_reducible rfl
        try simp only [Act.put, List.setIfInBounds_toArray, List.set_cons_zero, List.set_cons_succ]
        refine wpAnyH_take (i := 6) (oi := ({ dst := some 12, op := Go.Op.fieldAddr 35 (Go.Operand.tmp 2) 5, type := 0, pos := "run.go:28", after := #[{ on := 3, ground := Go.Ground.guard }], guard := some (3, true) } : Oper)) (v := ?_) rfl (by kernel_rfl) (by kernel_rfl) (by kernel_rfl) (fun _ _ _ h => h) (Or.inl ⟨by rfl, ?_⟩) hH ?_
        rotate_left
        · intro w hSw; (try dsimp only at hSw); go_simp; try with_reducible rfl
        try simp only [Act.put, List.setIfInBounds_toArray, List.set_cons_zero, List.set_cons_succ]
        refine wpAnyH_take (i := 7) (oi := ({ dst := some 13, op := Go.Op.load 3 (Go.Operand.tmp 12), type := 3, pos := "run.go:28", after := #[{ on := 6, ground := Go.Ground.data }, { on := 3, ground := Go.Ground.guard }], guard := some (3, true) } : Oper)) (v := ?_) rfl (by kernel_rfl) (by kernel_rfl) (by kernel_rfl) (fun _ _ _ h => h) (Or.inl ⟨by rfl, ?_⟩) hH ?_
        rotate_left
        · intro w hSw; (try dsimp only at hSw); go_simp; try with_reducible rfl
        try simp only [Act.put, List.setIfInBounds_toArray, List.set_cons_zero, List.set_cons_succ]
        refine wpAnyH_take (i := 8) (oi := ({ dst := some 14, op := Go.Op.binOp Go.BinOp.leq 3 (Go.Operand.tmp 11) (Go.Operand.tmp 13) 3, type := 4, pos := "run.go:28", after := #[{ on := 5, ground := Go.Ground.data }, { on := 7, ground := Go.Ground.data }, { on := 3, ground := Go.Ground.guard }], guard := some (3, true) } : Oper)) (v := ?_) rfl (by kernel_rfl) (by kernel_rfl) (by kernel_rfl) (fun _ _ _ h => h) (Or.inl ⟨by rfl, ?_⟩) hH ?_
        rotate_left
        · intro w hSw; (try dsimp only at hSw); go_simp; try with_reducible rfl
        try simp only [Act.put, List.setIfInBounds_toArray, List.set_cons_zero, List.set_cons_succ]
        refine wpAnyH_take (i := 9) (oi := ({ dst := some 15, op := Go.Op.pick (Go.Operand.tmp 9) (Go.Operand.tmp 14) (Go.Operand.const (Go.Value.bool false)), type := 4, pos := "run.go:28", after := #[{ on := 3, ground := Go.Ground.data }, { on := 8, ground := Go.Ground.data }], guard := none } : Oper)) (v := ?_) rfl (by kernel_rfl) (by kernel_rfl) (by kernel_rfl) (fun _ _ _ h => h) (Or.inl ⟨by rfl, ?_⟩) hH ?_
        rotate_left
        · intro w hSw; (try dsimp only at hSw); go_simp; try with_reducible rfl
        try simp only [Act.put, List.setIfInBounds_toArray, List.set_cons_zero, List.set_cons_succ]
        refine wpAnyH_take (i := 10) (oi := ({ dst := some 16, op := Go.Op.move (Go.Operand.tmp 15), type := 4, pos := "run.go:28", after := #[{ on := 9, ground := Go.Ground.data }, { on := 3, ground := Go.Ground.chain }], guard := none } : Oper)) (v := ?_) rfl (by kernel_rfl) (by kernel_rfl) (by kernel_rfl) (fun _ _ _ h => h) (Or.inl ⟨by rfl, ?_⟩) hH ?_
        rotate_left
        · intro w hSw; (try dsimp only at hSw); go_simp; try with_reducible rfl
        try simp only [Act.put, List.setIfInBounds_toArray, List.set_cons_zero, List.set_cons_succ]
        refine wpAnyH_take (i := 11) (oi := ({ dst := some 17, op := Go.Op.load 35 (Go.Operand.tmp 2), type := 35, pos := "run.go:28", after := #[{ on := 10, ground := Go.Ground.guard }], guard := some (10, true) } : Oper)) (v := ?_) rfl (by kernel_rfl) (by kernel_rfl) (by kernel_rfl) (fun _ _ _ h => h) (Or.inl ⟨by rfl, ?_⟩) hH ?_
        rotate_left
        · intro w hSw; (try dsimp only at hSw); go_simp; try with_reducible rfl
        try simp only [Act.put, List.setIfInBounds_toArray, List.set_cons_zero, List.set_cons_succ]
        refine wpAnyH_take (i := 12) (oi := ({ dst := some 18, op := Go.Op.fieldAddr 35 (Go.Operand.tmp 2) 0, type := 0, pos := "run.go:28", after := #[{ on := 10, ground := Go.Ground.guard }], guard := some (10, true) } : Oper)) (v := ?_) rfl (by kernel_rfl) (by kernel_rfl) (by kernel_rfl) (fun _ _ _ h => h) (Or.inl ⟨by rfl, ?_⟩) hH ?_
        rotate_left
        · intro w hSw; (try dsimp only at hSw); go_simp; try with_reducible rfl
        try simp only [Act.put, List.setIfInBounds_toArray, List.set_cons_zero, List.set_cons_succ]
        refine wpAnyH_take (i := 13) (oi := ({ dst := some 19, op := Go.Op.load 3 (Go.Operand.tmp 18), type := 3, pos := "run.go:28", after := #[{ on := 12, ground := Go.Ground.data }, { on := 10, ground := Go.Ground.guard }], guard := some (10, true) } : Oper)) (v := ?_) rfl (by kernel_rfl) (by kernel_rfl) (by kernel_rfl) (fun _ _ _ h => h) (Or.inl ⟨by rfl, ?_⟩) hH ?_
        rotate_left
        · intro w hSw; (try dsimp only at hSw); go_simp; try with_reducible rfl
        try simp only [Act.put, List.setIfInBounds_toArray, List.set_cons_zero, List.set_cons_succ]
        refine wpAnyH_take (i := 14) (oi := ({ dst := some 20, op := Go.Op.move (Go.Operand.tmp 1), type := 3, pos := "run.go:28", after := #[{ on := 10, ground := Go.Ground.guard }], guard := some (10, true) } : Oper)) (v := ?_) rfl (by kernel_rfl) (by kernel_rfl) (by kernel_rfl) (fun _ _ _ h => h) (Or.inl ⟨by rfl, ?_⟩) hH ?_
        rotate_left
        · intro w hSw; (try dsimp only at hSw); go_simp; try with_reducible rfl
        try simp only [Act.put, List.setIfInBounds_toArray, List.set_cons_zero, List.set_cons_succ]
        refine wpAnyH_ready (rs := [15]) (by kernel_rfl) (by simp) ?_
        refine AllReadyH.cons (o := ({ dst := some 21, op := Go.Op.call { callee := Go.Callee.value (Go.Operand.func 38), args := #[Go.Operand.tmp 17, Go.Operand.tmp 19, Go.Operand.tmp 20], argTypes := #[35, 3, 3] }, type := 4, pos := "run.go:28", after := #[{ on := 11, ground := Go.Ground.data }, { on := 13, ground := Go.Ground.data }, { on := 14, ground := Go.Ground.data }, { on := 10, ground := Go.Ground.chain }, { on := 10, ground := Go.Ground.guard }], guard := some (10, true) } : Oper)) rfl (fun K hK => ?_) AllReadyH.nil
        go_simp
        go_at_call 38
        refine (isBefore_any M M.no t _ (by omega) (by omega) (by omega) (by omega)).mono ?_
        rintro e9 w9 ⟨rfl, hb⟩
        rw [U.out]
        refine hK.out _ _ ⟨hH.1.tr hb, kcb hb hH.2.1, kcb hb hH.2.2.1, kcb hb hH.2.2.2.1, kcb hb hH.2.2.2.2.1, kcb hb hH.2.2.2.2.2.1, kcb hb hH.2.2.2.2.2.2.1, kcb hb hH.2.2.2.2.2.2.2.1, kcb hb hH.2.2.2.2.2.2.2.2⟩ (fun hH' => ?_)
        clear hH
        have hH := hH'
        clear hH' hK K
        try simp only [Act.put, List.setIfInBounds_toArray, List.set_cons_zero, List.set_cons_succ]
        refine wpAnyH_take (i := 16) (oi := ({ dst := some 22, op := Go.Op.move (Go.Operand.tmp 21), type := 4, pos := "run.go:28", after := #[{ on := 15, ground := Go.Ground.data }, { on := 15, ground := Go.Ground.chain }, { on := 10, ground := Go.Ground.guard }], guard := some (10, true) } : Oper)) (v := ?_) rfl (by kernel_rfl) (by kernel_rfl) (by kernel_rfl) (fun _ _ _ h => h) (Or.inl ⟨by rfl, ?_⟩) hH ?_
        rotate_left
        · intro w hSw; (try dsimp only at hSw); go_simp; try with_reducible rfl
        try simp only [Act.put, List.setIfInBounds_toArray, List.set_cons_zero, List.set_cons_succ]
        refine wpAnyH_take (i := 17) (oi := ({ dst := some 23, op := Go.Op.load 35 (Go.Operand.tmp 2), type := 35, pos := "run.go:28", after := #[{ on := 16, ground := Go.Ground.guard }], guard := some (16, false) } : Oper)) (v := undef) rfl (by kernel_rfl) (by kernel_rfl) (by kernel_rfl) (fun _ _ _ h => h) (Or.inr ⟨by rfl, rfl⟩) hH ?_
        try simp only [Act.put, List.setIfInBounds_toArray, List.set_cons_zero, List.set_cons_succ]
        refine wpAnyH_take (i := 18) (oi := ({ dst := some 24, op := Go.Op.load 35 (Go.Operand.tmp 2), type := 35, pos := "run.go:28", after := #[{ on := 16, ground := Go.Ground.guard }], guard := some (16, false) } : Oper)) (v := undef) rfl (by kernel_rfl) (by kernel_rfl) (by kernel_rfl) (fun _ _ _ h => h) (Or.inr ⟨by rfl, rfl⟩) hH ?_
        try simp only [Act.put, List.setIfInBounds_toArray, List.set_cons_zero, List.set_cons_succ]
        refine wpAnyH_take (i := 20) (oi := ({ dst := some 26, op := Go.Op.move (Go.Operand.tmp 1), type := 3, pos := "run.go:28", after := #[{ on := 16, ground := Go.Ground.guard }], guard := some (16, false) } : Oper)) (v := undef) rfl (by kernel_rfl) (by kernel_rfl) (by kernel_rfl) (fun _ _ _ h => h) (Or.inr ⟨by rfl, rfl⟩) hH ?_
        try simp only [Act.put, List.setIfInBounds_toArray, List.set_cons_zero, List.set_cons_succ]
        refine wpAnyH_ready (rs := [19]) (by kernel_rfl) (by simp) ?_
        refine AllReadyH.cons (o := ({ dst := some 25, op := Go.Op.call { callee := Go.Callee.value (Go.Operand.func 25), args := #[Go.Operand.tmp 24], argTypes := #[35] }, type := 3, pos := "run.go:28", after := #[{ on := 18, ground := Go.Ground.data }, { on := 16, ground := Go.Ground.chain }, { on := 16, ground := Go.Ground.guard }], guard := some (16, false) } : Oper)) rfl (fun K hK => ?_) AllReadyH.nil
        refine iteInduction (motive := fun p => p) (fun h => absurd (show false = true from h) Bool.false_ne_true) (fun _ => ?_)
        refine hK.out _ _ hH (fun hH' => ?_)
        clear hH' hK K
        try simp only [Act.put, List.setIfInBounds_toArray, List.set_cons_zero, List.set_cons_succ]
        refine wpAnyH_ready (rs := [21]) (by kernel_rfl) (by simp) ?_
        refine AllReadyH.cons (o := ({ dst := some 27, op := Go.Op.call { callee := Go.Callee.value (Go.Operand.func 38), args := #[Go.Operand.tmp 23, Go.Operand.tmp 25, Go.Operand.tmp 26], argTypes := #[35, 3, 3] }, type := 4, pos := "run.go:28", after := #[{ on := 17, ground := Go.Ground.data }, { on := 19, ground := Go.Ground.data }, { on := 20, ground := Go.Ground.data }, { on := 19, ground := Go.Ground.chain }, { on := 16, ground := Go.Ground.guard }], guard := some (16, false) } : Oper)) rfl (fun K hK => ?_) AllReadyH.nil
        refine iteInduction (motive := fun p => p) (fun h => absurd (show false = true from h) Bool.false_ne_true) (fun _ => ?_)
        refine hK.out _ _ hH (fun hH' => ?_)
        clear hH' hK K
        try simp only [Act.put, List.setIfInBounds_toArray, List.set_cons_zero, List.set_cons_succ]
        refine wpAnyH_take (i := 22) (oi := ({ dst := some 28, op := Go.Op.pick (Go.Operand.tmp 22) (Go.Operand.const (Go.Value.bool true)) (Go.Operand.tmp 27), type := 4, pos := "run.go:28", after := #[{ on := 16, ground := Go.Ground.data }, { on := 21, ground := Go.Ground.data }, { on := 10, ground := Go.Ground.guard }], guard := some (10, true) } : Oper)) (v := ?_) rfl (by kernel_rfl) (by kernel_rfl) (by kernel_rfl) (fun _ _ _ h => h) (Or.inl ⟨by rfl, ?_⟩) hH ?_
        rotate_left
        · intro w hSw; (try dsimp only at hSw); go_simp; try with_reducible rfl
        try simp only [Act.put, List.setIfInBounds_toArray, List.set_cons_zero, List.set_cons_succ]
        refine wpAnyH_take (i := 23) (oi := ({ dst := some 29, op := Go.Op.pick (Go.Operand.tmp 16) (Go.Operand.tmp 28) (Go.Operand.const (Go.Value.bool false)), type := 4, pos := "run.go:28", after := #[{ on := 10, ground := Go.Ground.data }, { on := 22, ground := Go.Ground.data }], guard := none } : Oper)) (v := ?_) rfl (by kernel_rfl) (by kernel_rfl) (by kernel_rfl) (fun _ _ _ h => h) (Or.inl ⟨by rfl, ?_⟩) hH ?_
        rotate_left
        · intro w hSw; (try dsimp only at hSw); go_simp; try with_reducible rfl
        try simp only [Act.put, List.setIfInBounds_toArray, List.set_cons_zero, List.set_cons_succ]
        refine wpAnyH_take (i := 24) (oi := ({ dst := some 5, op := Go.Op.assign (Go.Operand.tmp 29), type := 4, pos := "run.go:28", after := #[{ on := 23, ground := Go.Ground.data }, { on := 21, ground := Go.Ground.chain }, { on := 0, ground := Go.Ground.phase }, { on := 1, ground := Go.Ground.phase }, { on := 2, ground := Go.Ground.phase }, { on := 3, ground := Go.Ground.phase }, { on := 4, ground := Go.Ground.phase }, { on := 5, ground := Go.Ground.phase }, { on := 6, ground := Go.Ground.phase }, { on := 7, ground := Go.Ground.phase }, { on := 8, ground := Go.Ground.phase }, { on := 9, ground := Go.Ground.phase }, { on := 10, ground := Go.Ground.phase }, { on := 11, ground := Go.Ground.phase }, { on := 12, ground := Go.Ground.phase }, { on := 13, ground := Go.Ground.phase }, { on := 14, ground := Go.Ground.phase }, { on := 15, ground := Go.Ground.phase }, { on := 16, ground := Go.Ground.phase }, { on := 17, ground := Go.Ground.phase }, { on := 18, ground := Go.Ground.phase }, { on := 19, ground := Go.Ground.phase }, { on := 20, ground := Go.Ground.phase }, { on := 21, ground := Go.Ground.phase }, { on := 22, ground := Go.Ground.phase }, { on := 23, ground := Go.Ground.phase }], guard := none } : Oper)) (v := ?_) rfl (by kernel_rfl) (by kernel_rfl) (by kernel_rfl) (fun _ _ _ h => h) (Or.inl ⟨by rfl, ?_⟩) hH ?_
        rotate_left
        · intro w hSw; (try dsimp only at hSw); go_simp; try with_reducible rfl
        try simp only [Act.put, List.setIfInBounds_toArray, List.set_cons_zero, List.set_cons_succ]
        refine wpAnyH_done (by kernel_rfl) ?_ _
        refine NoPanic.normal ?_
        go_wp2_with fail
        go_ret
        exact ⟨ret_bool (by first | rfl | (rw [eq_comm, decide_eq_true_eq]; exact ⟨q, r, .inl u⟩)), BW.tr hH.1⟩
      · have U := Lib.hid (show decide (bef M M.no t) = false from decide_eq_false u)
        have V := Lib.hid (show decide (bef M (M.no + M.ag) t) = decide (s.pl = 0 ∧ s.wi ≤ M.wi ∧ (bef M M.no t ∨ bef M (M.no + M.ag) t)) by rw [Bool.eq_iff_iff, decide_eq_true_eq, decide_eq_true_eq]; exact ⟨fun h => ⟨q, r, .inr h⟩, fun h => h.2.2.resolve_left u⟩)
        refine wp_region_noPanic ?_
        refine wp_region_held_drew (S := fun w' => Bl W w' ∧ w'.cell? ⟨w.heap.size, 0, none⟩ = some (.int .i64 s.pl) ∧ w'.cell? ⟨w.heap.size, 1, none⟩ = some (.int .i64 s.wi) ∧ w'.cell? ⟨b, 0, none⟩ = some (.int .i64 M.no) ∧ w'.cell? ⟨b, 1, none⟩ = some (.int .i64 M.hf) ∧ w'.cell? ⟨b, 2, none⟩ = some (.int .i64 M.fu) ∧ w'.cell? ⟨b, 3, none⟩ = some (.int .i64 M.la) ∧ w'.cell? ⟨b, 4, none⟩ = some (.int .i64 M.ag) ∧ w'.cell? ⟨b, 5, none⟩ = some (.int .i64 M.wi)) (by kernel_rfl) (⟨Bl.d1 _, kcb (Bl.d1 _) p0, kcb (Bl.d1 _) p1, kcb (Bl.d1 _) g0, kcb (Bl.d1 _) g1, kcb (Bl.d1 _) g2, kcb (Bl.d1 _) g3, kcb (Bl.d1 _) g4, kcb (Bl.d1 _) g5⟩) (fun hH => ?_)
        refine wpAnyH_take (i := 0) (oi := ({ dst := some 6, op := Go.Op.fieldAddr 53 (Go.Operand.tmp 3) 0, type := 0, pos := "run.go:28", after := #[], guard := none } : Oper)) (v := ?_) rfl (by kernel_rfl) (by kernel_rfl) (by kernel_rfl) (fun _ _ _ h => h) (Or.inl ⟨by rfl, ?_⟩) hH ?_
        rotate_left
        · intro w hSw; (try dsimp only at hSw); go_simp; try with_reducible rfl
        try simp only [Act.put, List.setIfInBounds_toArray, List.set_cons_zero, List.set_cons_succ]
        refine wpAnyH_take (i := 1) (oi := ({ dst := some 7, op := Go.Op.load 3 (Go.Operand.tmp 6), type := 3, pos := "run.go:28", after := #[{ on := 0, ground := Go.Ground.data }], guard := none } : Oper)) (v := ?_) rfl (by kernel_rfl) (by kernel_rfl) (by kernel_rfl) (fun _ _ _ h => h) (Or.inl ⟨by rfl, ?_⟩) hH ?_
        rotate_left
        · intro w hSw; (try dsimp only at hSw); go_simp; try with_reducible rfl
        try simp only [Act.put, List.setIfInBounds_toArray, List.set_cons_zero, List.set_cons_succ]
        refine wpAnyH_take (i := 2) (oi := ({ dst := some 8, op := Go.Op.binOp Go.BinOp.eql 3 (Go.Operand.tmp 7) (Go.Operand.const (Go.Value.int Go.IntKind.i64 0)) 3, type := 4, pos := "run.go:28", after := #[{ on := 1, ground := Go.Ground.data }], guard := none } : Oper)) (v := ?_) rfl (by kernel_rfl) (by kernel_rfl) (by kernel_rfl) (fun _ _ _ h => h) (Or.inl ⟨by rfl, ?_⟩) hH ?_
        rotate_left
        · intro w hSw; (try dsimp only at hSw); go_simp; try with_reducible rfl
        try simp only [Act.put, List.setIfInBounds_toArray, List.set_cons_zero, List.set_cons_succ]
        refine wpAnyH_take (i := 3) (oi := ({ dst := some 9, op := Go.Op.move (Go.Operand.tmp 8), type := 4, pos := "run.go:28", after := #[{ on := 2, ground := Go.Ground.data }], guard := none } : Oper)) (v := ?_) rfl (by kernel_rfl) (by kernel_rfl) (by kernel_rfl) (fun _ _ _ h => h) (Or.inl ⟨by rfl, ?_⟩) hH ?_
        rotate_left
        · intro w hSw; (try dsimp only at hSw); go_simp; try with_reducible rfl
        try simp only [Act.put, List.setIfInBounds_toArray, List.set_cons_zero, List.set_cons_succ]
        refine wpAnyH_take (i := 4) (oi := ({ dst := some 10, op := Go.Op.fieldAddr 53 (Go.Operand.tmp 3) 1, type := 0, pos := "run.go:28", after := #[{ on := 3, ground := Go.Ground.guard }], guard := some (3, true) } : Oper)) (v := ?_) rfl (by kernel_rfl) (by kernel_rfl) (by kernel_rfl) (fun _ _ _ h => h) (Or.inl ⟨by rfl, ?_⟩) hH ?_
        rotate_left
        · intro w hSw; (try dsimp only at hSw); go_simp; try with_reducible rfl
        try simp only [Act.put, List.setIfInBounds_toArray, List.set_cons_zero, List.set_cons_succ]
        refine wpAnyH_take (i := 5) (oi := ({ dst := some 11, op := Go.Op.load 3 (Go.Operand.tmp 10), type := 3, pos := "run.go:28", after := #[{ on := 4, ground := Go.Ground.data }, { on := 3, ground := Go.Ground.guard }], guard := some (3, true) } : Oper)) (v := ?_) rfl (by kernel_rfl) (by kernel_rfl) (by kernel_rfl) (fun _ _ _ h => h) (Or.inl ⟨by rfl, ?_⟩) hH ?_
        rotate_left
        · intro w hSw; (try dsimp only at hSw); go_simp; try with_reducible rfl
        try simp only [Act.put, List.setIfInBounds_toArray, List.set_cons_zero, List.set_cons_succ]
        refine wpAnyH_take (i := 6) (oi := ({ dst := some 12, op := Go.Op.fieldAddr 35 (Go.Operand.tmp 2) 5, type := 0, pos := "run.go:28", after := #[{ on := 3, ground := Go.Ground.guard }], guard := some (3, true) } : Oper)) (v := ?_) rfl (by kernel_rfl) (by kernel_rfl) (by kernel_rfl) (fun _ _ _ h => h) (Or.inl ⟨by rfl, ?_⟩) hH ?_
        rotate_left
        · intro w hSw; (try dsimp only at hSw); go_simp; try with_reducible rfl
        try simp only [Act.put, List.setIfInBounds_toArray, List.set_cons_zero, List.set_cons_succ]
        refine wpAnyH_take (i := 7) (oi := ({ dst := some 13, op := Go.Op.load 3 (Go.Operand.tmp 12), type := 3, pos := "run.go:28", after := #[{ on := 6, ground := Go.Ground.data }, { on := 3, ground := Go.Ground.guard }], guard := some (3, true) } : Oper)) (v := ?_) rfl (by kernel_rfl) (by kernel_rfl) (by kernel_rfl) (fun _ _ _ h => h) (Or.inl ⟨by rfl, ?_⟩) hH ?_
        rotate_left
        · intro w hSw; (try dsimp only at hSw); go_simp; try with_reducible rfl
        try simp only [Act.put, List.setIfInBounds_toArray, List.set_cons_zero, List.set_cons_succ]
        refine wpAnyH_take (i := 8) (oi := ({ dst := some 14, op := Go.Op.binOp Go.BinOp.leq 3 (Go.Operand.tmp 11) (Go.Operand.tmp 13) 3, type := 4, pos := "run.go:28", after := #[{ on := 5, ground := Go.Ground.data }, { on := 7, ground := Go.Ground.data }, { on := 3, ground := Go.Ground.guard }], guard := some (3, true) } : Oper)) (v := ?_) rfl (by kernel_rfl) (by kernel_rfl) (by kernel_rfl) (fun _ _ _ h => h) (Or.inl ⟨by rfl, ?_⟩) hH ?_
        rotate_left
        · intro w hSw; (try dsimp only at hSw); go_simp; try with_reducible rfl
        try simp only [Act.put, List.setIfInBounds_toArray, List.set_cons_zero, List.set_cons_succ]
        refine wpAnyH_take (i := 9) (oi := ({ dst := some 15, op := Go.Op.pick (Go.Operand.tmp 9) (Go.Operand.tmp 14) (Go.Operand.const (Go.Value.bool false)), type := 4, pos := "run.go:28", after := #[{ on := 3, ground := Go.Ground.data }, { on := 8, ground := Go.Ground.data }], guard := none } : Oper)) (v := ?_) rfl (by kernel_rfl) (by kernel_rfl) (by kernel_rfl) (fun _ _ _ h => h) (Or.inl ⟨by rfl, ?_⟩) hH ?_
        rotate_left
        · intro w hSw; (try dsimp only at hSw); go_simp; try with_reducible rfl
        try simp only [Act.put, List.setIfInBounds_toArray, List.set_cons_zero, List.set_cons_succ]
        refine wpAnyH_take (i := 10) (oi := ({ dst := some 16, op := Go.Op.move (Go.Operand.tmp 15), type := 4, pos := "run.go:28", after := #[{ on := 9, ground := Go.Ground.data }, { on := 3, ground := Go.Ground.chain }], guard := none } : Oper)) (v := ?_) rfl (by kernel_rfl) (by kernel_rfl) (by kernel_rfl) (fun _ _ _ h => h) (Or.inl ⟨by rfl, ?_⟩) hH ?_
        rotate_left
        · intro w hSw; (try dsimp only at hSw); go_simp; try with_reducible rfl
        try simp only [Act.put, List.setIfInBounds_toArray, List.set_cons_zero, List.set_cons_succ]
        refine wpAnyH_take (i := 11) (oi := ({ dst := some 17, op := Go.Op.load 35 (Go.Operand.tmp 2), type := 35, pos := "run.go:28", after := #[{ on := 10, ground := Go.Ground.guard }], guard := some (10, true) } : Oper)) (v := ?_) rfl (by kernel_rfl) (by kernel_rfl) (by kernel_rfl) (fun _ _ _ h => h) (Or.inl ⟨by rfl, ?_⟩) hH ?_
        rotate_left
        · intro w hSw; (try dsimp only at hSw); go_simp; try with_reducible rfl
        try simp only [Act.put, List.setIfInBounds_toArray, List.set_cons_zero, List.set_cons_succ]
        refine wpAnyH_take (i := 12) (oi := ({ dst := some 18, op := Go.Op.fieldAddr 35 (Go.Operand.tmp 2) 0, type := 0, pos := "run.go:28", after := #[{ on := 10, ground := Go.Ground.guard }], guard := some (10, true) } : Oper)) (v := ?_) rfl (by kernel_rfl) (by kernel_rfl) (by kernel_rfl) (fun _ _ _ h => h) (Or.inl ⟨by rfl, ?_⟩) hH ?_
        rotate_left
        · intro w hSw; (try dsimp only at hSw); go_simp; try with_reducible rfl
        try simp only [Act.put, List.setIfInBounds_toArray, List.set_cons_zero, List.set_cons_succ]
        refine wpAnyH_take (i := 13) (oi := ({ dst := some 19, op := Go.Op.load 3 (Go.Operand.tmp 18), type := 3, pos := "run.go:28", after := #[{ on := 12, ground := Go.Ground.data }, { on := 10, ground := Go.Ground.guard }], guard := some (10, true) } : Oper)) (v := ?_) rfl (by kernel_rfl) (by kernel_rfl) (by kernel_rfl) (fun _ _ _ h => h) (Or.inl ⟨by rfl, ?_⟩) hH ?_
        rotate_left
        · intro w hSw; (try dsimp only at hSw); go_simp; try with_reducible rfl
        try simp only [Act.put, List.setIfInBounds_toArray, List.set_cons_zero, List.set_cons_succ]
        refine wpAnyH_take (i := 14) (oi := ({ dst := some 20, op := Go.Op.move (Go.Operand.tmp 1), type := 3, pos := "run.go:28", after := #[{ on := 10, ground := Go.Ground.guard }], guard := some (10, true) } : Oper)) (v := ?_) rfl (by kernel_rfl) (by kernel_rfl) (by kernel_rfl) (fun _ _ _ h => h) (Or.inl ⟨by rfl, ?_⟩) hH ?_
        rotate_left
        · intro w hSw; (try dsimp only at hSw); go_simp; try with_reducible rfl
        try simp only [Act.put, List.setIfInBounds_toArray, List.set_cons_zero, List.set_cons_succ]
        refine wpAnyH_ready (rs := [15]) (by kernel_rfl) (by simp) ?_
        refine AllReadyH.cons (o := ({ dst := some 21, op := Go.Op.call { callee := Go.Callee.value (Go.Operand.func 38), args := #[Go.Operand.tmp 17, Go.Operand.tmp 19, Go.Operand.tmp 20], argTypes := #[35, 3, 3] }, type := 4, pos := "run.go:28", after := #[{ on := 11, ground := Go.Ground.data }, { on := 13, ground := Go.Ground.data }, { on := 14, ground := Go.Ground.data }, { on := 10, ground := Go.Ground.chain }, { on := 10, ground := Go.Ground.guard }], guard := some (10, true) } : Oper)) rfl (fun K hK => ?_) AllReadyH.nil
        go_simp
        go_at_call 38
        refine (isBefore_any M M.no t _ (by omega) (by omega) (by omega) (by omega)).mono ?_
        rintro e9 w9 ⟨rfl, hb⟩
        rw [U.out]
        refine hK.out _ _ ⟨hH.1.tr hb, kcb hb hH.2.1, kcb hb hH.2.2.1, kcb hb hH.2.2.2.1, kcb hb hH.2.2.2.2.1, kcb hb hH.2.2.2.2.2.1, kcb hb hH.2.2.2.2.2.2.1, kcb hb hH.2.2.2.2.2.2.2.1, kcb hb hH.2.2.2.2.2.2.2.2⟩ (fun hH' => ?_)
        clear hH
        have hH := hH'
        clear hH' hK K
        try simp only [Act.put, List.setIfInBounds_toArray, List.set_cons_zero, List.set_cons_succ]
        refine wpAnyH_take (i := 16) (oi := ({ dst := some 22, op := Go.Op.move (Go.Operand.tmp 21), type := 4, pos := "run.go:28", after := #[{ on := 15, ground := Go.Ground.data }, { on := 15, ground := Go.Ground.chain }, { on := 10, ground := Go.Ground.guard }], guard := some (10, true) } : Oper)) (v := ?_) rfl (by kernel_rfl) (by kernel_rfl) (by kernel_rfl) (fun _ _ _ h => h) (Or.inl ⟨by rfl, ?_⟩) hH ?_
        rotate_left
        · intro w hSw; (try dsimp only at hSw); go_simp; try with_reducible rfl
        try simp only [Act.put, List.setIfInBounds_toArray, List.set_cons_zero, List.set_cons_succ]
        refine wpAnyH_take (i := 17) (oi := ({ dst := some 23, op := Go.Op.load 35 (Go.Operand.tmp 2), type := 35, pos := "run.go:28", after := #[{ on := 16, ground := Go.Ground.guard }], guard := some (16, false) } : Oper)) (v := ?_) rfl (by kernel_rfl) (by kernel_rfl) (by kernel_rfl) (fun _ _ _ h => h) (Or.inl ⟨by rfl, ?_⟩) hH ?_
        rotate_left
        · intro w hSw; (try dsimp only at hSw); go_simp; try with_reducible rfl
        try simp only [Act.put, List.setIfInBounds_toArray, List.set_cons_zero, List.set_cons_succ]
        refine wpAnyH_take (i := 18) (oi := ({ dst := some 24, op := Go.Op.load 35 (Go.Operand.tmp 2), type := 35, pos := "run.go:28", after := #[{ on := 16, ground := Go.Ground.guard }], guard := some (16, false) } : Oper)) (v := ?_) rfl (by kernel_rfl) (by kernel_rfl) (by kernel_rfl) (fun _ _ _ h => h) (Or.inl ⟨by rfl, ?_⟩) hH ?_
        rotate_left
        · intro w hSw; (try dsimp only at hSw); go_simp; try with_reducible rfl
        try simp only [Act.put, List.setIfInBounds_toArray, List.set_cons_zero, List.set_cons_succ]
        refine wpAnyH_take (i := 20) (oi := ({ dst := some 26, op := Go.Op.move (Go.Operand.tmp 1), type := 3, pos := "run.go:28", after := #[{ on := 16, ground := Go.Ground.guard }], guard := some (16, false) } : Oper)) (v := ?_) rfl (by kernel_rfl) (by kernel_rfl) (by kernel_rfl) (fun _ _ _ h => h) (Or.inl ⟨by rfl, ?_⟩) hH ?_
        rotate_left
        · intro w hSw; (try dsimp only at hSw); go_simp; try with_reducible rfl
        try simp only [Act.put, List.setIfInBounds_toArray, List.set_cons_zero, List.set_cons_succ]
        refine wpAnyH_ready (rs := [19]) (by kernel_rfl) (by simp) ?_
        refine AllReadyH.cons (o := ({ dst := some 25, op := Go.Op.call { callee := Go.Callee.value (Go.Operand.func 25), args := #[Go.Operand.tmp 24], argTypes := #[35] }, type := 3, pos := "run.go:28", after := #[{ on := 18, ground := Go.Ground.data }, { on := 16, ground := Go.Ground.chain }, { on := 16, ground := Go.Ground.guard }], guard := some (16, false) } : Oper)) rfl (fun K hK => ?_) AllReadyH.nil
        go_simp
        go_at_call 25
        refine (again_any M _ (by omega) (by omega)).mono ?_
        rintro e9 w9 ⟨rfl, hb⟩
        refine hK.out _ _ ⟨hH.1.tr hb, kcb hb hH.2.1, kcb hb hH.2.2.1, kcb hb hH.2.2.2.1, kcb hb hH.2.2.2.2.1, kcb hb hH.2.2.2.2.2.1, kcb hb hH.2.2.2.2.2.2.1, kcb hb hH.2.2.2.2.2.2.2.1, kcb hb hH.2.2.2.2.2.2.2.2⟩ (fun hH' => ?_)
        clear hH
        have hH := hH'
        clear hH' hK K
        try simp only [Act.put, List.setIfInBounds_toArray, List.set_cons_zero, List.set_cons_succ]
        refine wpAnyH_ready (rs := [21]) (by kernel_rfl) (by simp) ?_
        refine AllReadyH.cons (o := ({ dst := some 27, op := Go.Op.call { callee := Go.Callee.value (Go.Operand.func 38), args := #[Go.Operand.tmp 23, Go.Operand.tmp 25, Go.Operand.tmp 26], argTypes := #[35, 3, 3] }, type := 4, pos := "run.go:28", after := #[{ on := 17, ground := Go.Ground.data }, { on := 19, ground := Go.Ground.data }, { on := 20, ground := Go.Ground.data }, { on := 19, ground := Go.Ground.chain }, { on := 16, ground := Go.Ground.guard }], guard := some (16, false) } : Oper)) rfl (fun K hK => ?_) AllReadyH.nil
        go_simp
        go_at_call 38
        refine (isBefore_any M (M.no + M.ag) t _ (by omega) (by omega) (by omega) (by omega)).mono ?_
        rintro e9 w9 ⟨rfl, hb⟩
        refine hK.out _ _ ⟨hH.1.tr hb, kcb hb hH.2.1, kcb hb hH.2.2.1, kcb hb hH.2.2.2.1, kcb hb hH.2.2.2.2.1, kcb hb hH.2.2.2.2.2.1, kcb hb hH.2.2.2.2.2.2.1, kcb hb hH.2.2.2.2.2.2.2.1, kcb hb hH.2.2.2.2.2.2.2.2⟩ (fun hH' => ?_)
        clear hH
        have hH := hH'
        clear hH' hK K
        try simp only [Act.put, List.setIfInBounds_toArray, List.set_cons_zero, List.set_cons_succ]
        refine wpAnyH_take (i := 22) (oi := ({ dst := some 28, op := Go.Op.pick (Go.Operand.tmp 22) (Go.Operand.const (Go.Value.bool true)) (Go.Operand.tmp 27), type := 4, pos := "run.go:28", after := #[{ on := 16, ground := Go.Ground.data }, { on := 21, ground := Go.Ground.data }, { on := 10, ground := Go.Ground.guard }], guard := some (10, true) } : Oper)) (v := ?_) rfl (by kernel_rfl) (by kernel_rfl) (by kernel_rfl) (fun _ _ _ h => h) (Or.inl ⟨by rfl, ?_⟩) hH ?_
        rotate_left
        · intro w hSw; (try dsimp only at hSw); go_simp; try with_reducible rfl
        try simp only [Act.put, List.setIfInBounds_toArray, List.set_cons_zero, List.set_cons_succ]
        refine wpAnyH_take (i := 23) (oi := ({ dst := some 29, op := Go.Op.pick (Go.Operand.tmp 16) (Go.Operand.tmp 28) (Go.Operand.const (Go.Value.bool false)), type := 4, pos := "run.go:28", after := #[{ on := 10, ground := Go.Ground.data }, { on := 22, ground := Go.Ground.data }], guard := none } : Oper)) (v := ?_) rfl (by kernel_rfl) (by kernel_rfl) (by kernel_rfl) (fun _ _ _ h => h) (Or.inl ⟨by rfl, ?_⟩) hH ?_
        rotate_left
        · intro w hSw; (try dsimp only at hSw); go_simp; try with_reducible rfl
        try simp only [Act.put, List.setIfInBounds_toArray, List.set_cons_zero, List.set_cons_succ]
        refine wpAnyH_take (i := 24) (oi := ({ dst := some 5, op := Go.Op.assign (Go.Operand.tmp 29), type := 4, pos := "run.go:28", after := #[{ on := 23, ground := Go.Ground.data }, { on := 21, ground := Go.Ground.chain }, { on := 0, ground := Go.Ground.phase }, { on := 1, ground := Go.Ground.phase }, { on := 2, ground := Go.Ground.phase }, { on := 3, ground := Go.Ground.phase }, { on := 4, ground := Go.Ground.phase }, { on := 5, ground := Go.Ground.phase }, { on := 6, ground := Go.Ground.phase }, { on := 7, ground := Go.Ground.phase }, { on := 8, ground := Go.Ground.phase }, { on := 9, ground := Go.Ground.phase }, { on := 10, ground := Go.Ground.phase }, { on := 11, ground := Go.Ground.phase }, { on := 12, ground := Go.Ground.phase }, { on := 13, ground := Go.Ground.phase }, { on := 14, ground := Go.Ground.phase }, { on := 15, ground := Go.Ground.phase }, { on := 16, ground := Go.Ground.phase }, { on := 17, ground := Go.Ground.phase }, { on := 18, ground := Go.Ground.phase }, { on := 19, ground := Go.Ground.phase }, { on := 20, ground := Go.Ground.phase }, { on := 21, ground := Go.Ground.phase }, { on := 22, ground := Go.Ground.phase }, { on := 23, ground := Go.Ground.phase }], guard := none } : Oper)) (v := ?_) rfl (by kernel_rfl) (by kernel_rfl) (by kernel_rfl) (fun _ _ _ h => h) (Or.inl ⟨by rfl, ?_⟩) hH ?_
        rotate_left
        · intro w hSw; (try dsimp only at hSw); go_simp; try with_reducible rfl
        try simp only [Act.put, List.setIfInBounds_toArray, List.set_cons_zero, List.set_cons_succ]
        refine wpAnyH_done (by kernel_rfl) ?_ _
        refine NoPanic.normal ?_
        go_wp2_with fail
        go_ret
        exact ⟨ret_bool (by first | rfl | (exact V.out)), BW.tr hH.1⟩
    · have r1 : decide (s.wi ≤ M.wi) = false := decide_eq_false r
      refine wp_region_noPanic ?_
      refine wp_region_held_drew (S := fun w' => Bl W w' ∧ w'.cell? ⟨w.heap.size, 0, none⟩ = some (.int .i64 s.pl) ∧ w'.cell? ⟨w.heap.size, 1, none⟩ = some (.int .i64 s.wi) ∧ w'.cell? ⟨b, 0, none⟩ = some (.int .i64 M.no) ∧ w'.cell? ⟨b, 1, none⟩ = some (.int .i64 M.hf) ∧ w'.cell? ⟨b, 2, none⟩ = some (.int .i64 M.fu) ∧ w'.cell? ⟨b, 3, none⟩ = some (.int .i64 M.la) ∧ w'.cell? ⟨b, 4, none⟩ = some (.int .i64 M.ag) ∧ w'.cell? ⟨b, 5, none⟩ = some (.int .i64 M.wi)) (by kernel_rfl) (⟨Bl.d1 _, kcb (Bl.d1 _) p0, kcb (Bl.d1 _) p1, kcb (Bl.d1 _) g0, kcb (Bl.d1 _) g1, kcb (Bl.d1 _) g2, kcb (Bl.d1 _) g3, kcb (Bl.d1 _) g4, kcb (Bl.d1 _) g5⟩) (fun hH => ?_)
      refine wpAnyH_take (i := 0) (oi := ({ dst := some 6, op := Go.Op.fieldAddr 53 (Go.Operand.tmp 3) 0, type := 0, pos := "run.go:28", after := #[], guard := none } : Oper)) (v := ?_) rfl (by kernel_rfl) (by kernel_rfl) (by kernel_rfl) (fun _ _ _ h => h) (Or.inl ⟨by rfl, ?_⟩) hH ?_
      rotate_left
      · intro w hSw; (try dsimp only at hSw); go_simp; try with_reducible rfl
      try simp only [Act.put, List.setIfInBounds_toArray, List.set_cons_zero, List.set_cons_succ]
      refine wpAnyH_take (i := 1) (oi := ({ dst := some 7, op := Go.Op.load 3 (Go.Operand.tmp 6), type := 3, pos := "run.go:28", after := #[{ on := 0, ground := Go.Ground.data }], guard := none } : Oper)) (v := ?_) rfl (by kernel_rfl) (by kernel_rfl) (by kernel_rfl) (fun _ _ _ h => h) (Or.inl ⟨by rfl, ?_⟩) hH ?_
      rotate_left
      · intro w hSw; (try dsimp only at hSw); go_simp; try with_reducible rfl
      try simp only [Act.put, List.setIfInBounds_toArray, List.set_cons_zero, List.set_cons_succ]
      refine wpAnyH_take (i := 2) (oi := ({ dst := some 8, op := Go.Op.binOp Go.BinOp.eql 3 (Go.Operand.tmp 7) (Go.Operand.const (Go.Value.int Go.IntKind.i64 0)) 3, type := 4, pos := "run.go:28", after := #[{ on := 1, ground := Go.Ground.data }], guard := none } : Oper)) (v := ?_) rfl (by kernel_rfl) (by kernel_rfl) (by kernel_rfl) (fun _ _ _ h => h) (Or.inl ⟨by rfl, ?_⟩) hH ?_
      rotate_left
      · intro w hSw; (try dsimp only at hSw); go_simp; try with_reducible rfl
      try simp only [Act.put, List.setIfInBounds_toArray, List.set_cons_zero, List.set_cons_succ]
      refine wpAnyH_take (i := 3) (oi := ({ dst := some 9, op := Go.Op.move (Go.Operand.tmp 8), type := 4, pos := "run.go:28", after := #[{ on := 2, ground := Go.Ground.data }], guard := none } : Oper)) (v := ?_) rfl (by kernel_rfl) (by kernel_rfl) (by kernel_rfl) (fun _ _ _ h => h) (Or.inl ⟨by rfl, ?_⟩) hH ?_
      rotate_left
      · intro w hSw; (try dsimp only at hSw); go_simp; try with_reducible rfl
      try simp only [Act.put, List.setIfInBounds_toArray, List.set_cons_zero, List.set_cons_succ]
      refine wpAnyH_take (i := 4) (oi := ({ dst := some 10, op := Go.Op.fieldAddr 53 (Go.Operand.tmp 3) 1, type := 0, pos := "run.go:28", after := #[{ on := 3, ground := Go.Ground.guard }], guard := some (3, true) } : Oper)) (v := ?_) rfl (by kernel_rfl) (by kernel_rfl) (by kernel_rfl) (fun _ _ _ h => h) (Or.inl ⟨by rfl, ?_⟩) hH ?_
      rotate_left
      · intro w hSw; (try dsimp only at hSw); go_simp; try with_reducible rfl
      try simp only [Act.put, List.setIfInBounds_toArray, List.set_cons_zero, List.set_cons_succ]
      refine wpAnyH_take (i := 5) (oi := ({ dst := some 11, op := Go.Op.load 3 (Go.Operand.tmp 10), type := 3, pos := "run.go:28", after := #[{ on := 4, ground := Go.Ground.data }, { on := 3, ground := Go.Ground.guard }], guard := some (3, true) } : Oper)) (v := ?_) rfl (by kernel_rfl) (by kernel_rfl) (by kernel_rfl) (fun _ _ _ h => h) (Or.inl ⟨by rfl, ?_⟩) hH ?_
      rotate_left
      · intro w hSw; (try dsimp only at hSw); go_simp; try with_reducible rfl
      try simp only [Act.put, List.setIfInBounds_toArray, List.set_cons_zero, List.set_cons_succ]
      refine wpAnyH_take (i := 6) (oi := ({ dst := some 12, op := Go.Op.fieldAddr 35 (Go.Operand.tmp 2) 5, type := 0, pos := "run.go:28", after := #[{ on := 3, ground := Go.Ground.guard }], guard := some (3, true) } : Oper)) (v := ?_) rfl (by kernel_rfl) (by kernel_rfl) (by kernel_rfl) (fun _ _ _ h => h) (Or.inl ⟨by rfl, ?_⟩) hH ?_
      rotate_left
      · intro w hSw; (try dsimp only at hSw); go_simp; try with_reducible rfl
      try simp only [Act.put, List.setIfInBounds_toArray, List.set_cons_zero, List.set_cons_succ]
      refine wpAnyH_take (i := 7) (oi := ({ dst := some 13, op := Go.Op.load 3 (Go.Operand.tmp 12), type := 3, pos := "run.go:28", after := #[{ on := 6, ground := Go.Ground.data }, { on := 3, ground := Go.Ground.guard }], guard := some (3, true) } : Oper)) (v := ?_) rfl (by kernel_rfl) (by kernel_rfl) (by kernel_rfl) (fun _ _ _ h => h) (Or.inl ⟨by rfl, ?_⟩) hH ?_
      rotate_left
      · intro w hSw; (try dsimp only at hSw); go_simp; try with_reducible rfl
      try simp only [Act.put, List.setIfInBounds_toArray, List.set_cons_zero, List.set_cons_succ]
      refine wpAnyH_take (i := 8) (oi := ({ dst := some 14, op := Go.Op.binOp Go.BinOp.leq 3 (Go.Operand.tmp 11) (Go.Operand.tmp 13) 3, type := 4, pos := "run.go:28", after := #[{ on := 5, ground := Go.Ground.data }, { on := 7, ground := Go.Ground.data }, { on := 3, ground := Go.Ground.guard }], guard := some (3, true) } : Oper)) (v := ?_) rfl (by kernel_rfl) (by kernel_rfl) (by kernel_rfl) (fun _ _ _ h => h) (Or.inl ⟨by rfl, ?_⟩) hH ?_
      rotate_left
      · intro w hSw; (try dsimp only at hSw); go_simp; try with_reducible rfl
      try simp only [Act.put, List.setIfInBounds_toArray, List.set_cons_zero, List.set_cons_succ]
      refine wpAnyH_take (i := 9) (oi := ({ dst := some 15, op := Go.Op.pick (Go.Operand.tmp 9) (Go.Operand.tmp 14) (Go.Operand.const (Go.Value.bool false)), type := 4, pos := "run.go:28", after := #[{ on := 3, ground := Go.Ground.data }, { on := 8, ground := Go.Ground.data }], guard := none } : Oper)) (v := ?_) rfl (by kernel_rfl) (by kernel_rfl) (by kernel_rfl) (fun _ _ _ h => h) (Or.inl ⟨by rfl, ?_⟩) hH ?_
      rotate_left
      · intro w hSw; (try dsimp only at hSw); go_simp; try with_reducible rfl
      try simp only [Act.put, List.setIfInBounds_toArray, List.set_cons_zero, List.set_cons_succ]
      refine wpAnyH_take (i := 10) (oi := ({ dst := some 16, op := Go.Op.move (Go.Operand.tmp 15), type := 4, pos := "run.go:28", after := #[{ on := 9, ground := Go.Ground.data }, { on := 3, ground := Go.Ground.chain }], guard := none } : Oper)) (v := ?_) rfl (by kernel_rfl) (by kernel_rfl) (by kernel_rfl) (fun _ _ _ h => h) (Or.inl ⟨by rfl, ?_⟩) hH ?_
      rotate_left
      · intro w hSw; (try dsimp only at hSw); go_simp; try with_reducible rfl
      try simp only [Act.put, List.setIfInBounds_toArray, List.set_cons_zero, List.set_cons_succ]
      refine wpAnyH_take (i := 11) (oi := ({ dst := some 17, op := Go.Op.load 35 (Go.Operand.tmp 2), type := 35, pos := "run.go:28", after := #[{ on := 10, ground := Go.Ground.guard }], guard := some (10, true) } : Oper)) (v := undef) rfl (by kernel_rfl) (by kernel_rfl) (by kernel_rfl) (fun _ _ _ h => h) (Or.inr ⟨by rfl, rfl⟩) hH ?_
      try simp only [Act.put, List.setIfInBounds_toArray, List.set_cons_zero, List.set_cons_succ]
      refine wpAnyH_take (i := 12) (oi := ({ dst := some 18, op := Go.Op.fieldAddr 35 (Go.Operand.tmp 2) 0, type := 0, pos := "run.go:28", after := #[{ on := 10, ground := Go.Ground.guard }], guard := some (10, true) } : Oper)) (v := undef) rfl (by kernel_rfl) (by kernel_rfl) (by kernel_rfl) (fun _ _ _ h => h) (Or.inr ⟨by rfl, rfl⟩) hH ?_
      try simp only [Act.put, List.setIfInBounds_toArray, List.set_cons_zero, List.set_cons_succ]
      refine wpAnyH_take (i := 13) (oi := ({ dst := some 19, op := Go.Op.load 3 (Go.Operand.tmp 18), type := 3, pos := "run.go:28", after := #[{ on := 12, ground := Go.Ground.data }, { on := 10, ground := Go.Ground.guard }], guard := some (10, true) } : Oper)) (v := undef) rfl (by kernel_rfl) (by kernel_rfl) (by kernel_rfl) (fun _ _ _ h => h) (Or.inr ⟨by rfl, rfl⟩) hH ?_
      try simp only [Act.put, List.setIfInBounds_toArray, List.set_cons_zero, List.set_cons_succ]
      refine wpAnyH_take (i := 14) (oi := ({ dst := some 20, op := Go.Op.move (Go.Operand.tmp 1), type := 3, pos := "run.go:28", after := #[{ on := 10, ground := Go.Ground.guard }], guard := some (10, true) } : Oper)) (v := undef) rfl (by kernel_rfl) (by kernel_rfl) (by kernel_rfl) (fun _ _ _ h => h) (Or.inr ⟨by rfl, rfl⟩) hH ?_
      try simp only [Act.put, List.setIfInBounds_toArray, List.set_cons_zero, List.set_cons_succ]
      refine wpAnyH_ready (rs := [15]) (by kernel_rfl) (by simp) ?_
      refine AllReadyH.cons (o := ({ dst := some 21, op := Go.Op.call { callee := Go.Callee.value (Go.Operand.func 38), args := #[Go.Operand.tmp 17, Go.Operand.tmp 19, Go.Operand.tmp 20], argTypes := #[35, 3, 3] }, type := 4, pos := "run.go:28", after := #[{ on := 11, ground := Go.Ground.data }, { on := 13, ground := Go.Ground.data }, { on := 14, ground := Go.Ground.data }, { on := 10, ground := Go.Ground.chain }, { on := 10, ground := Go.Ground.guard }], guard := some (10, true) } : Oper)) rfl (fun K hK => ?_) AllReadyH.nil
      refine iteInduction (motive := fun p => p) (fun h => absurd (show false = true from h) Bool.false_ne_true) (fun _ => ?_)
      refine hK.out _ _ hH (fun hH' => ?_)
      clear hH' hK K
      try simp only [Act.put, List.setIfInBounds_toArray, List.set_cons_zero, List.set_cons_succ]
      refine wpAnyH_take (i := 16) (oi := ({ dst := some 22, op := Go.Op.move (Go.Operand.tmp 21), type := 4, pos := "run.go:28", after := #[{ on := 15, ground := Go.Ground.data }, { on := 15, ground := Go.Ground.chain }, { on := 10, ground := Go.Ground.guard }], guard := some (10, true) } : Oper)) (v := undef) rfl (by kernel_rfl) (by kernel_rfl) (by kernel_rfl) (fun _ _ _ h => h) (Or.inr ⟨by rfl, rfl⟩) hH ?_
      try simp only [Act.put, List.setIfInBounds_toArray, List.set_cons_zero, List.set_cons_succ]
      refine wpAnyH_take (i := 17) (oi := ({ dst := some 23, op := Go.Op.load 35 (Go.Operand.tmp 2), type := 35, pos := "run.go:28", after := #[{ on := 16, ground := Go.Ground.guard }], guard := some (16, false) } : Oper)) (v := undef) rfl (by kernel_rfl) (by kernel_rfl) (by kernel_rfl) (fun _ _ _ h => h) (Or.inr ⟨by rfl, rfl⟩) hH ?_
      try simp only [Act.put, List.setIfInBounds_toArray, List.set_cons_zero, List.set_cons_succ]
      refine wpAnyH_take (i := 18) (oi := ({ dst := some 24, op := Go.Op.load 35 (Go.Operand.tmp 2), type := 35, pos := "run.go:28", after := #[{ on := 16, ground := Go.Ground.guard }], guard := some (16, false) } : Oper)) (v := undef) rfl (by kernel_rfl) (by kernel_rfl) (by kernel_rfl) (fun _ _ _ h => h) (Or.inr ⟨by rfl, rfl⟩) hH ?_
      try simp only [Act.put, List.setIfInBounds_toArray, List.set_cons_zero, List.set_cons_succ]
      refine wpAnyH_take (i := 20) (oi := ({ dst := some 26, op := Go.Op.move (Go.Operand.tmp 1), type := 3, pos := "run.go:28", after := #[{ on := 16, ground := Go.Ground.guard }], guard := some (16, false) } : Oper)) (v := undef) rfl (by kernel_rfl) (by kernel_rfl) (by kernel_rfl) (fun _ _ _ h => h) (Or.inr ⟨by rfl, rfl⟩) hH ?_
      try simp only [Act.put, List.setIfInBounds_toArray, List.set_cons_zero, List.set_cons_succ]
      refine wpAnyH_ready (rs := [19]) (by kernel_rfl) (by simp) ?_
      refine AllReadyH.cons (o := ({ dst := some 25, op := Go.Op.call { callee := Go.Callee.value (Go.Operand.func 25), args := #[Go.Operand.tmp 24], argTypes := #[35] }, type := 3, pos := "run.go:28", after := #[{ on := 18, ground := Go.Ground.data }, { on := 16, ground := Go.Ground.chain }, { on := 16, ground := Go.Ground.guard }], guard := some (16, false) } : Oper)) rfl (fun K hK => ?_) AllReadyH.nil
      refine iteInduction (motive := fun p => p) (fun h => absurd (show false = true from h) Bool.false_ne_true) (fun _ => ?_)
      refine hK.out _ _ hH (fun hH' => ?_)
      clear hH' hK K
      try simp only [Act.put, List.setIfInBounds_toArray, List.set_cons_zero, List.set_cons_succ]
      refine wpAnyH_ready (rs := [21]) (by kernel_rfl) (by simp) ?_
      refine AllReadyH.cons (o := ({ dst := some 27, op := Go.Op.call { callee := Go.Callee.value (Go.Operand.func 38), args := #[Go.Operand.tmp 23, Go.Operand.tmp 25, Go.Operand.tmp 26], argTypes := #[35, 3, 3] }, type := 4, pos := "run.go:28", after := #[{ on := 17, ground := Go.Ground.data }, { on := 19, ground := Go.Ground.data }, { on := 20, ground := Go.Ground.data }, { on := 19, ground := Go.Ground.chain }, { on := 16, ground := Go.Ground.guard }], guard := some (16, false) } : Oper)) rfl (fun K hK => ?_) AllReadyH.nil
      refine iteInduction (motive := fun p => p) (fun h => absurd (show false = true from h) Bool.false_ne_true) (fun _ => ?_)
      refine hK.out _ _ hH (fun hH' => ?_)
      clear hH' hK K
      try simp only [Act.put, List.setIfInBounds_toArray, List.set_cons_zero, List.set_cons_succ]
      refine wpAnyH_take (i := 22) (oi := ({ dst := some 28, op := Go.Op.pick (Go.Operand.tmp 22) (Go.Operand.const (Go.Value.bool true)) (Go.Operand.tmp 27), type := 4, pos := "run.go:28", after := #[{ on := 16, ground := Go.Ground.data }, { on := 21, ground := Go.Ground.data }, { on := 10, ground := Go.Ground.guard }], guard := some (10, true) } : Oper)) (v := undef) rfl (by kernel_rfl) (by kernel_rfl) (by kernel_rfl) (fun _ _ _ h => h) (Or.inr ⟨by rfl, rfl⟩) hH ?_
      try simp only [Act.put, List.setIfInBounds_toArray, List.set_cons_zero, List.set_cons_succ]
      refine wpAnyH_take (i := 23) (oi := ({ dst := some 29, op := Go.Op.pick (Go.Operand.tmp 16) (Go.Operand.tmp 28) (Go.Operand.const (Go.Value.bool false)), type := 4, pos := "run.go:28", after := #[{ on := 10, ground := Go.Ground.data }, { on := 22, ground := Go.Ground.data }], guard := none } : Oper)) (v := ?_) rfl (by kernel_rfl) (by kernel_rfl) (by kernel_rfl) (fun _ _ _ h => h) (Or.inl ⟨by rfl, ?_⟩) hH ?_
      rotate_left
      · intro w hSw; (try dsimp only at hSw); go_simp; try with_reducible rfl
      try simp only [Act.put, List.setIfInBounds_toArray, List.set_cons_zero, List.set_cons_succ]
      refine wpAnyH_take (i := 24) (oi := ({ dst := some 5, op := Go.Op.assign (Go.Operand.tmp 29), type := 4, pos := "run.go:28", after := #[{ on := 23, ground := Go.Ground.data }, { on := 21, ground := Go.Ground.chain }, { on := 0, ground := Go.Ground.phase }, { on := 1, ground := Go.Ground.phase }, { on := 2, ground := Go.Ground.phase }, { on := 3, ground := Go.Ground.phase }, { on := 4, ground := Go.Ground.phase }, { on := 5, ground := Go.Ground.phase }, { on := 6, ground := Go.Ground.phase }, { on := 7, ground := Go.Ground.phase }, { on := 8, ground := Go.Ground.phase }, { on := 9, ground := Go.Ground.phase }, { on := 10, ground := Go.Ground.phase }, { on := 11, ground := Go.Ground.phase }, { on := 12, ground := Go.Ground.phase }, { on := 13, ground := Go.Ground.phase }, { on := 14, ground := Go.Ground.phase }, { on := 15, ground := Go.Ground.phase }, { on := 16, ground := Go.Ground.phase }, { on := 17, ground := Go.Ground.phase }, { on := 18, ground := Go.Ground.phase }, { on := 19, ground := Go.Ground.phase }, { on := 20, ground := Go.Ground.phase }, { on := 21, ground := Go.Ground.phase }, { on := 22, ground := Go.Ground.phase }, { on := 23, ground := Go.Ground.phase }], guard := none } : Oper)) (v := ?_) rfl (by kernel_rfl) (by kernel_rfl) (by kernel_rfl) (fun _ _ _ h => h) (Or.inl ⟨by rfl, ?_⟩) hH ?_
      rotate_left
      · intro w hSw; (try dsimp only at hSw); go_simp; try with_reducible rfl
      try simp only [Act.put, List.setIfInBounds_toArray, List.set_cons_zero, List.set_cons_succ]
      refine wpAnyH_done (by kernel_rfl) ?_ _
      refine NoPanic.normal ?_
      go_wp2_with fail
      go_ret
      exact ⟨ret_bool (by first | rfl | (rw [eq_comm, decide_eq_false_iff_not]; exact fun h => r h.2.1)), BW.tr hH.1⟩
  · have q1 : (s.pl == 0) = false := by simp [q]
    refine wp_region_noPanic ?_
    refine wp_region_held_drew (S := fun w' => Bl W w' ∧ w'.cell? ⟨w.heap.size, 0, none⟩ = some (.int .i64 s.pl) ∧ w'.cell? ⟨w.heap.size, 1, none⟩ = some (.int .i64 s.wi) ∧ w'.cell? ⟨b, 0, none⟩ = some (.int .i64 M.no) ∧ w'.cell? ⟨b, 1, none⟩ = some (.int .i64 M.hf) ∧ w'.cell? ⟨b, 2, none⟩ = some (.int .i64 M.fu) ∧ w'.cell? ⟨b, 3, none⟩ = some (.int .i64 M.la) ∧ w'.cell? ⟨b, 4, none⟩ = some (.int .i64 M.ag) ∧ w'.cell? ⟨b, 5, none⟩ = some (.int .i64 M.wi)) (by kernel_rfl) (⟨Bl.d1 _, kcb (Bl.d1 _) p0, kcb (Bl.d1 _) p1, kcb (Bl.d1 _) g0, kcb (Bl.d1 _) g1, kcb (Bl.d1 _) g2, kcb (Bl.d1 _) g3, kcb (Bl.d1 _) g4, kcb (Bl.d1 _) g5⟩) (fun hH => ?_)
    refine wpAnyH_take (i := 0) (oi := ({ dst := some 6, op := Go.Op.fieldAddr 53 (Go.Operand.tmp 3) 0, type := 0, pos := "run.go:28", after := #[], guard := none } : Oper)) (v := ?_) rfl (by kernel_rfl) (by kernel_rfl) (by kernel_rfl) (fun _ _ _ h => h) (Or.inl ⟨by rfl, ?_⟩) hH ?_
    rotate_left
    · intro w hSw; (try dsimp only at hSw); go_simp; try with_reducible rfl
    try simp only [Act.put, List.setIfInBounds_toArray, List.set_cons_zero, List.set_cons_succ]
    refine wpAnyH_take (i := 1) (oi := ({ dst := some 7, op := Go.Op.load 3 (Go.Operand.tmp 6), type := 3, pos := "run.go:28", after := #[{ on := 0, ground := Go.Ground.data }], guard := none } : Oper)) (v := ?_) rfl (by kernel_rfl) (by kernel_rfl) (by kernel_rfl) (fun _ _ _ h => h) (Or.inl ⟨by rfl, ?_⟩) hH ?_
    rotate_left
    · intro w hSw; (try dsimp only at hSw); go_simp; try with_reducible rfl
    try simp only [Act.put, List.setIfInBounds_toArray, List.set_cons_zero, List.set_cons_succ]
    refine wpAnyH_take (i := 2) (oi := ({ dst := some 8, op := Go.Op.binOp Go.BinOp.eql 3 (Go.Operand.tmp 7) (Go.Operand.const (Go.Value.int Go.IntKind.i64 0)) 3, type := 4, pos := "run.go:28", after := #[{ on := 1, ground := Go.Ground.data }], guard := none } : Oper)) (v := ?_) rfl (by kernel_rfl) (by kernel_rfl) (by kernel_rfl) (fun _ _ _ h => h) (Or.inl ⟨by rfl, ?_⟩) hH ?_
    rotate_left
    · intro w hSw; (try dsimp only at hSw); go_simp; try with_reducible rfl
    try simp only [Act.put, List.setIfInBounds_toArray, List.set_cons_zero, List.set_cons_succ]
    refine wpAnyH_take (i := 3) (oi := ({ dst := some 9, op := Go.Op.move (Go.Operand.tmp 8), type := 4, pos := "run.go:28", after := #[{ on := 2, ground := Go.Ground.data }], guard := none } : Oper)) (v := ?_) rfl (by kernel_rfl) (by kernel_rfl) (by kernel_rfl) (fun _ _ _ h => h) (Or.inl ⟨by rfl, ?_⟩) hH ?_
    rotate_left
    · intro w hSw; (try dsimp only at hSw); go_simp; try with_reducible rfl
    try simp only [Act.put, List.setIfInBounds_toArray, List.set_cons_zero, List.set_cons_succ]
    refine wpAnyH_take (i := 4) (oi := ({ dst := some 10, op := Go.Op.fieldAddr 53 (Go.Operand.tmp 3) 1, type := 0, pos := "run.go:28", after := #[{ on := 3, ground := Go.Ground.guard }], guard := some (3, true) } : Oper)) (v := undef) rfl (by kernel_rfl) (by kernel_rfl) (by kernel_rfl) (fun _ _ _ h => h) (Or.inr ⟨by rfl, rfl⟩) hH ?_
    try simp only [Act.put, List.setIfInBounds_toArray, List.set_cons_zero, List.set_cons_succ]
    refine wpAnyH_take (i := 5) (oi := ({ dst := some 11, op := Go.Op.load 3 (Go.Operand.tmp 10), type := 3, pos := "run.go:28", after := #[{ on := 4, ground := Go.Ground.data }, { on := 3, ground := Go.Ground.guard }], guard := some (3, true) } : Oper)) (v := undef) rfl (by kernel_rfl) (by kernel_rfl) (by kernel_rfl) (fun _ _ _ h => h) (Or.inr ⟨by rfl, rfl⟩) hH ?_
    try simp only [Act.put, List.setIfInBounds_toArray, List.set_cons_zero, List.set_cons_succ]
    refine wpAnyH_take (i := 6) (oi := ({ dst := some 12, op := Go.Op.fieldAddr 35 (Go.Operand.tmp 2) 5, type := 0, pos := "run.go:28", after := #[{ on := 3, ground := Go.Ground.guard }], guard := some (3, true) } : Oper)) (v := undef) rfl (by kernel_rfl) (by kernel_rfl) (by kernel_rfl) (fun _ _ _ h => h) (Or.inr ⟨by rfl, rfl⟩) hH ?_
    try simp only [Act.put, List.setIfInBounds_toArray, List.set_cons_zero, List.set_cons_succ]
    refine wpAnyH_take (i := 7) (oi := ({ dst := some 13, op := Go.Op.load 3 (Go.Operand.tmp 12), type := 3, pos := "run.go:28", after := #[{ on := 6, ground := Go.Ground.data }, { on := 3, ground := Go.Ground.guard }], guard := some (3, true) } : Oper)) (v := undef) rfl (by kernel_rfl) (by kernel_rfl) (by kernel_rfl) (fun _ _ _ h => h) (Or.inr ⟨by rfl, rfl⟩) hH ?_
    try simp only [Act.put, List.setIfInBounds_toArray, List.set_cons_zero, List.set_cons_succ]
    refine wpAnyH_take (i := 8) (oi := ({ dst := some 14, op := Go.Op.binOp Go.BinOp.leq 3 (Go.Operand.tmp 11) (Go.Operand.tmp 13) 3, type := 4, pos := "run.go:28", after := #[{ on := 5, ground := Go.Ground.data }, { on := 7, ground := Go.Ground.data }, { on := 3, ground := Go.Ground.guard }], guard := some (3, true) } : Oper)) (v := undef) rfl (by kernel_rfl) (by kernel_rfl) (by kernel_rfl) (fun _ _ _ h => h) (Or.inr ⟨by rfl, rfl⟩) hH ?_
    try simp only [Act.put, List.setIfInBounds_toArray, List.set_cons_zero, List.set_cons_succ]
    refine wpAnyH_take (i := 9) (oi := ({ dst := some 15, op := Go.Op.pick (Go.Operand.tmp 9) (Go.Operand.tmp 14) (Go.Operand.const (Go.Value.bool false)), type := 4, pos := "run.go:28", after := #[{ on := 3, ground := Go.Ground.data }, { on := 8, ground := Go.Ground.data }], guard := none } : Oper)) (v := ?_) rfl (by kernel_rfl) (by kernel_rfl) (by kernel_rfl) (fun _ _ _ h => h) (Or.inl ⟨by rfl, ?_⟩) hH ?_
    rotate_left
    · intro w hSw; (try dsimp only at hSw); go_simp; try with_reducible rfl
    try simp only [Act.put, List.setIfInBounds_toArray, List.set_cons_zero, List.set_cons_succ]
    refine wpAnyH_take (i := 10) (oi := ({ dst := some 16, op := Go.Op.move (Go.Operand.tmp 15), type := 4, pos := "run.go:28", after := #[{ on := 9, ground := Go.Ground.data }, { on := 3, ground := Go.Ground.chain }], guard := none } : Oper)) (v := ?_) rfl (by kernel_rfl) (by kernel_rfl) (by kernel_rfl) (fun _ _ _ h => h) (Or.inl ⟨by rfl, ?_⟩) hH ?_
    rotate_left
    · intro w hSw; (try dsimp only at hSw); go_simp; try with_reducible rfl
    try simp only [Act.put, List.setIfInBounds_toArray, List.set_cons_zero, List.set_cons_succ]
    refine wpAnyH_take (i := 11) (oi := ({ dst := some 17, op := Go.Op.load 35 (Go.Operand.tmp 2), type := 35, pos := "run.go:28", after := #[{ on := 10, ground := Go.Ground.guard }], guard := some (10, true) } : Oper)) (v := undef) rfl (by kernel_rfl) (by kernel_rfl) (by kernel_rfl) (fun _ _ _ h => h) (Or.inr ⟨by rfl, rfl⟩) hH ?_
    try simp only [Act.put, List.setIfInBounds_toArray, List.set_cons_zero, List.set_cons_succ]
    refine wpAnyH_take (i := 12) (oi := ({ dst := some 18, op := Go.Op.fieldAddr 35 (Go.Operand.tmp 2) 0, type := 0, pos := "run.go:28", after := #[{ on := 10, ground := Go.Ground.guard }], guard := some (10, true) } : Oper)) (v := undef) rfl (by kernel_rfl) (by kernel_rfl) (by kernel_rfl) (fun _ _ _ h => h) (Or.inr ⟨by rfl, rfl⟩) hH ?_
    try simp only [Act.put, List.setIfInBounds_toArray, List.set_cons_zero, List.set_cons_succ]
    refine wpAnyH_take (i := 13) (oi := ({ dst := some 19, op := Go.Op.load 3 (Go.Operand.tmp 18), type := 3, pos := "run.go:28", after := #[{ on := 12, ground := Go.Ground.data }, { on := 10, ground := Go.Ground.guard }], guard := some (10, true) } : Oper)) (v := undef) rfl (by kernel_rfl) (by kernel_rfl) (by kernel_rfl) (fun _ _ _ h => h) (Or.inr ⟨by rfl, rfl⟩) hH ?_
    try simp only [Act.put, List.setIfInBounds_toArray, List.set_cons_zero, List.set_cons_succ]
    refine wpAnyH_take (i := 14) (oi := ({ dst := some 20, op := Go.Op.move (Go.Operand.tmp 1), type := 3, pos := "run.go:28", after := #[{ on := 10, ground := Go.Ground.guard }], guard := some (10, true) } : Oper)) (v := undef) rfl (by kernel_rfl) (by kernel_rfl) (by kernel_rfl) (fun _ _ _ h => h) (Or.inr ⟨by rfl, rfl⟩) hH ?_
    try simp only [Act.put, List.setIfInBounds_toArray, List.set_cons_zero, List.set_cons_succ]
    refine wpAnyH_ready (rs := [15]) (by kernel_rfl) (by simp) ?_
    refine AllReadyH.cons (o := ({ dst := some 21, op := Go.Op.call { callee := Go.Callee.value (Go.Operand.func 38), args := #[Go.Operand.tmp 17, Go.Operand.tmp 19, Go.Operand.tmp 20], argTypes := #[35, 3, 3] }, type := 4, pos := "run.go:28", after := #[{ on := 11, ground := Go.Ground.data }, { on := 13, ground := Go.Ground.data }, { on := 14, ground := Go.Ground.data }, { on := 10, ground := Go.Ground.chain }, { on := 10, ground := Go.Ground.guard }], guard := some (10, true) } : Oper)) rfl (fun K hK => ?_) AllReadyH.nil
    refine iteInduction (motive := fun p => p) (fun h => absurd (show false = true from h) Bool.false_ne_true) (fun _ => ?_)
    refine hK.out _ _ hH (fun hH' => ?_)
    clear hH' hK K
    try simp only [Act.put, List.setIfInBounds_toArray, List.set_cons_zero, List.set_cons_succ]
    refine wpAnyH_take (i := 16) (oi := ({ dst := some 22, op := Go.Op.move (Go.Operand.tmp 21), type := 4, pos := "run.go:28", after := #[{ on := 15, ground := Go.Ground.data }, { on := 15, ground := Go.Ground.chain }, { on := 10, ground := Go.Ground.guard }], guard := some (10, true) } : Oper)) (v := undef) rfl (by kernel_rfl) (by kernel_rfl) (by kernel_rfl) (fun _ _ _ h => h) (Or.inr ⟨by rfl, rfl⟩) hH ?_
    try simp only [Act.put, List.setIfInBounds_toArray, List.set_cons_zero, List.set_cons_succ]
    refine wpAnyH_take (i := 17) (oi := ({ dst := some 23, op := Go.Op.load 35 (Go.Operand.tmp 2), type := 35, pos := "run.go:28", after := #[{ on := 16, ground := Go.Ground.guard }], guard := some (16, false) } : Oper)) (v := undef) rfl (by kernel_rfl) (by kernel_rfl) (by kernel_rfl) (fun _ _ _ h => h) (Or.inr ⟨by rfl, rfl⟩) hH ?_
    try simp only [Act.put, List.setIfInBounds_toArray, List.set_cons_zero, List.set_cons_succ]
    refine wpAnyH_take (i := 18) (oi := ({ dst := some 24, op := Go.Op.load 35 (Go.Operand.tmp 2), type := 35, pos := "run.go:28", after := #[{ on := 16, ground := Go.Ground.guard }], guard := some (16, false) } : Oper)) (v := undef) rfl (by kernel_rfl) (by kernel_rfl) (by kernel_rfl) (fun _ _ _ h => h) (Or.inr ⟨by rfl, rfl⟩) hH ?_
    try simp only [Act.put, List.setIfInBounds_toArray, List.set_cons_zero, List.set_cons_succ]
    refine wpAnyH_take (i := 20) (oi := ({ dst := some 26, op := Go.Op.move (Go.Operand.tmp 1), type := 3, pos := "run.go:28", after := #[{ on := 16, ground := Go.Ground.guard }], guard := some (16, false) } : Oper)) (v := undef) rfl (by kernel_rfl) (by kernel_rfl) (by kernel_rfl) (fun _ _ _ h => h) (Or.inr ⟨by rfl, rfl⟩) hH ?_
    try simp only [Act.put, List.setIfInBounds_toArray, List.set_cons_zero, List.set_cons_succ]
    refine wpAnyH_ready (rs := [19]) (by kernel_rfl) (by simp) ?_
    refine AllReadyH.cons (o := ({ dst := some 25, op := Go.Op.call { callee := Go.Callee.value (Go.Operand.func 25), args := #[Go.Operand.tmp 24], argTypes := #[35] }, type := 3, pos := "run.go:28", after := #[{ on := 18, ground := Go.Ground.data }, { on := 16, ground := Go.Ground.chain }, { on := 16, ground := Go.Ground.guard }], guard := some (16, false) } : Oper)) rfl (fun K hK => ?_) AllReadyH.nil
    refine iteInduction (motive := fun p => p) (fun h => absurd (show false = true from h) Bool.false_ne_true) (fun _ => ?_)
    refine hK.out _ _ hH (fun hH' => ?_)
    clear hH' hK K
    try simp only [Act.put, List.setIfInBounds_toArray, List.set_cons_zero, List.set_cons_succ]
    refine wpAnyH_ready (rs := [21]) (by kernel_rfl) (by simp) ?_
    refine AllReadyH.cons (o := ({ dst := some 27, op := Go.Op.call { callee := Go.Callee.value (Go.Operand.func 38), args := #[Go.Operand.tmp 23, Go.Operand.tmp 25, Go.Operand.tmp 26], argTypes := #[35, 3, 3] }, type := 4, pos := "run.go:28", after := #[{ on := 17, ground := Go.Ground.data }, { on := 19, ground := Go.Ground.data }, { on := 20, ground := Go.Ground.data }, { on := 19, ground := Go.Ground.chain }, { on := 16, ground := Go.Ground.guard }], guard := some (16, false) } : Oper)) rfl (fun K hK => ?_) AllReadyH.nil
    refine iteInduction (motive := fun p => p) (fun h => absurd (show false = true from h) Bool.false_ne_true) (fun _ => ?_)
    refine hK.out _ _ hH (fun hH' => ?_)
    clear hH' hK K
    try simp only [Act.put, List.setIfInBounds_toArray, List.set_cons_zero, List.set_cons_succ]
    refine wpAnyH_take (i := 22) (oi := ({ dst := some 28, op := Go.Op.pick (Go.Operand.tmp 22) (Go.Operand.const (Go.Value.bool true)) (Go.Operand.tmp 27), type := 4, pos := "run.go:28", after := #[{ on := 16, ground := Go.Ground.data }, { on := 21, ground := Go.Ground.data }, { on := 10, ground := Go.Ground.guard }], guard := some (10, true) } : Oper)) (v := undef) rfl (by kernel_rfl) (by kernel_rfl) (by kernel_rfl) (fun _ _ _ h => h) (Or.inr ⟨by rfl, rfl⟩) hH ?_
    try simp only [Act.put, List.setIfInBounds_toArray, List.set_cons_zero, List.set_cons_succ]
    refine wpAnyH_take (i := 23) (oi := ({ dst := some 29, op := Go.Op.pick (Go.Operand.tmp 16) (Go.Operand.tmp 28) (Go.Operand.const (Go.Value.bool false)), type := 4, pos := "run.go:28", after := #[{ on := 10, ground := Go.Ground.data }, { on := 22, ground := Go.Ground.data }], guard := none } : Oper)) (v := ?_) rfl (by kernel_rfl) (by kernel_rfl) (by kernel_rfl) (fun _ _ _ h => h) (Or.inl ⟨by rfl, ?_⟩) hH ?_
    rotate_left
    · intro w hSw; (try dsimp only at hSw); go_simp; try with_reducible rfl
    try simp only [Act.put, List.setIfInBounds_toArray, List.set_cons_zero, List.set_cons_succ]
    refine wpAnyH_take (i := 24) (oi := ({ dst := some 5, op := Go.Op.assign (Go.Operand.tmp 29), type := 4, pos := "run.go:28", after := #[{ on := 23, ground := Go.Ground.data }, { on := 21, ground := Go.Ground.chain }, { on := 0, ground := Go.Ground.phase }, { on := 1, ground := Go.Ground.phase }, { on := 2, ground := Go.Ground.phase }, { on := 3, ground := Go.Ground.phase }, { on := 4, ground := Go.Ground.phase }, { on := 5, ground := Go.Ground.phase }, { on := 6, ground := Go.Ground.phase }, { on := 7, ground := Go.Ground.phase }, { on := 8, ground := Go.Ground.phase }, { on := 9, ground := Go.Ground.phase }, { on := 10, ground := Go.Ground.phase }, { on := 11, ground := Go.Ground.phase }, { on := 12, ground := Go.Ground.phase }, { on := 13, ground := Go.Ground.phase }, { on := 14, ground := Go.Ground.phase }, { on := 15, ground := Go.Ground.phase }, { on := 16, ground := Go.Ground.phase }, { on := 17, ground := Go.Ground.phase }, { on := 18, ground := Go.Ground.phase }, { on := 19, ground := Go.Ground.phase }, { on := 20, ground := Go.Ground.phase }, { on := 21, ground := Go.Ground.phase }, { on := 22, ground := Go.Ground.phase }, { on := 23, ground := Go.Ground.phase }], guard := none } : Oper)) (v := ?_) rfl (by kernel_rfl) (by kernel_rfl) (by kernel_rfl) (fun _ _ _ h => h) (Or.inl ⟨by rfl, ?_⟩) hH ?_
    rotate_left
    · intro w hSw; (try dsimp only at hSw); go_simp; try with_reducible rfl
    try simp only [Act.put, List.setIfInBounds_toArray, List.set_cons_zero, List.set_cons_succ]
    refine wpAnyH_done (by kernel_rfl) ?_ _
    refine NoPanic.normal ?_
    go_wp2_with fail
    go_ret
    exact ⟨ret_bool (by first | rfl | (rw [eq_comm, decide_eq_false_iff_not]; exact fun h => q h.1)), BW.tr hH.1⟩
set_option maxHeartbeats 800000 in
theorem fills_any (M : Mst) (hM : VM M) (s : Bal) (t : Int) (b : Nat) (w : World) (hm : MastAt w b M) : Calls Tryd.prog 39 #[encB s, .int .i64 t, .pointer (some ⟨b, 0, none⟩)] w fun e w' => e = .returned (.bool (decide (s.pl = 1 ∧ M.no - M.fu ≤ t ∧ t ≤ M.no + M.ag))) ∧ Bl w w' := by
  obtain ⟨m0, m1, m2, m3, m4, m5⟩ := hm
  have lb := ltb m0
  have vno0 := hM.no0
  have vno1 := hM.no1
  have vfu0 := hM.fu0
  have vhf0 := hM.hf0
  have vhf1 := hM.hf1
  have vag0 := hM.ag0
  have vag1 := hM.ag1
  go_enter Tryd.func39, Tryd.ntmps39
  go_wp2_with (go_at_call 25; refine (again_any M _ (by omega) (by omega)).mono ?_; rintro e w1 ⟨rfl, hb⟩)
  all_goals (go_ret; exact ⟨ret_bool (by rw [Bool.eq_iff_iff]; first | (simp at *; done) | (simp at *; omega)), by first | exact Bl.tr (by go_grown) hb | go_grown⟩)

set_option maxHeartbeats 400000 in
theorem goesTo_any (p : Int) (w : World) : Calls Tryd.prog 42 #[.int .i64 p] w fun e w' => e = .returned (.func (.func 47) #[] #[.pointer (some ⟨w.heap.size, 0, none⟩)]) ∧ w' = w.alloc (.cells #[.int .i64 p] 3) := by
  go_enter Tryd.func42, Tryd.ntmps42
  go_wp2
  go_ret
  exact ⟨rfl, rfl⟩
set_option maxHeartbeats 400000 in
theorem is_any (p : Int) (w : World) : Calls Tryd.prog 43 #[.int .i64 p] w fun e w' => e = .returned (.func (.func 48) #[] #[.pointer (some ⟨w.heap.size, 0, none⟩)]) ∧ w' = w.alloc (.cells #[.int .i64 p] 3) := by
  go_enter Tryd.func43, Tryd.ntmps43
  go_wp2
  go_ret
  exact ⟨rfl, rfl⟩
/-- The rules of a mast, with the blocks that their closures hold. -/
abbrev RV (x g1 g2 i1 g0 i2 g3 : Nat) : Value :=
  .agg #[.nilFunc, .nilFunc, .func (.func 40) #[] #[], .func (.func 41) #[] #[],
    .func (.func 37) #[] #[.pointer (some ⟨x, 0, none⟩)], .func (.func 47) #[] #[.pointer (some ⟨g1, 0, none⟩)],
    .func (.func 39) #[] #[.pointer (some ⟨x, 0, none⟩)], .func (.func 47) #[] #[.pointer (some ⟨g2, 0, none⟩)],
    .func (.func 48) #[] #[.pointer (some ⟨i1, 0, none⟩)], .func (.func 47) #[] #[.pointer (some ⟨g0, 0, none⟩)],
    .func (.func 48) #[] #[.pointer (some ⟨i2, 0, none⟩)], .func (.func 47) #[] #[.pointer (some ⟨g3, 0, none⟩)],
    .func (.func 44) #[] #[], .func (.func 45) #[] #[]]
structure RulesAt (w : World) (M : Mst) (x g1 g2 i1 g0 i2 g3 : Nat) : Prop where
  mast : MastAt w x M
  c1 : w.cell? ⟨g1, 0, none⟩ = some (.int .i64 1)
  c2 : w.cell? ⟨g2, 0, none⟩ = some (.int .i64 2)
  d1 : w.cell? ⟨i1, 0, none⟩ = some (.int .i64 2)
  c0 : w.cell? ⟨g0, 0, none⟩ = some (.int .i64 0)
  d2 : w.cell? ⟨i2, 0, none⟩ = some (.int .i64 2)
  c3 : w.cell? ⟨g3, 0, none⟩ = some (.int .i64 3)
theorem RulesAt.below {w w' : World} {M : Mst} {x g1 g2 i1 g0 i2 g3 : Nat} (h : RulesAt w M x g1 g2 i1 g0 i2 g3) (hb : Bl w w') : RulesAt w' M x g1 g2 i1 g0 i2 g3 :=
  ⟨h.mast.below hb, kcb hb h.c1, kcb hb h.c2, kcb hb h.d1, kcb hb h.c0, kcb hb h.d2, kcb hb h.c3⟩
set_option maxRecDepth 100000 in
set_option maxHeartbeats 1600000 in
theorem rulesOf_any (M : Mst) (w : World) : Calls Tryd.prog 35 #[encM M] w fun e w' => ∃ x g1 g2 i1 g0 i2 g3, e = .returned (RV x g1 g2 i1 g0 i2 g3) ∧ RulesAt w' M x g1 g2 i1 g0 i2 g3 ∧ Bl w w' := by
  go_enter Tryd.func35, Tryd.ntmps35
  go_wp2_with (first | (go_at_call 42; refine (goesTo_any _ _).mono ?_; rintro e w' ⟨rfl, rfl⟩) | (go_at_call 43; refine (is_any _ _).mono ?_; rintro e w' ⟨rfl, rfl⟩))
  exact bodyPost_ret (v := RV w.heap.size (w.heap.size + 1 + 1) (w.heap.size + 1 + 1 + 1) (w.heap.size + 1 + 1 + 1 + 1) (w.heap.size + 1 + 1 + 1 + 1 + 1) (w.heap.size + 1 + 1 + 1 + 1 + 1 + 1) (w.heap.size + 1 + 1 + 1 + 1 + 1 + 1 + 1)) (by simp [results, Tryd.results35, go_sem]) rfl ⟨_, _, _, _, _, _, _, rfl, ⟨⟨by go_cell, by go_cell, by go_cell, by go_cell, by go_cell, by go_cell⟩, by go_cell, by go_cell, by go_cell, by go_cell, by go_cell, by go_cell⟩, by go_grown⟩
end Go.Proofs.YtajlfflbphbjnaaDoor
