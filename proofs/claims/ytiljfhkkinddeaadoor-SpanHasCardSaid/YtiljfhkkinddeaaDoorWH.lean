/-
  The walk of the law on what spans have.
-/
import Derived.Test.YtiljfhkkinddeaaDoorV
namespace Go.Proofs.YtiljfhkkinddeaaDoor
open Go.RowKit Cal
set_option linter.unusedSimpArgs false
set_option linter.unusedVariables false

theorem cellUp {a b : World} {k o : Nat} {v : Value} (h : a.cell? ⟨k, o, none⟩ = some v) (hb : Bl a b) : b.cell? ⟨k, o, none⟩ = some v := ((bcell hb).1 _ _ (lt_of_cell' h)).trans h
theorem Bl.al (w : World) (o : Obj) : Bl w (w.alloc o) := by go_grown

set_option maxRecDepth 100000 in
set_option maxHeartbeats 3200000 in
theorem has_walk (al ah bl bh n m : Int) (w : World) (hM : Mo w) :
    Calls Tryd.prog 9 #[.agg #[.int .i64 al, .int .i64 ah], .agg #[.int .i64 bl, .int .i64 bh], .agg #[.int .i64 n, .int .i64 m]] w fun e w' => e = .returned (.bool true) ∧ Bl w w' := by
  have HM := Lib.hid hM
  clear hM
  by_cases hva : vS al ah = true
  · obtain ⟨a1, a2, a3⟩ := vS_iff.1 hva
    have Hva := Lib.hid hva
    clear hva
    by_cases hvb : vS bl bh = true
    · obtain ⟨b1, b2, b3⟩ := vS_iff.1 hvb
      have Hvb := Lib.hid hvb
      clear hvb
      go_enter Tryd.func9, Tryd.ntmps9
      go_wp2_with fail
      refine (rvS_t _ _ _ Hva.out).mono ?_
      rintro e w1 ⟨rfl, hb⟩
      obtain ⟨ka0, ka1, kaf, kag, kal⟩ := kept2 (b := w.heap.size) (x := .int .i64 al) (y := .int .i64 ah) hb ⟨by go_cell, by go_cell, (by (try simp only [frozen?_alloc_cells, World.frozen?_setCell, fz_drew, fz_drewN]); first | assumption | exact frozen_beyond (by (try simp only [World.size_alloc, World.size_setCell, World.size_drew, sz_drewN]); omega)), (by (try simp only [frozen?_alloc_cells, World.frozen?_setCell, fz_drew, fz_drewN]); first | assumption | exact frozen_beyond (by (try simp only [World.size_alloc, World.size_setCell, World.size_drew, sz_drewN]); omega)), (by (try simp only [World.size_alloc, World.size_setCell, World.size_drew, sz_drewN]); omega)⟩
      obtain ⟨kb0, kb1, kbf, kbg, kbl⟩ := kept2 (b := w.heap.size + 1) (x := .int .i64 bl) (y := .int .i64 bh) hb ⟨by go_cell, by go_cell, (by (try simp only [frozen?_alloc_cells, World.frozen?_setCell, fz_drew, fz_drewN]); first | assumption | exact frozen_beyond (by (try simp only [World.size_alloc, World.size_setCell, World.size_drew, sz_drewN]); omega)), (by (try simp only [frozen?_alloc_cells, World.frozen?_setCell, fz_drew, fz_drewN]); first | assumption | exact frozen_beyond (by (try simp only [World.size_alloc, World.size_setCell, World.size_drew, sz_drewN]); omega)), (by (try simp only [World.size_alloc, World.size_setCell, World.size_drew, sz_drewN]); omega)⟩
      obtain ⟨kc0, kc1, kcf, kcg, kcl⟩ := kept2 (b := w.heap.size + 1 + 1) (x := .int .i64 n) (y := .int .i64 m) hb ⟨by go_cell, by go_cell, (by (try simp only [frozen?_alloc_cells, World.frozen?_setCell, fz_drew, fz_drewN]); first | assumption | exact frozen_beyond (by (try simp only [World.size_alloc, World.size_setCell, World.size_drew, sz_drewN]); omega)), (by (try simp only [frozen?_alloc_cells, World.frozen?_setCell, fz_drew, fz_drewN]); first | assumption | exact frozen_beyond (by (try simp only [World.size_alloc, World.size_setCell, World.size_drew, sz_drewN]); omega)), (by (try simp only [World.size_alloc, World.size_setCell, World.size_drew, sz_drewN]); omega)⟩
      have B1 : Bl w w1 := Bl.tr (by go_grown) hb
      have z1 := B1.size
      clear hb
      go_wp2_with fail
      refine (rvS_t _ _ _ Hvb.out).mono ?_
      rintro e w2 ⟨rfl, hb⟩
      obtain ⟨ka0, ka1, kaf, kag, kal⟩ := kept2 (b := w.heap.size) (x := .int .i64 al) (y := .int .i64 ah) hb ⟨by go_cell, by go_cell, (by (try simp only [frozen?_alloc_cells, World.frozen?_setCell, fz_drew, fz_drewN]); first | assumption | exact frozen_beyond (by (try simp only [World.size_alloc, World.size_setCell, World.size_drew, sz_drewN]); omega)), (by (try simp only [frozen?_alloc_cells, World.frozen?_setCell, fz_drew, fz_drewN]); first | assumption | exact frozen_beyond (by (try simp only [World.size_alloc, World.size_setCell, World.size_drew, sz_drewN]); omega)), (by (try simp only [World.size_alloc, World.size_setCell, World.size_drew, sz_drewN]); omega)⟩
      obtain ⟨kb0, kb1, kbf, kbg, kbl⟩ := kept2 (b := w.heap.size + 1) (x := .int .i64 bl) (y := .int .i64 bh) hb ⟨by go_cell, by go_cell, (by (try simp only [frozen?_alloc_cells, World.frozen?_setCell, fz_drew, fz_drewN]); first | assumption | exact frozen_beyond (by (try simp only [World.size_alloc, World.size_setCell, World.size_drew, sz_drewN]); omega)), (by (try simp only [frozen?_alloc_cells, World.frozen?_setCell, fz_drew, fz_drewN]); first | assumption | exact frozen_beyond (by (try simp only [World.size_alloc, World.size_setCell, World.size_drew, sz_drewN]); omega)), (by (try simp only [World.size_alloc, World.size_setCell, World.size_drew, sz_drewN]); omega)⟩
      obtain ⟨kc0, kc1, kcf, kcg, kcl⟩ := kept2 (b := w.heap.size + 1 + 1) (x := .int .i64 n) (y := .int .i64 m) hb ⟨by go_cell, by go_cell, (by (try simp only [frozen?_alloc_cells, World.frozen?_setCell, fz_drew, fz_drewN]); first | assumption | exact frozen_beyond (by (try simp only [World.size_alloc, World.size_setCell, World.size_drew, sz_drewN]); omega)), (by (try simp only [frozen?_alloc_cells, World.frozen?_setCell, fz_drew, fz_drewN]); first | assumption | exact frozen_beyond (by (try simp only [World.size_alloc, World.size_setCell, World.size_drew, sz_drewN]); omega)), (by (try simp only [World.size_alloc, World.size_setCell, World.size_drew, sz_drewN]); omega)⟩
      have B2 : Bl w w2 := Below.trans (by go_grown) (hb.mono (by (try simp only [World.size_alloc, World.size_setCell, World.size_drew, sz_drewN]); omega))
      have z2 := B2.size
      clear hb
      obtain ⟨r, hr⟩ : ∃ r, (if max al bl > min ah bh then ((0 : Int), (0 : Int), (8 : Int)) else (max al bl, min ah bh, 0)) = r := ⟨_, rfl⟩
      have Hr := Lib.hid hr
      clear hr
      go_wp2_with fail
      go_region
      go_wp2_with fail
      refine (meet_at _ _ _ _ _ Hva.out Hvb.out _ Hr.out).mono ?_
      rintro e w3 ⟨rfl, hb⟩
      obtain ⟨ka0, ka1, kaf, kag, kal⟩ := kept2 (b := w.heap.size) (x := .int .i64 al) (y := .int .i64 ah) hb ⟨by go_cell, by go_cell, (by (try simp only [frozen?_alloc_cells, World.frozen?_setCell, fz_drew, fz_drewN]); first | assumption | exact frozen_beyond (by (try simp only [World.size_alloc, World.size_setCell, World.size_drew, sz_drewN]); omega)), (by (try simp only [frozen?_alloc_cells, World.frozen?_setCell, fz_drew, fz_drewN]); first | assumption | exact frozen_beyond (by (try simp only [World.size_alloc, World.size_setCell, World.size_drew, sz_drewN]); omega)), (by (try simp only [World.size_alloc, World.size_setCell, World.size_drew, sz_drewN]); omega)⟩
      obtain ⟨kb0, kb1, kbf, kbg, kbl⟩ := kept2 (b := w.heap.size + 1) (x := .int .i64 bl) (y := .int .i64 bh) hb ⟨by go_cell, by go_cell, (by (try simp only [frozen?_alloc_cells, World.frozen?_setCell, fz_drew, fz_drewN]); first | assumption | exact frozen_beyond (by (try simp only [World.size_alloc, World.size_setCell, World.size_drew, sz_drewN]); omega)), (by (try simp only [frozen?_alloc_cells, World.frozen?_setCell, fz_drew, fz_drewN]); first | assumption | exact frozen_beyond (by (try simp only [World.size_alloc, World.size_setCell, World.size_drew, sz_drewN]); omega)), (by (try simp only [World.size_alloc, World.size_setCell, World.size_drew, sz_drewN]); omega)⟩
      have B3 : Bl w w3 := Below.trans (by go_grown) (hb.mono (by (try simp only [World.size_alloc, World.size_setCell, World.size_drew, sz_drewN]); omega))
      have z3 := B3.size
      clear hb
      unfold rS
      go_upto_region 5 with fail
      go_cut [67] (fun c wx => c = .bool false ∧ Bl w wx ∧ wx.cell? ⟨w.heap.size, 0, none⟩ = some (.int .i64 al) ∧ wx.cell? ⟨w.heap.size, 1, none⟩ = some (.int .i64 ah) ∧ wx.cell? ⟨w.heap.size + 1, 0, none⟩ = some (.int .i64 bl) ∧ wx.cell? ⟨w.heap.size + 1, 1, none⟩ = some (.int .i64 bh))
      case first =>
        by_cases hm : max al bl > min ah bh
        · obtain rfl : ((0 : Int), (0 : Int), (8 : Int)) = r := by rw [← Hr.out, if_pos hm]
          by_cases pa : al ≤ n ∧ n ≤ ah
          · obtain ⟨p1, p2⟩ := pa
            have pb : n < bl ∨ bh < n := by omega
            clear hm Hr
            obtain ⟨W, hW⟩ : ∃ W, W = w3.alloc (.cells #[.int .i64 0, .int .i64 0] 37) := ⟨_, rfl⟩
            have BW : Bl w W := by rw [hW]; go_grown
            rw [← hW]
            have q00 : W.cell? ⟨w.heap.size, 0, none⟩ = some (.int .i64 al) := by rw [hW]; go_cell
            have q01 : W.cell? ⟨w.heap.size, 1, none⟩ = some (.int .i64 ah) := by rw [hW]; go_cell
            have q10 : W.cell? ⟨w.heap.size + 1, 0, none⟩ = some (.int .i64 bl) := by rw [hW]; go_cell
            have q11 : W.cell? ⟨w.heap.size + 1, 1, none⟩ = some (.int .i64 bh) := by rw [hW]; go_cell
            have q20 : W.cell? ⟨w3.heap.size, 0, none⟩ = some (.int .i64 0) := by rw [hW]; go_cell
            have q21 : W.cell? ⟨w3.heap.size, 1, none⟩ = some (.int .i64 0) := by rw [hW]; go_cell
            clear hW ka0 ka1 kb0 kb1
            have hS : Hx3 W (w.heap.size) (w.heap.size + 1) (w3.heap.size) (.int .i64 al) (.int .i64 ah) (.int .i64 bl) (.int .i64 bh) (.int .i64 0) (.int .i64 0) W := ⟨Bl.rf _, q00, q01, q10, q11, q20, q21, lt_of_cell' q00, lt_of_cell' q10, lt_of_cell' q20⟩
            refine wp_region_noPanic ?_
            refine wp_region_held_drew (S := fun w' => Bl W w' ∧ w'.cell? ⟨w.heap.size, 0, none⟩ = some (.int .i64 al) ∧ w'.cell? ⟨w.heap.size, 1, none⟩ = some (.int .i64 ah) ∧ w'.cell? ⟨w.heap.size + 1, 0, none⟩ = some (.int .i64 bl) ∧ w'.cell? ⟨w.heap.size + 1, 1, none⟩ = some (.int .i64 bh) ∧ w'.cell? ⟨w3.heap.size, 0, none⟩ = some (.int .i64 0) ∧ w'.cell? ⟨w3.heap.size, 1, none⟩ = some (.int .i64 0) ∧ w.heap.size < W.heap.size ∧ w.heap.size + 1 < W.heap.size ∧ w3.heap.size < W.heap.size) (by kernel_rfl) (Hx3.t hS (Bl.dn _ 1)) (fun hH => ?_)
            refine wpAnyH_take (i := 0) (oi := ({ dst := some 38, op := Go.Op.move (Go.Operand.tmp 10), type := 24, pos := "law.go:121", after := #[], guard := none } : Oper)) (v := ?_) rfl (by kernel_rfl) (by kernel_rfl) (by kernel_rfl) (fun _ _ _ h => h) (Or.inl ⟨by rfl, ?_⟩) hH ?_
            rotate_left
            · intro w hSw; (try dsimp only at hSw); go_simp; try with_reducible rfl
            try simp only [Act.put, List.setIfInBounds_toArray, List.set_cons_zero, List.set_cons_succ]
            refine wpAnyH_take (i := 1) (oi := ({ dst := some 39, op := Go.Op.binOp Go.BinOp.eql 24 (Go.Operand.tmp 38) (Go.Operand.const (Go.Value.int Go.IntKind.i64 0)) 24, type := 4, pos := "law.go:121", after := #[{ on := 0, ground := Go.Ground.data }], guard := none } : Oper)) (v := ?_) rfl (by kernel_rfl) (by kernel_rfl) (by kernel_rfl) (fun _ _ _ h => h) (Or.inl ⟨by rfl, ?_⟩) hH ?_
            rotate_left
            · intro w hSw; (try dsimp only at hSw); go_simp; try with_reducible rfl
            try simp only [Act.put, List.setIfInBounds_toArray, List.set_cons_zero, List.set_cons_succ]
            refine wpAnyH_take (i := 2) (oi := ({ dst := some 40, op := Go.Op.move (Go.Operand.tmp 39), type := 4, pos := "law.go:121", after := #[{ on := 1, ground := Go.Ground.data }], guard := none } : Oper)) (v := ?_) rfl (by kernel_rfl) (by kernel_rfl) (by kernel_rfl) (fun _ _ _ h => h) (Or.inl ⟨by rfl, ?_⟩) hH ?_
            rotate_left
            · intro w hSw; (try dsimp only at hSw); go_simp; try with_reducible rfl
            try simp only [Act.put, List.setIfInBounds_toArray, List.set_cons_zero, List.set_cons_succ]
            refine wpAnyH_take (i := 3) (oi := ({ dst := some 41, op := Go.Op.load 37 (Go.Operand.tmp 9), type := 37, pos := "law.go:121", after := #[{ on := 2, ground := Go.Ground.guard }], guard := some (2, true) } : Oper)) (v := undef) rfl (by kernel_rfl) (by kernel_rfl) (by kernel_rfl) (fun _ _ _ h => h) (Or.inr ⟨by rfl, rfl⟩) hH ?_
            try simp only [Act.put, List.setIfInBounds_toArray, List.set_cons_zero, List.set_cons_succ]
            refine wpAnyH_take (i := 4) (oi := ({ dst := some 42, op := Go.Op.move (Go.Operand.tmp 7), type := 3, pos := "law.go:121", after := #[{ on := 2, ground := Go.Ground.guard }], guard := some (2, true) } : Oper)) (v := undef) rfl (by kernel_rfl) (by kernel_rfl) (by kernel_rfl) (fun _ _ _ h => h) (Or.inr ⟨by rfl, rfl⟩) hH ?_
            try simp only [Act.put, List.setIfInBounds_toArray, List.set_cons_zero, List.set_cons_succ]
            refine wpAnyH_take (i := 6) (oi := ({ dst := some 44, op := Go.Op.load 37 (Go.Operand.tmp 3), type := 37, pos := "law.go:121", after := #[{ on := 2, ground := Go.Ground.guard }], guard := some (2, true) } : Oper)) (v := undef) rfl (by kernel_rfl) (by kernel_rfl) (by kernel_rfl) (fun _ _ _ h => h) (Or.inr ⟨by rfl, rfl⟩) hH ?_
            try simp only [Act.put, List.setIfInBounds_toArray, List.set_cons_zero, List.set_cons_succ]
            refine wpAnyH_take (i := 7) (oi := ({ dst := some 45, op := Go.Op.move (Go.Operand.tmp 7), type := 3, pos := "law.go:121", after := #[{ on := 2, ground := Go.Ground.guard }], guard := some (2, true) } : Oper)) (v := undef) rfl (by kernel_rfl) (by kernel_rfl) (by kernel_rfl) (fun _ _ _ h => h) (Or.inr ⟨by rfl, rfl⟩) hH ?_
            try simp only [Act.put, List.setIfInBounds_toArray, List.set_cons_zero, List.set_cons_succ]
            refine wpAnyH_ready (rs := [5]) (by kernel_rfl) (by simp) ?_
            refine AllReadyH.cons (o := ({ dst := some 43, op := Go.Op.call { callee := Go.Callee.value (Go.Operand.func 43), args := #[Go.Operand.tmp 41, Go.Operand.tmp 42], argTypes := #[37, 3] }, type := 4, pos := "law.go:121", after := #[{ on := 3, ground := Go.Ground.data }, { on := 4, ground := Go.Ground.data }, { on := 2, ground := Go.Ground.chain }, { on := 2, ground := Go.Ground.guard }], guard := some (2, true) } : Oper)) rfl (fun K hK => ?_) AllReadyH.nil
            refine iteInduction (motive := fun p => p) (fun h => absurd (show false = true from h) Bool.false_ne_true) (fun _ => ?_)
            refine hK.out _ _ hH (fun hH' => ?_)
            clear hH' hK K
            try simp only [Act.put, List.setIfInBounds_toArray, List.set_cons_zero, List.set_cons_succ]
            refine wpAnyH_ready (rs := [8]) (by kernel_rfl) (by simp) ?_
            refine AllReadyH.cons (o := ({ dst := some 46, op := Go.Op.call { callee := Go.Callee.value (Go.Operand.func 43), args := #[Go.Operand.tmp 44, Go.Operand.tmp 45], argTypes := #[37, 3] }, type := 4, pos := "law.go:121", after := #[{ on := 6, ground := Go.Ground.data }, { on := 7, ground := Go.Ground.data }, { on := 5, ground := Go.Ground.chain }, { on := 2, ground := Go.Ground.guard }], guard := some (2, true) } : Oper)) rfl (fun K hK => ?_) AllReadyH.nil
            refine iteInduction (motive := fun p => p) (fun h => absurd (show false = true from h) Bool.false_ne_true) (fun _ => ?_)
            refine hK.out _ _ hH (fun hH' => ?_)
            clear hH' hK K
            try simp only [Act.put, List.setIfInBounds_toArray, List.set_cons_zero, List.set_cons_succ]
            refine wpAnyH_take (i := 9) (oi := ({ dst := some 47, op := Go.Op.move (Go.Operand.tmp 46), type := 4, pos := "law.go:121", after := #[{ on := 8, ground := Go.Ground.data }, { on := 8, ground := Go.Ground.chain }, { on := 2, ground := Go.Ground.guard }], guard := some (2, true) } : Oper)) (v := undef) rfl (by kernel_rfl) (by kernel_rfl) (by kernel_rfl) (fun _ _ _ h => h) (Or.inr ⟨by rfl, rfl⟩) hH ?_
            try simp only [Act.put, List.setIfInBounds_toArray, List.set_cons_zero, List.set_cons_succ]
            refine wpAnyH_take (i := 10) (oi := ({ dst := some 48, op := Go.Op.load 37 (Go.Operand.tmp 4), type := 37, pos := "law.go:121", after := #[{ on := 9, ground := Go.Ground.guard }], guard := some (9, true) } : Oper)) (v := undef) rfl (by kernel_rfl) (by kernel_rfl) (by kernel_rfl) (fun _ _ _ h => h) (Or.inr ⟨by rfl, rfl⟩) hH ?_
            try simp only [Act.put, List.setIfInBounds_toArray, List.set_cons_zero, List.set_cons_succ]
            refine wpAnyH_take (i := 11) (oi := ({ dst := some 49, op := Go.Op.move (Go.Operand.tmp 7), type := 3, pos := "law.go:121", after := #[{ on := 9, ground := Go.Ground.guard }], guard := some (9, true) } : Oper)) (v := undef) rfl (by kernel_rfl) (by kernel_rfl) (by kernel_rfl) (fun _ _ _ h => h) (Or.inr ⟨by rfl, rfl⟩) hH ?_
            try simp only [Act.put, List.setIfInBounds_toArray, List.set_cons_zero, List.set_cons_succ]
            refine wpAnyH_ready (rs := [12]) (by kernel_rfl) (by simp) ?_
            refine AllReadyH.cons (o := ({ dst := some 50, op := Go.Op.call { callee := Go.Callee.value (Go.Operand.func 43), args := #[Go.Operand.tmp 48, Go.Operand.tmp 49], argTypes := #[37, 3] }, type := 4, pos := "law.go:121", after := #[{ on := 10, ground := Go.Ground.data }, { on := 11, ground := Go.Ground.data }, { on := 9, ground := Go.Ground.chain }, { on := 9, ground := Go.Ground.guard }], guard := some (9, true) } : Oper)) rfl (fun K hK => ?_) AllReadyH.nil
            refine iteInduction (motive := fun p => p) (fun h => absurd (show false = true from h) Bool.false_ne_true) (fun _ => ?_)
            refine hK.out _ _ hH (fun hH' => ?_)
            clear hH' hK K
            try simp only [Act.put, List.setIfInBounds_toArray, List.set_cons_zero, List.set_cons_succ]
            refine wpAnyH_take (i := 13) (oi := ({ dst := some 51, op := Go.Op.pick (Go.Operand.tmp 47) (Go.Operand.tmp 50) (Go.Operand.const (Go.Value.bool false)), type := 4, pos := "law.go:121", after := #[{ on := 9, ground := Go.Ground.data }, { on := 12, ground := Go.Ground.data }, { on := 2, ground := Go.Ground.guard }], guard := some (2, true) } : Oper)) (v := undef) rfl (by kernel_rfl) (by kernel_rfl) (by kernel_rfl) (fun _ _ _ h => h) (Or.inr ⟨by rfl, rfl⟩) hH ?_
            try simp only [Act.put, List.setIfInBounds_toArray, List.set_cons_zero, List.set_cons_succ]
            refine wpAnyH_take (i := 14) (oi := ({ dst := some 52, op := Go.Op.binOp Go.BinOp.neq 4 (Go.Operand.tmp 43) (Go.Operand.tmp 51) 4, type := 4, pos := "law.go:121", after := #[{ on := 5, ground := Go.Ground.data }, { on := 13, ground := Go.Ground.data }, { on := 2, ground := Go.Ground.guard }], guard := some (2, true) } : Oper)) (v := undef) rfl (by kernel_rfl) (by kernel_rfl) (by kernel_rfl) (fun _ _ _ h => h) (Or.inr ⟨by rfl, rfl⟩) hH ?_
            try simp only [Act.put, List.setIfInBounds_toArray, List.set_cons_zero, List.set_cons_succ]
            refine wpAnyH_take (i := 15) (oi := ({ dst := some 53, op := Go.Op.pick (Go.Operand.tmp 40) (Go.Operand.tmp 52) (Go.Operand.const (Go.Value.bool false)), type := 4, pos := "law.go:121", after := #[{ on := 2, ground := Go.Ground.data }, { on := 14, ground := Go.Ground.data }], guard := none } : Oper)) (v := ?_) rfl (by kernel_rfl) (by kernel_rfl) (by kernel_rfl) (fun _ _ _ h => h) (Or.inl ⟨by rfl, ?_⟩) hH ?_
            rotate_left
            · intro w hSw; (try dsimp only at hSw); go_simp; try with_reducible rfl
            try simp only [Act.put, List.setIfInBounds_toArray, List.set_cons_zero, List.set_cons_succ]
            refine wpAnyH_take (i := 16) (oi := ({ dst := some 54, op := Go.Op.move (Go.Operand.tmp 53), type := 4, pos := "law.go:121", after := #[{ on := 15, ground := Go.Ground.data }, { on := 12, ground := Go.Ground.chain }], guard := none } : Oper)) (v := ?_) rfl (by kernel_rfl) (by kernel_rfl) (by kernel_rfl) (fun _ _ _ h => h) (Or.inl ⟨by rfl, ?_⟩) hH ?_
            rotate_left
            · intro w hSw; (try dsimp only at hSw); go_simp; try with_reducible rfl
            try simp only [Act.put, List.setIfInBounds_toArray, List.set_cons_zero, List.set_cons_succ]
            refine wpAnyH_take (i := 17) (oi := ({ dst := some 55, op := Go.Op.move (Go.Operand.tmp 10), type := 24, pos := "law.go:121", after := #[{ on := 16, ground := Go.Ground.guard }], guard := some (16, false) } : Oper)) (v := ?_) rfl (by kernel_rfl) (by kernel_rfl) (by kernel_rfl) (fun _ _ _ h => h) (Or.inl ⟨by rfl, ?_⟩) hH ?_
            rotate_left
            · intro w hSw; (try dsimp only at hSw); go_simp; try with_reducible rfl
            try simp only [Act.put, List.setIfInBounds_toArray, List.set_cons_zero, List.set_cons_succ]
            refine wpAnyH_take (i := 18) (oi := ({ dst := some 56, op := Go.Op.binOp Go.BinOp.eql 24 (Go.Operand.tmp 55) (Go.Operand.const (Go.Value.int Go.IntKind.i64 8)) 24, type := 4, pos := "law.go:121", after := #[{ on := 17, ground := Go.Ground.data }, { on := 16, ground := Go.Ground.guard }], guard := some (16, false) } : Oper)) (v := ?_) rfl (by kernel_rfl) (by kernel_rfl) (by kernel_rfl) (fun _ _ _ h => h) (Or.inl ⟨by rfl, ?_⟩) hH ?_
            rotate_left
            · intro w hSw; (try dsimp only at hSw); go_simp; try with_reducible rfl
            try simp only [Act.put, List.setIfInBounds_toArray, List.set_cons_zero, List.set_cons_succ]
            refine wpAnyH_take (i := 19) (oi := ({ dst := some 57, op := Go.Op.move (Go.Operand.tmp 56), type := 4, pos := "law.go:121", after := #[{ on := 18, ground := Go.Ground.data }, { on := 16, ground := Go.Ground.chain }, { on := 16, ground := Go.Ground.guard }], guard := some (16, false) } : Oper)) (v := ?_) rfl (by kernel_rfl) (by kernel_rfl) (by kernel_rfl) (fun _ _ _ h => h) (Or.inl ⟨by rfl, ?_⟩) hH ?_
            rotate_left
            · intro w hSw; (try dsimp only at hSw); go_simp; try with_reducible rfl
            try simp only [Act.put, List.setIfInBounds_toArray, List.set_cons_zero, List.set_cons_succ]
            refine wpAnyH_take (i := 20) (oi := ({ dst := some 58, op := Go.Op.load 37 (Go.Operand.tmp 3), type := 37, pos := "law.go:121", after := #[{ on := 19, ground := Go.Ground.guard }], guard := some (19, true) } : Oper)) (v := ?_) rfl (by kernel_rfl) (by kernel_rfl) (by kernel_rfl) (fun _ _ _ h => h) (Or.inl ⟨by rfl, ?_⟩) hH ?_
            rotate_left
            · intro w hSw; (try dsimp only at hSw); go_simp; try with_reducible rfl
            try simp only [Act.put, List.setIfInBounds_toArray, List.set_cons_zero, List.set_cons_succ]
            refine wpAnyH_take (i := 21) (oi := ({ dst := some 59, op := Go.Op.move (Go.Operand.tmp 7), type := 3, pos := "law.go:121", after := #[{ on := 19, ground := Go.Ground.guard }], guard := some (19, true) } : Oper)) (v := ?_) rfl (by kernel_rfl) (by kernel_rfl) (by kernel_rfl) (fun _ _ _ h => h) (Or.inl ⟨by rfl, ?_⟩) hH ?_
            rotate_left
            · intro w hSw; (try dsimp only at hSw); go_simp; try with_reducible rfl
            try simp only [Act.put, List.setIfInBounds_toArray, List.set_cons_zero, List.set_cons_succ]
            refine wpAnyH_ready (rs := [22]) (by kernel_rfl) (by simp) ?_
            refine AllReadyH.cons (o := ({ dst := some 60, op := Go.Op.call { callee := Go.Callee.value (Go.Operand.func 43), args := #[Go.Operand.tmp 58, Go.Operand.tmp 59], argTypes := #[37, 3] }, type := 4, pos := "law.go:121", after := #[{ on := 20, ground := Go.Ground.data }, { on := 21, ground := Go.Ground.data }, { on := 19, ground := Go.Ground.chain }, { on := 19, ground := Go.Ground.guard }], guard := some (19, true) } : Oper)) rfl (fun K hK => ?_) AllReadyH.nil
            go_simp
            (go_at_call 43; first | (refine (has_t _ _ _ _ ?_ ?_).mono ?_; omega; omega; rintro e v ⟨rfl, rfl⟩) | (refine (has_f _ _ _ _ ?_).mono ?_; omega; rintro e v ⟨rfl, rfl⟩))
            refine hK.out _ _ (Hx3.t hH (Bl.al _ _)) (fun hH' => ?_)
            clear hH
            have hH := hH'
            clear hH' hK K
            try simp only [Act.put, List.setIfInBounds_toArray, List.set_cons_zero, List.set_cons_succ]
            refine wpAnyH_take (i := 23) (oi := ({ dst := some 61, op := Go.Op.pick (Go.Operand.tmp 57) (Go.Operand.tmp 60) (Go.Operand.const (Go.Value.bool false)), type := 4, pos := "law.go:121", after := #[{ on := 19, ground := Go.Ground.data }, { on := 22, ground := Go.Ground.data }, { on := 16, ground := Go.Ground.guard }], guard := some (16, false) } : Oper)) (v := ?_) rfl (by kernel_rfl) (by kernel_rfl) (by kernel_rfl) (fun _ _ _ h => h) (Or.inl ⟨by rfl, ?_⟩) hH ?_
            rotate_left
            · intro w hSw; (try dsimp only at hSw); go_simp; try with_reducible rfl
            try simp only [Act.put, List.setIfInBounds_toArray, List.set_cons_zero, List.set_cons_succ]
            refine wpAnyH_take (i := 24) (oi := ({ dst := some 62, op := Go.Op.move (Go.Operand.tmp 61), type := 4, pos := "law.go:121", after := #[{ on := 23, ground := Go.Ground.data }, { on := 22, ground := Go.Ground.chain }, { on := 16, ground := Go.Ground.guard }], guard := some (16, false) } : Oper)) (v := ?_) rfl (by kernel_rfl) (by kernel_rfl) (by kernel_rfl) (fun _ _ _ h => h) (Or.inl ⟨by rfl, ?_⟩) hH ?_
            rotate_left
            · intro w hSw; (try dsimp only at hSw); go_simp; try with_reducible rfl
            try simp only [Act.put, List.setIfInBounds_toArray, List.set_cons_zero, List.set_cons_succ]
            refine wpAnyH_take (i := 25) (oi := ({ dst := some 63, op := Go.Op.load 37 (Go.Operand.tmp 4), type := 37, pos := "law.go:121", after := #[{ on := 24, ground := Go.Ground.guard }], guard := some (24, true) } : Oper)) (v := ?_) rfl (by kernel_rfl) (by kernel_rfl) (by kernel_rfl) (fun _ _ _ h => h) (Or.inl ⟨by rfl, ?_⟩) hH ?_
            rotate_left
            · intro w hSw; (try dsimp only at hSw); go_simp; try with_reducible rfl
            try simp only [Act.put, List.setIfInBounds_toArray, List.set_cons_zero, List.set_cons_succ]
            refine wpAnyH_take (i := 26) (oi := ({ dst := some 64, op := Go.Op.move (Go.Operand.tmp 7), type := 3, pos := "law.go:121", after := #[{ on := 24, ground := Go.Ground.guard }], guard := some (24, true) } : Oper)) (v := ?_) rfl (by kernel_rfl) (by kernel_rfl) (by kernel_rfl) (fun _ _ _ h => h) (Or.inl ⟨by rfl, ?_⟩) hH ?_
            rotate_left
            · intro w hSw; (try dsimp only at hSw); go_simp; try with_reducible rfl
            try simp only [Act.put, List.setIfInBounds_toArray, List.set_cons_zero, List.set_cons_succ]
            refine wpAnyH_ready (rs := [27]) (by kernel_rfl) (by simp) ?_
            refine AllReadyH.cons (o := ({ dst := some 65, op := Go.Op.call { callee := Go.Callee.value (Go.Operand.func 43), args := #[Go.Operand.tmp 63, Go.Operand.tmp 64], argTypes := #[37, 3] }, type := 4, pos := "law.go:121", after := #[{ on := 25, ground := Go.Ground.data }, { on := 26, ground := Go.Ground.data }, { on := 24, ground := Go.Ground.chain }, { on := 24, ground := Go.Ground.guard }], guard := some (24, true) } : Oper)) rfl (fun K hK => ?_) AllReadyH.nil
            go_simp
            (go_at_call 43; first | (refine (has_t _ _ _ _ ?_ ?_).mono ?_; omega; omega; rintro e v ⟨rfl, rfl⟩) | (refine (has_f _ _ _ _ ?_).mono ?_; omega; rintro e v ⟨rfl, rfl⟩))
            refine hK.out _ _ (Hx3.t hH (Bl.al _ _)) (fun hH' => ?_)
            clear hH
            have hH := hH'
            clear hH' hK K
            try simp only [Act.put, List.setIfInBounds_toArray, List.set_cons_zero, List.set_cons_succ]
            refine wpAnyH_take (i := 28) (oi := ({ dst := some 66, op := Go.Op.pick (Go.Operand.tmp 62) (Go.Operand.tmp 65) (Go.Operand.const (Go.Value.bool false)), type := 4, pos := "law.go:121", after := #[{ on := 24, ground := Go.Ground.data }, { on := 27, ground := Go.Ground.data }, { on := 16, ground := Go.Ground.guard }], guard := some (16, false) } : Oper)) (v := ?_) rfl (by kernel_rfl) (by kernel_rfl) (by kernel_rfl) (fun _ _ _ h => h) (Or.inl ⟨by rfl, ?_⟩) hH ?_
            rotate_left
            · intro w hSw; (try dsimp only at hSw); go_simp; try with_reducible rfl
            try simp only [Act.put, List.setIfInBounds_toArray, List.set_cons_zero, List.set_cons_succ]
            refine wpAnyH_take (i := 29) (oi := ({ dst := some 67, op := Go.Op.pick (Go.Operand.tmp 54) (Go.Operand.const (Go.Value.bool true)) (Go.Operand.tmp 66), type := 4, pos := "law.go:121", after := #[{ on := 16, ground := Go.Ground.data }, { on := 28, ground := Go.Ground.data }], guard := none } : Oper)) (v := ?_) rfl (by kernel_rfl) (by kernel_rfl) (by kernel_rfl) (fun _ _ _ h => h) (Or.inl ⟨by rfl, ?_⟩) hH ?_
            rotate_left
            · intro w hSw; (try dsimp only at hSw); go_simp; try with_reducible rfl
            try simp only [Act.put, List.setIfInBounds_toArray, List.set_cons_zero, List.set_cons_succ]
            refine wpAnyH_done (by kernel_rfl) ?_ _
            refine NoPanic.normal ?_
            all_goals (go_wp2_with fail; go_meet; exact ⟨rfl, BW.tr hH.1, hH.2.1, hH.2.2.1, hH.2.2.2.1, hH.2.2.2.2.1⟩)
          · have pa' : n < al ∨ ah < n := by omega
            clear hm Hr pa
            obtain ⟨W, hW⟩ : ∃ W, W = w3.alloc (.cells #[.int .i64 0, .int .i64 0] 37) := ⟨_, rfl⟩
            have BW : Bl w W := by rw [hW]; go_grown
            rw [← hW]
            have q00 : W.cell? ⟨w.heap.size, 0, none⟩ = some (.int .i64 al) := by rw [hW]; go_cell
            have q01 : W.cell? ⟨w.heap.size, 1, none⟩ = some (.int .i64 ah) := by rw [hW]; go_cell
            have q10 : W.cell? ⟨w.heap.size + 1, 0, none⟩ = some (.int .i64 bl) := by rw [hW]; go_cell
            have q11 : W.cell? ⟨w.heap.size + 1, 1, none⟩ = some (.int .i64 bh) := by rw [hW]; go_cell
            have q20 : W.cell? ⟨w3.heap.size, 0, none⟩ = some (.int .i64 0) := by rw [hW]; go_cell
            have q21 : W.cell? ⟨w3.heap.size, 1, none⟩ = some (.int .i64 0) := by rw [hW]; go_cell
            clear hW ka0 ka1 kb0 kb1
            have hS : Hx3 W (w.heap.size) (w.heap.size + 1) (w3.heap.size) (.int .i64 al) (.int .i64 ah) (.int .i64 bl) (.int .i64 bh) (.int .i64 0) (.int .i64 0) W := ⟨Bl.rf _, q00, q01, q10, q11, q20, q21, lt_of_cell' q00, lt_of_cell' q10, lt_of_cell' q20⟩
            refine wp_region_noPanic ?_
            refine wp_region_held_drew (S := fun w' => Bl W w' ∧ w'.cell? ⟨w.heap.size, 0, none⟩ = some (.int .i64 al) ∧ w'.cell? ⟨w.heap.size, 1, none⟩ = some (.int .i64 ah) ∧ w'.cell? ⟨w.heap.size + 1, 0, none⟩ = some (.int .i64 bl) ∧ w'.cell? ⟨w.heap.size + 1, 1, none⟩ = some (.int .i64 bh) ∧ w'.cell? ⟨w3.heap.size, 0, none⟩ = some (.int .i64 0) ∧ w'.cell? ⟨w3.heap.size, 1, none⟩ = some (.int .i64 0) ∧ w.heap.size < W.heap.size ∧ w.heap.size + 1 < W.heap.size ∧ w3.heap.size < W.heap.size) (by kernel_rfl) (Hx3.t hS (Bl.dn _ 1)) (fun hH => ?_)
            refine wpAnyH_take (i := 0) (oi := ({ dst := some 38, op := Go.Op.move (Go.Operand.tmp 10), type := 24, pos := "law.go:121", after := #[], guard := none } : Oper)) (v := ?_) rfl (by kernel_rfl) (by kernel_rfl) (by kernel_rfl) (fun _ _ _ h => h) (Or.inl ⟨by rfl, ?_⟩) hH ?_
            rotate_left
            · intro w hSw; (try dsimp only at hSw); go_simp; try with_reducible rfl
            try simp only [Act.put, List.setIfInBounds_toArray, List.set_cons_zero, List.set_cons_succ]
            refine wpAnyH_take (i := 1) (oi := ({ dst := some 39, op := Go.Op.binOp Go.BinOp.eql 24 (Go.Operand.tmp 38) (Go.Operand.const (Go.Value.int Go.IntKind.i64 0)) 24, type := 4, pos := "law.go:121", after := #[{ on := 0, ground := Go.Ground.data }], guard := none } : Oper)) (v := ?_) rfl (by kernel_rfl) (by kernel_rfl) (by kernel_rfl) (fun _ _ _ h => h) (Or.inl ⟨by rfl, ?_⟩) hH ?_
            rotate_left
            · intro w hSw; (try dsimp only at hSw); go_simp; try with_reducible rfl
            try simp only [Act.put, List.setIfInBounds_toArray, List.set_cons_zero, List.set_cons_succ]
            refine wpAnyH_take (i := 2) (oi := ({ dst := some 40, op := Go.Op.move (Go.Operand.tmp 39), type := 4, pos := "law.go:121", after := #[{ on := 1, ground := Go.Ground.data }], guard := none } : Oper)) (v := ?_) rfl (by kernel_rfl) (by kernel_rfl) (by kernel_rfl) (fun _ _ _ h => h) (Or.inl ⟨by rfl, ?_⟩) hH ?_
            rotate_left
            · intro w hSw; (try dsimp only at hSw); go_simp; try with_reducible rfl
            try simp only [Act.put, List.setIfInBounds_toArray, List.set_cons_zero, List.set_cons_succ]
            refine wpAnyH_take (i := 3) (oi := ({ dst := some 41, op := Go.Op.load 37 (Go.Operand.tmp 9), type := 37, pos := "law.go:121", after := #[{ on := 2, ground := Go.Ground.guard }], guard := some (2, true) } : Oper)) (v := undef) rfl (by kernel_rfl) (by kernel_rfl) (by kernel_rfl) (fun _ _ _ h => h) (Or.inr ⟨by rfl, rfl⟩) hH ?_
            try simp only [Act.put, List.setIfInBounds_toArray, List.set_cons_zero, List.set_cons_succ]
            refine wpAnyH_take (i := 4) (oi := ({ dst := some 42, op := Go.Op.move (Go.Operand.tmp 7), type := 3, pos := "law.go:121", after := #[{ on := 2, ground := Go.Ground.guard }], guard := some (2, true) } : Oper)) (v := undef) rfl (by kernel_rfl) (by kernel_rfl) (by kernel_rfl) (fun _ _ _ h => h) (Or.inr ⟨by rfl, rfl⟩) hH ?_
            try simp only [Act.put, List.setIfInBounds_toArray, List.set_cons_zero, List.set_cons_succ]
            refine wpAnyH_take (i := 6) (oi := ({ dst := some 44, op := Go.Op.load 37 (Go.Operand.tmp 3), type := 37, pos := "law.go:121", after := #[{ on := 2, ground := Go.Ground.guard }], guard := some (2, true) } : Oper)) (v := undef) rfl (by kernel_rfl) (by kernel_rfl) (by kernel_rfl) (fun _ _ _ h => h) (Or.inr ⟨by rfl, rfl⟩) hH ?_
            try simp only [Act.put, List.setIfInBounds_toArray, List.set_cons_zero, List.set_cons_succ]
            refine wpAnyH_take (i := 7) (oi := ({ dst := some 45, op := Go.Op.move (Go.Operand.tmp 7), type := 3, pos := "law.go:121", after := #[{ on := 2, ground := Go.Ground.guard }], guard := some (2, true) } : Oper)) (v := undef) rfl (by kernel_rfl) (by kernel_rfl) (by kernel_rfl) (fun _ _ _ h => h) (Or.inr ⟨by rfl, rfl⟩) hH ?_
            try simp only [Act.put, List.setIfInBounds_toArray, List.set_cons_zero, List.set_cons_succ]
            refine wpAnyH_ready (rs := [5]) (by kernel_rfl) (by simp) ?_
            refine AllReadyH.cons (o := ({ dst := some 43, op := Go.Op.call { callee := Go.Callee.value (Go.Operand.func 43), args := #[Go.Operand.tmp 41, Go.Operand.tmp 42], argTypes := #[37, 3] }, type := 4, pos := "law.go:121", after := #[{ on := 3, ground := Go.Ground.data }, { on := 4, ground := Go.Ground.data }, { on := 2, ground := Go.Ground.chain }, { on := 2, ground := Go.Ground.guard }], guard := some (2, true) } : Oper)) rfl (fun K hK => ?_) AllReadyH.nil
            refine iteInduction (motive := fun p => p) (fun h => absurd (show false = true from h) Bool.false_ne_true) (fun _ => ?_)
            refine hK.out _ _ hH (fun hH' => ?_)
            clear hH' hK K
            try simp only [Act.put, List.setIfInBounds_toArray, List.set_cons_zero, List.set_cons_succ]
            refine wpAnyH_ready (rs := [8]) (by kernel_rfl) (by simp) ?_
            refine AllReadyH.cons (o := ({ dst := some 46, op := Go.Op.call { callee := Go.Callee.value (Go.Operand.func 43), args := #[Go.Operand.tmp 44, Go.Operand.tmp 45], argTypes := #[37, 3] }, type := 4, pos := "law.go:121", after := #[{ on := 6, ground := Go.Ground.data }, { on := 7, ground := Go.Ground.data }, { on := 5, ground := Go.Ground.chain }, { on := 2, ground := Go.Ground.guard }], guard := some (2, true) } : Oper)) rfl (fun K hK => ?_) AllReadyH.nil
            refine iteInduction (motive := fun p => p) (fun h => absurd (show false = true from h) Bool.false_ne_true) (fun _ => ?_)
            refine hK.out _ _ hH (fun hH' => ?_)
            clear hH' hK K
            try simp only [Act.put, List.setIfInBounds_toArray, List.set_cons_zero, List.set_cons_succ]
            refine wpAnyH_take (i := 9) (oi := ({ dst := some 47, op := Go.Op.move (Go.Operand.tmp 46), type := 4, pos := "law.go:121", after := #[{ on := 8, ground := Go.Ground.data }, { on := 8, ground := Go.Ground.chain }, { on := 2, ground := Go.Ground.guard }], guard := some (2, true) } : Oper)) (v := undef) rfl (by kernel_rfl) (by kernel_rfl) (by kernel_rfl) (fun _ _ _ h => h) (Or.inr ⟨by rfl, rfl⟩) hH ?_
            try simp only [Act.put, List.setIfInBounds_toArray, List.set_cons_zero, List.set_cons_succ]
            refine wpAnyH_take (i := 10) (oi := ({ dst := some 48, op := Go.Op.load 37 (Go.Operand.tmp 4), type := 37, pos := "law.go:121", after := #[{ on := 9, ground := Go.Ground.guard }], guard := some (9, true) } : Oper)) (v := undef) rfl (by kernel_rfl) (by kernel_rfl) (by kernel_rfl) (fun _ _ _ h => h) (Or.inr ⟨by rfl, rfl⟩) hH ?_
            try simp only [Act.put, List.setIfInBounds_toArray, List.set_cons_zero, List.set_cons_succ]
            refine wpAnyH_take (i := 11) (oi := ({ dst := some 49, op := Go.Op.move (Go.Operand.tmp 7), type := 3, pos := "law.go:121", after := #[{ on := 9, ground := Go.Ground.guard }], guard := some (9, true) } : Oper)) (v := undef) rfl (by kernel_rfl) (by kernel_rfl) (by kernel_rfl) (fun _ _ _ h => h) (Or.inr ⟨by rfl, rfl⟩) hH ?_
            try simp only [Act.put, List.setIfInBounds_toArray, List.set_cons_zero, List.set_cons_succ]
            refine wpAnyH_ready (rs := [12]) (by kernel_rfl) (by simp) ?_
            refine AllReadyH.cons (o := ({ dst := some 50, op := Go.Op.call { callee := Go.Callee.value (Go.Operand.func 43), args := #[Go.Operand.tmp 48, Go.Operand.tmp 49], argTypes := #[37, 3] }, type := 4, pos := "law.go:121", after := #[{ on := 10, ground := Go.Ground.data }, { on := 11, ground := Go.Ground.data }, { on := 9, ground := Go.Ground.chain }, { on := 9, ground := Go.Ground.guard }], guard := some (9, true) } : Oper)) rfl (fun K hK => ?_) AllReadyH.nil
            refine iteInduction (motive := fun p => p) (fun h => absurd (show false = true from h) Bool.false_ne_true) (fun _ => ?_)
            refine hK.out _ _ hH (fun hH' => ?_)
            clear hH' hK K
            try simp only [Act.put, List.setIfInBounds_toArray, List.set_cons_zero, List.set_cons_succ]
            refine wpAnyH_take (i := 13) (oi := ({ dst := some 51, op := Go.Op.pick (Go.Operand.tmp 47) (Go.Operand.tmp 50) (Go.Operand.const (Go.Value.bool false)), type := 4, pos := "law.go:121", after := #[{ on := 9, ground := Go.Ground.data }, { on := 12, ground := Go.Ground.data }, { on := 2, ground := Go.Ground.guard }], guard := some (2, true) } : Oper)) (v := undef) rfl (by kernel_rfl) (by kernel_rfl) (by kernel_rfl) (fun _ _ _ h => h) (Or.inr ⟨by rfl, rfl⟩) hH ?_
            try simp only [Act.put, List.setIfInBounds_toArray, List.set_cons_zero, List.set_cons_succ]
            refine wpAnyH_take (i := 14) (oi := ({ dst := some 52, op := Go.Op.binOp Go.BinOp.neq 4 (Go.Operand.tmp 43) (Go.Operand.tmp 51) 4, type := 4, pos := "law.go:121", after := #[{ on := 5, ground := Go.Ground.data }, { on := 13, ground := Go.Ground.data }, { on := 2, ground := Go.Ground.guard }], guard := some (2, true) } : Oper)) (v := undef) rfl (by kernel_rfl) (by kernel_rfl) (by kernel_rfl) (fun _ _ _ h => h) (Or.inr ⟨by rfl, rfl⟩) hH ?_
            try simp only [Act.put, List.setIfInBounds_toArray, List.set_cons_zero, List.set_cons_succ]
            refine wpAnyH_take (i := 15) (oi := ({ dst := some 53, op := Go.Op.pick (Go.Operand.tmp 40) (Go.Operand.tmp 52) (Go.Operand.const (Go.Value.bool false)), type := 4, pos := "law.go:121", after := #[{ on := 2, ground := Go.Ground.data }, { on := 14, ground := Go.Ground.data }], guard := none } : Oper)) (v := ?_) rfl (by kernel_rfl) (by kernel_rfl) (by kernel_rfl) (fun _ _ _ h => h) (Or.inl ⟨by rfl, ?_⟩) hH ?_
            rotate_left
            · intro w hSw; (try dsimp only at hSw); go_simp; try with_reducible rfl
            try simp only [Act.put, List.setIfInBounds_toArray, List.set_cons_zero, List.set_cons_succ]
            refine wpAnyH_take (i := 16) (oi := ({ dst := some 54, op := Go.Op.move (Go.Operand.tmp 53), type := 4, pos := "law.go:121", after := #[{ on := 15, ground := Go.Ground.data }, { on := 12, ground := Go.Ground.chain }], guard := none } : Oper)) (v := ?_) rfl (by kernel_rfl) (by kernel_rfl) (by kernel_rfl) (fun _ _ _ h => h) (Or.inl ⟨by rfl, ?_⟩) hH ?_
            rotate_left
            · intro w hSw; (try dsimp only at hSw); go_simp; try with_reducible rfl
            try simp only [Act.put, List.setIfInBounds_toArray, List.set_cons_zero, List.set_cons_succ]
            refine wpAnyH_take (i := 17) (oi := ({ dst := some 55, op := Go.Op.move (Go.Operand.tmp 10), type := 24, pos := "law.go:121", after := #[{ on := 16, ground := Go.Ground.guard }], guard := some (16, false) } : Oper)) (v := ?_) rfl (by kernel_rfl) (by kernel_rfl) (by kernel_rfl) (fun _ _ _ h => h) (Or.inl ⟨by rfl, ?_⟩) hH ?_
            rotate_left
            · intro w hSw; (try dsimp only at hSw); go_simp; try with_reducible rfl
            try simp only [Act.put, List.setIfInBounds_toArray, List.set_cons_zero, List.set_cons_succ]
            refine wpAnyH_take (i := 18) (oi := ({ dst := some 56, op := Go.Op.binOp Go.BinOp.eql 24 (Go.Operand.tmp 55) (Go.Operand.const (Go.Value.int Go.IntKind.i64 8)) 24, type := 4, pos := "law.go:121", after := #[{ on := 17, ground := Go.Ground.data }, { on := 16, ground := Go.Ground.guard }], guard := some (16, false) } : Oper)) (v := ?_) rfl (by kernel_rfl) (by kernel_rfl) (by kernel_rfl) (fun _ _ _ h => h) (Or.inl ⟨by rfl, ?_⟩) hH ?_
            rotate_left
            · intro w hSw; (try dsimp only at hSw); go_simp; try with_reducible rfl
            try simp only [Act.put, List.setIfInBounds_toArray, List.set_cons_zero, List.set_cons_succ]
            refine wpAnyH_take (i := 19) (oi := ({ dst := some 57, op := Go.Op.move (Go.Operand.tmp 56), type := 4, pos := "law.go:121", after := #[{ on := 18, ground := Go.Ground.data }, { on := 16, ground := Go.Ground.chain }, { on := 16, ground := Go.Ground.guard }], guard := some (16, false) } : Oper)) (v := ?_) rfl (by kernel_rfl) (by kernel_rfl) (by kernel_rfl) (fun _ _ _ h => h) (Or.inl ⟨by rfl, ?_⟩) hH ?_
            rotate_left
            · intro w hSw; (try dsimp only at hSw); go_simp; try with_reducible rfl
            try simp only [Act.put, List.setIfInBounds_toArray, List.set_cons_zero, List.set_cons_succ]
            refine wpAnyH_take (i := 20) (oi := ({ dst := some 58, op := Go.Op.load 37 (Go.Operand.tmp 3), type := 37, pos := "law.go:121", after := #[{ on := 19, ground := Go.Ground.guard }], guard := some (19, true) } : Oper)) (v := ?_) rfl (by kernel_rfl) (by kernel_rfl) (by kernel_rfl) (fun _ _ _ h => h) (Or.inl ⟨by rfl, ?_⟩) hH ?_
            rotate_left
            · intro w hSw; (try dsimp only at hSw); go_simp; try with_reducible rfl
            try simp only [Act.put, List.setIfInBounds_toArray, List.set_cons_zero, List.set_cons_succ]
            refine wpAnyH_take (i := 21) (oi := ({ dst := some 59, op := Go.Op.move (Go.Operand.tmp 7), type := 3, pos := "law.go:121", after := #[{ on := 19, ground := Go.Ground.guard }], guard := some (19, true) } : Oper)) (v := ?_) rfl (by kernel_rfl) (by kernel_rfl) (by kernel_rfl) (fun _ _ _ h => h) (Or.inl ⟨by rfl, ?_⟩) hH ?_
            rotate_left
            · intro w hSw; (try dsimp only at hSw); go_simp; try with_reducible rfl
            try simp only [Act.put, List.setIfInBounds_toArray, List.set_cons_zero, List.set_cons_succ]
            refine wpAnyH_ready (rs := [22]) (by kernel_rfl) (by simp) ?_
            refine AllReadyH.cons (o := ({ dst := some 60, op := Go.Op.call { callee := Go.Callee.value (Go.Operand.func 43), args := #[Go.Operand.tmp 58, Go.Operand.tmp 59], argTypes := #[37, 3] }, type := 4, pos := "law.go:121", after := #[{ on := 20, ground := Go.Ground.data }, { on := 21, ground := Go.Ground.data }, { on := 19, ground := Go.Ground.chain }, { on := 19, ground := Go.Ground.guard }], guard := some (19, true) } : Oper)) rfl (fun K hK => ?_) AllReadyH.nil
            go_simp
            (go_at_call 43; first | (refine (has_t _ _ _ _ ?_ ?_).mono ?_; omega; omega; rintro e v ⟨rfl, rfl⟩) | (refine (has_f _ _ _ _ ?_).mono ?_; omega; rintro e v ⟨rfl, rfl⟩))
            refine hK.out _ _ (Hx3.t hH (Bl.al _ _)) (fun hH' => ?_)
            clear hH
            have hH := hH'
            clear hH' hK K
            try simp only [Act.put, List.setIfInBounds_toArray, List.set_cons_zero, List.set_cons_succ]
            refine wpAnyH_take (i := 23) (oi := ({ dst := some 61, op := Go.Op.pick (Go.Operand.tmp 57) (Go.Operand.tmp 60) (Go.Operand.const (Go.Value.bool false)), type := 4, pos := "law.go:121", after := #[{ on := 19, ground := Go.Ground.data }, { on := 22, ground := Go.Ground.data }, { on := 16, ground := Go.Ground.guard }], guard := some (16, false) } : Oper)) (v := ?_) rfl (by kernel_rfl) (by kernel_rfl) (by kernel_rfl) (fun _ _ _ h => h) (Or.inl ⟨by rfl, ?_⟩) hH ?_
            rotate_left
            · intro w hSw; (try dsimp only at hSw); go_simp; try with_reducible rfl
            try simp only [Act.put, List.setIfInBounds_toArray, List.set_cons_zero, List.set_cons_succ]
            refine wpAnyH_take (i := 24) (oi := ({ dst := some 62, op := Go.Op.move (Go.Operand.tmp 61), type := 4, pos := "law.go:121", after := #[{ on := 23, ground := Go.Ground.data }, { on := 22, ground := Go.Ground.chain }, { on := 16, ground := Go.Ground.guard }], guard := some (16, false) } : Oper)) (v := ?_) rfl (by kernel_rfl) (by kernel_rfl) (by kernel_rfl) (fun _ _ _ h => h) (Or.inl ⟨by rfl, ?_⟩) hH ?_
            rotate_left
            · intro w hSw; (try dsimp only at hSw); go_simp; try with_reducible rfl
            try simp only [Act.put, List.setIfInBounds_toArray, List.set_cons_zero, List.set_cons_succ]
            refine wpAnyH_take (i := 25) (oi := ({ dst := some 63, op := Go.Op.load 37 (Go.Operand.tmp 4), type := 37, pos := "law.go:121", after := #[{ on := 24, ground := Go.Ground.guard }], guard := some (24, true) } : Oper)) (v := undef) rfl (by kernel_rfl) (by kernel_rfl) (by kernel_rfl) (fun _ _ _ h => h) (Or.inr ⟨by rfl, rfl⟩) hH ?_
            try simp only [Act.put, List.setIfInBounds_toArray, List.set_cons_zero, List.set_cons_succ]
            refine wpAnyH_take (i := 26) (oi := ({ dst := some 64, op := Go.Op.move (Go.Operand.tmp 7), type := 3, pos := "law.go:121", after := #[{ on := 24, ground := Go.Ground.guard }], guard := some (24, true) } : Oper)) (v := undef) rfl (by kernel_rfl) (by kernel_rfl) (by kernel_rfl) (fun _ _ _ h => h) (Or.inr ⟨by rfl, rfl⟩) hH ?_
            try simp only [Act.put, List.setIfInBounds_toArray, List.set_cons_zero, List.set_cons_succ]
            refine wpAnyH_ready (rs := [27]) (by kernel_rfl) (by simp) ?_
            refine AllReadyH.cons (o := ({ dst := some 65, op := Go.Op.call { callee := Go.Callee.value (Go.Operand.func 43), args := #[Go.Operand.tmp 63, Go.Operand.tmp 64], argTypes := #[37, 3] }, type := 4, pos := "law.go:121", after := #[{ on := 25, ground := Go.Ground.data }, { on := 26, ground := Go.Ground.data }, { on := 24, ground := Go.Ground.chain }, { on := 24, ground := Go.Ground.guard }], guard := some (24, true) } : Oper)) rfl (fun K hK => ?_) AllReadyH.nil
            refine iteInduction (motive := fun p => p) (fun h => absurd (show false = true from h) Bool.false_ne_true) (fun _ => ?_)
            refine hK.out _ _ hH (fun hH' => ?_)
            clear hH' hK K
            try simp only [Act.put, List.setIfInBounds_toArray, List.set_cons_zero, List.set_cons_succ]
            refine wpAnyH_take (i := 28) (oi := ({ dst := some 66, op := Go.Op.pick (Go.Operand.tmp 62) (Go.Operand.tmp 65) (Go.Operand.const (Go.Value.bool false)), type := 4, pos := "law.go:121", after := #[{ on := 24, ground := Go.Ground.data }, { on := 27, ground := Go.Ground.data }, { on := 16, ground := Go.Ground.guard }], guard := some (16, false) } : Oper)) (v := ?_) rfl (by kernel_rfl) (by kernel_rfl) (by kernel_rfl) (fun _ _ _ h => h) (Or.inl ⟨by rfl, ?_⟩) hH ?_
            rotate_left
            · intro w hSw; (try dsimp only at hSw); go_simp; try with_reducible rfl
            try simp only [Act.put, List.setIfInBounds_toArray, List.set_cons_zero, List.set_cons_succ]
            refine wpAnyH_take (i := 29) (oi := ({ dst := some 67, op := Go.Op.pick (Go.Operand.tmp 54) (Go.Operand.const (Go.Value.bool true)) (Go.Operand.tmp 66), type := 4, pos := "law.go:121", after := #[{ on := 16, ground := Go.Ground.data }, { on := 28, ground := Go.Ground.data }], guard := none } : Oper)) (v := ?_) rfl (by kernel_rfl) (by kernel_rfl) (by kernel_rfl) (fun _ _ _ h => h) (Or.inl ⟨by rfl, ?_⟩) hH ?_
            rotate_left
            · intro w hSw; (try dsimp only at hSw); go_simp; try with_reducible rfl
            try simp only [Act.put, List.setIfInBounds_toArray, List.set_cons_zero, List.set_cons_succ]
            refine wpAnyH_done (by kernel_rfl) ?_ _
            refine NoPanic.normal ?_
            all_goals (go_wp2_with fail; go_meet; exact ⟨rfl, BW.tr hH.1, hH.2.1, hH.2.2.1, hH.2.2.2.1, hH.2.2.2.2.1⟩)
        · obtain ⟨lo, hlo⟩ : ∃ x, max al bl = x := ⟨_, rfl⟩
          obtain ⟨hi, hhi⟩ : ∃ x, min ah bh = x := ⟨_, rfl⟩
          obtain rfl : (lo, hi, (0 : Int)) = r := by rw [← Hr.out, if_neg hm, hlo, hhi]
          obtain ⟨l1, l2, l3, l4⟩ : al ≤ lo ∧ bl ≤ lo ∧ hi ≤ ah ∧ hi ≤ bh := by omega
          by_cases pa : al ≤ n ∧ n ≤ ah
          · obtain ⟨p1, p2⟩ := pa
            by_cases pb : bl ≤ n ∧ n ≤ bh
            · obtain ⟨p3, p4⟩ := pb
              obtain ⟨p5, p6⟩ : lo ≤ n ∧ n ≤ hi := by omega
              clear hm hlo hhi Hr
              obtain ⟨W, hW⟩ : ∃ W, W = w3.alloc (.cells #[.int .i64 lo, .int .i64 hi] 37) := ⟨_, rfl⟩
              have BW : Bl w W := by rw [hW]; go_grown
              rw [← hW]
              have q00 : W.cell? ⟨w.heap.size, 0, none⟩ = some (.int .i64 al) := by rw [hW]; go_cell
              have q01 : W.cell? ⟨w.heap.size, 1, none⟩ = some (.int .i64 ah) := by rw [hW]; go_cell
              have q10 : W.cell? ⟨w.heap.size + 1, 0, none⟩ = some (.int .i64 bl) := by rw [hW]; go_cell
              have q11 : W.cell? ⟨w.heap.size + 1, 1, none⟩ = some (.int .i64 bh) := by rw [hW]; go_cell
              have q20 : W.cell? ⟨w3.heap.size, 0, none⟩ = some (.int .i64 lo) := by rw [hW]; go_cell
              have q21 : W.cell? ⟨w3.heap.size, 1, none⟩ = some (.int .i64 hi) := by rw [hW]; go_cell
              clear hW ka0 ka1 kb0 kb1
              have hS : Hx3 W (w.heap.size) (w.heap.size + 1) (w3.heap.size) (.int .i64 al) (.int .i64 ah) (.int .i64 bl) (.int .i64 bh) (.int .i64 lo) (.int .i64 hi) W := ⟨Bl.rf _, q00, q01, q10, q11, q20, q21, lt_of_cell' q00, lt_of_cell' q10, lt_of_cell' q20⟩
              refine wp_region_noPanic ?_
              refine wp_region_held_drew (S := fun w' => Bl W w' ∧ w'.cell? ⟨w.heap.size, 0, none⟩ = some (.int .i64 al) ∧ w'.cell? ⟨w.heap.size, 1, none⟩ = some (.int .i64 ah) ∧ w'.cell? ⟨w.heap.size + 1, 0, none⟩ = some (.int .i64 bl) ∧ w'.cell? ⟨w.heap.size + 1, 1, none⟩ = some (.int .i64 bh) ∧ w'.cell? ⟨w3.heap.size, 0, none⟩ = some (.int .i64 lo) ∧ w'.cell? ⟨w3.heap.size, 1, none⟩ = some (.int .i64 hi) ∧ w.heap.size < W.heap.size ∧ w.heap.size + 1 < W.heap.size ∧ w3.heap.size < W.heap.size) (by kernel_rfl) (Hx3.t hS (Bl.dn _ 1)) (fun hH => ?_)
              refine wpAnyH_take (i := 0) (oi := ({ dst := some 38, op := Go.Op.move (Go.Operand.tmp 10), type := 24, pos := "law.go:121", after := #[], guard := none } : Oper)) (v := ?_) rfl (by kernel_rfl) (by kernel_rfl) (by kernel_rfl) (fun _ _ _ h => h) (Or.inl ⟨by rfl, ?_⟩) hH ?_
              rotate_left
              · intro w hSw; (try dsimp only at hSw); go_simp; try with_reducible rfl
              try simp only [Act.put, List.setIfInBounds_toArray, List.set_cons_zero, List.set_cons_succ]
              refine wpAnyH_take (i := 1) (oi := ({ dst := some 39, op := Go.Op.binOp Go.BinOp.eql 24 (Go.Operand.tmp 38) (Go.Operand.const (Go.Value.int Go.IntKind.i64 0)) 24, type := 4, pos := "law.go:121", after := #[{ on := 0, ground := Go.Ground.data }], guard := none } : Oper)) (v := ?_) rfl (by kernel_rfl) (by kernel_rfl) (by kernel_rfl) (fun _ _ _ h => h) (Or.inl ⟨by rfl, ?_⟩) hH ?_
              rotate_left
              · intro w hSw; (try dsimp only at hSw); go_simp; try with_reducible rfl
              try simp only [Act.put, List.setIfInBounds_toArray, List.set_cons_zero, List.set_cons_succ]
              refine wpAnyH_take (i := 2) (oi := ({ dst := some 40, op := Go.Op.move (Go.Operand.tmp 39), type := 4, pos := "law.go:121", after := #[{ on := 1, ground := Go.Ground.data }], guard := none } : Oper)) (v := ?_) rfl (by kernel_rfl) (by kernel_rfl) (by kernel_rfl) (fun _ _ _ h => h) (Or.inl ⟨by rfl, ?_⟩) hH ?_
              rotate_left
              · intro w hSw; (try dsimp only at hSw); go_simp; try with_reducible rfl
              try simp only [Act.put, List.setIfInBounds_toArray, List.set_cons_zero, List.set_cons_succ]
              refine wpAnyH_take (i := 3) (oi := ({ dst := some 41, op := Go.Op.load 37 (Go.Operand.tmp 9), type := 37, pos := "law.go:121", after := #[{ on := 2, ground := Go.Ground.guard }], guard := some (2, true) } : Oper)) (v := ?_) rfl (by kernel_rfl) (by kernel_rfl) (by kernel_rfl) (fun _ _ _ h => h) (Or.inl ⟨by rfl, ?_⟩) hH ?_
              rotate_left
              · intro w hSw; (try dsimp only at hSw); go_simp; try with_reducible rfl
              try simp only [Act.put, List.setIfInBounds_toArray, List.set_cons_zero, List.set_cons_succ]
              refine wpAnyH_take (i := 4) (oi := ({ dst := some 42, op := Go.Op.move (Go.Operand.tmp 7), type := 3, pos := "law.go:121", after := #[{ on := 2, ground := Go.Ground.guard }], guard := some (2, true) } : Oper)) (v := ?_) rfl (by kernel_rfl) (by kernel_rfl) (by kernel_rfl) (fun _ _ _ h => h) (Or.inl ⟨by rfl, ?_⟩) hH ?_
              rotate_left
              · intro w hSw; (try dsimp only at hSw); go_simp; try with_reducible rfl
              try simp only [Act.put, List.setIfInBounds_toArray, List.set_cons_zero, List.set_cons_succ]
              refine wpAnyH_take (i := 6) (oi := ({ dst := some 44, op := Go.Op.load 37 (Go.Operand.tmp 3), type := 37, pos := "law.go:121", after := #[{ on := 2, ground := Go.Ground.guard }], guard := some (2, true) } : Oper)) (v := ?_) rfl (by kernel_rfl) (by kernel_rfl) (by kernel_rfl) (fun _ _ _ h => h) (Or.inl ⟨by rfl, ?_⟩) hH ?_
              rotate_left
              · intro w hSw; (try dsimp only at hSw); go_simp; try with_reducible rfl
              try simp only [Act.put, List.setIfInBounds_toArray, List.set_cons_zero, List.set_cons_succ]
              refine wpAnyH_take (i := 7) (oi := ({ dst := some 45, op := Go.Op.move (Go.Operand.tmp 7), type := 3, pos := "law.go:121", after := #[{ on := 2, ground := Go.Ground.guard }], guard := some (2, true) } : Oper)) (v := ?_) rfl (by kernel_rfl) (by kernel_rfl) (by kernel_rfl) (fun _ _ _ h => h) (Or.inl ⟨by rfl, ?_⟩) hH ?_
              rotate_left
              · intro w hSw; (try dsimp only at hSw); go_simp; try with_reducible rfl
              try simp only [Act.put, List.setIfInBounds_toArray, List.set_cons_zero, List.set_cons_succ]
              refine wpAnyH_ready (rs := [5]) (by kernel_rfl) (by simp) ?_
              refine AllReadyH.cons (o := ({ dst := some 43, op := Go.Op.call { callee := Go.Callee.value (Go.Operand.func 43), args := #[Go.Operand.tmp 41, Go.Operand.tmp 42], argTypes := #[37, 3] }, type := 4, pos := "law.go:121", after := #[{ on := 3, ground := Go.Ground.data }, { on := 4, ground := Go.Ground.data }, { on := 2, ground := Go.Ground.chain }, { on := 2, ground := Go.Ground.guard }], guard := some (2, true) } : Oper)) rfl (fun K hK => ?_) AllReadyH.nil
              go_simp
              (go_at_call 43; first | (refine (has_t _ _ _ _ ?_ ?_).mono ?_; omega; omega; rintro e v ⟨rfl, rfl⟩) | (refine (has_f _ _ _ _ ?_).mono ?_; omega; rintro e v ⟨rfl, rfl⟩))
              refine hK.out _ _ (Hx3.t hH (Bl.al _ _)) (fun hH' => ?_)
              clear hH
              have hH := hH'
              clear hH' hK K
              try simp only [Act.put, List.setIfInBounds_toArray, List.set_cons_zero, List.set_cons_succ]
              refine wpAnyH_ready (rs := [8]) (by kernel_rfl) (by simp) ?_
              refine AllReadyH.cons (o := ({ dst := some 46, op := Go.Op.call { callee := Go.Callee.value (Go.Operand.func 43), args := #[Go.Operand.tmp 44, Go.Operand.tmp 45], argTypes := #[37, 3] }, type := 4, pos := "law.go:121", after := #[{ on := 6, ground := Go.Ground.data }, { on := 7, ground := Go.Ground.data }, { on := 5, ground := Go.Ground.chain }, { on := 2, ground := Go.Ground.guard }], guard := some (2, true) } : Oper)) rfl (fun K hK => ?_) AllReadyH.nil
              go_simp
              (go_at_call 43; first | (refine (has_t _ _ _ _ ?_ ?_).mono ?_; omega; omega; rintro e v ⟨rfl, rfl⟩) | (refine (has_f _ _ _ _ ?_).mono ?_; omega; rintro e v ⟨rfl, rfl⟩))
              refine hK.out _ _ (Hx3.t hH (Bl.al _ _)) (fun hH' => ?_)
              clear hH
              have hH := hH'
              clear hH' hK K
              try simp only [Act.put, List.setIfInBounds_toArray, List.set_cons_zero, List.set_cons_succ]
              refine wpAnyH_take (i := 9) (oi := ({ dst := some 47, op := Go.Op.move (Go.Operand.tmp 46), type := 4, pos := "law.go:121", after := #[{ on := 8, ground := Go.Ground.data }, { on := 8, ground := Go.Ground.chain }, { on := 2, ground := Go.Ground.guard }], guard := some (2, true) } : Oper)) (v := ?_) rfl (by kernel_rfl) (by kernel_rfl) (by kernel_rfl) (fun _ _ _ h => h) (Or.inl ⟨by rfl, ?_⟩) hH ?_
              rotate_left
              · intro w hSw; (try dsimp only at hSw); go_simp; try with_reducible rfl
              try simp only [Act.put, List.setIfInBounds_toArray, List.set_cons_zero, List.set_cons_succ]
              refine wpAnyH_take (i := 10) (oi := ({ dst := some 48, op := Go.Op.load 37 (Go.Operand.tmp 4), type := 37, pos := "law.go:121", after := #[{ on := 9, ground := Go.Ground.guard }], guard := some (9, true) } : Oper)) (v := ?_) rfl (by kernel_rfl) (by kernel_rfl) (by kernel_rfl) (fun _ _ _ h => h) (Or.inl ⟨by rfl, ?_⟩) hH ?_
              rotate_left
              · intro w hSw; (try dsimp only at hSw); go_simp; try with_reducible rfl
              try simp only [Act.put, List.setIfInBounds_toArray, List.set_cons_zero, List.set_cons_succ]
              refine wpAnyH_take (i := 11) (oi := ({ dst := some 49, op := Go.Op.move (Go.Operand.tmp 7), type := 3, pos := "law.go:121", after := #[{ on := 9, ground := Go.Ground.guard }], guard := some (9, true) } : Oper)) (v := ?_) rfl (by kernel_rfl) (by kernel_rfl) (by kernel_rfl) (fun _ _ _ h => h) (Or.inl ⟨by rfl, ?_⟩) hH ?_
              rotate_left
              · intro w hSw; (try dsimp only at hSw); go_simp; try with_reducible rfl
              try simp only [Act.put, List.setIfInBounds_toArray, List.set_cons_zero, List.set_cons_succ]
              refine wpAnyH_ready (rs := [12]) (by kernel_rfl) (by simp) ?_
              refine AllReadyH.cons (o := ({ dst := some 50, op := Go.Op.call { callee := Go.Callee.value (Go.Operand.func 43), args := #[Go.Operand.tmp 48, Go.Operand.tmp 49], argTypes := #[37, 3] }, type := 4, pos := "law.go:121", after := #[{ on := 10, ground := Go.Ground.data }, { on := 11, ground := Go.Ground.data }, { on := 9, ground := Go.Ground.chain }, { on := 9, ground := Go.Ground.guard }], guard := some (9, true) } : Oper)) rfl (fun K hK => ?_) AllReadyH.nil
              go_simp
              (go_at_call 43; first | (refine (has_t _ _ _ _ ?_ ?_).mono ?_; omega; omega; rintro e v ⟨rfl, rfl⟩) | (refine (has_f _ _ _ _ ?_).mono ?_; omega; rintro e v ⟨rfl, rfl⟩))
              refine hK.out _ _ (Hx3.t hH (Bl.al _ _)) (fun hH' => ?_)
              clear hH
              have hH := hH'
              clear hH' hK K
              try simp only [Act.put, List.setIfInBounds_toArray, List.set_cons_zero, List.set_cons_succ]
              refine wpAnyH_take (i := 13) (oi := ({ dst := some 51, op := Go.Op.pick (Go.Operand.tmp 47) (Go.Operand.tmp 50) (Go.Operand.const (Go.Value.bool false)), type := 4, pos := "law.go:121", after := #[{ on := 9, ground := Go.Ground.data }, { on := 12, ground := Go.Ground.data }, { on := 2, ground := Go.Ground.guard }], guard := some (2, true) } : Oper)) (v := ?_) rfl (by kernel_rfl) (by kernel_rfl) (by kernel_rfl) (fun _ _ _ h => h) (Or.inl ⟨by rfl, ?_⟩) hH ?_
              rotate_left
              · intro w hSw; (try dsimp only at hSw); go_simp; try with_reducible rfl
              try simp only [Act.put, List.setIfInBounds_toArray, List.set_cons_zero, List.set_cons_succ]
              refine wpAnyH_take (i := 14) (oi := ({ dst := some 52, op := Go.Op.binOp Go.BinOp.neq 4 (Go.Operand.tmp 43) (Go.Operand.tmp 51) 4, type := 4, pos := "law.go:121", after := #[{ on := 5, ground := Go.Ground.data }, { on := 13, ground := Go.Ground.data }, { on := 2, ground := Go.Ground.guard }], guard := some (2, true) } : Oper)) (v := ?_) rfl (by kernel_rfl) (by kernel_rfl) (by kernel_rfl) (fun _ _ _ h => h) (Or.inl ⟨by rfl, ?_⟩) hH ?_
              rotate_left
              · intro w hSw; (try dsimp only at hSw); go_simp; try with_reducible rfl
              try simp only [Act.put, List.setIfInBounds_toArray, List.set_cons_zero, List.set_cons_succ]
              refine wpAnyH_take (i := 15) (oi := ({ dst := some 53, op := Go.Op.pick (Go.Operand.tmp 40) (Go.Operand.tmp 52) (Go.Operand.const (Go.Value.bool false)), type := 4, pos := "law.go:121", after := #[{ on := 2, ground := Go.Ground.data }, { on := 14, ground := Go.Ground.data }], guard := none } : Oper)) (v := ?_) rfl (by kernel_rfl) (by kernel_rfl) (by kernel_rfl) (fun _ _ _ h => h) (Or.inl ⟨by rfl, ?_⟩) hH ?_
              rotate_left
              · intro w hSw; (try dsimp only at hSw); go_simp; try with_reducible rfl
              try simp only [Act.put, List.setIfInBounds_toArray, List.set_cons_zero, List.set_cons_succ]
              refine wpAnyH_take (i := 16) (oi := ({ dst := some 54, op := Go.Op.move (Go.Operand.tmp 53), type := 4, pos := "law.go:121", after := #[{ on := 15, ground := Go.Ground.data }, { on := 12, ground := Go.Ground.chain }], guard := none } : Oper)) (v := ?_) rfl (by kernel_rfl) (by kernel_rfl) (by kernel_rfl) (fun _ _ _ h => h) (Or.inl ⟨by rfl, ?_⟩) hH ?_
              rotate_left
              · intro w hSw; (try dsimp only at hSw); go_simp; try with_reducible rfl
              try simp only [Act.put, List.setIfInBounds_toArray, List.set_cons_zero, List.set_cons_succ]
              refine wpAnyH_take (i := 17) (oi := ({ dst := some 55, op := Go.Op.move (Go.Operand.tmp 10), type := 24, pos := "law.go:121", after := #[{ on := 16, ground := Go.Ground.guard }], guard := some (16, false) } : Oper)) (v := ?_) rfl (by kernel_rfl) (by kernel_rfl) (by kernel_rfl) (fun _ _ _ h => h) (Or.inl ⟨by rfl, ?_⟩) hH ?_
              rotate_left
              · intro w hSw; (try dsimp only at hSw); go_simp; try with_reducible rfl
              try simp only [Act.put, List.setIfInBounds_toArray, List.set_cons_zero, List.set_cons_succ]
              refine wpAnyH_take (i := 18) (oi := ({ dst := some 56, op := Go.Op.binOp Go.BinOp.eql 24 (Go.Operand.tmp 55) (Go.Operand.const (Go.Value.int Go.IntKind.i64 8)) 24, type := 4, pos := "law.go:121", after := #[{ on := 17, ground := Go.Ground.data }, { on := 16, ground := Go.Ground.guard }], guard := some (16, false) } : Oper)) (v := ?_) rfl (by kernel_rfl) (by kernel_rfl) (by kernel_rfl) (fun _ _ _ h => h) (Or.inl ⟨by rfl, ?_⟩) hH ?_
              rotate_left
              · intro w hSw; (try dsimp only at hSw); go_simp; try with_reducible rfl
              try simp only [Act.put, List.setIfInBounds_toArray, List.set_cons_zero, List.set_cons_succ]
              refine wpAnyH_take (i := 19) (oi := ({ dst := some 57, op := Go.Op.move (Go.Operand.tmp 56), type := 4, pos := "law.go:121", after := #[{ on := 18, ground := Go.Ground.data }, { on := 16, ground := Go.Ground.chain }, { on := 16, ground := Go.Ground.guard }], guard := some (16, false) } : Oper)) (v := ?_) rfl (by kernel_rfl) (by kernel_rfl) (by kernel_rfl) (fun _ _ _ h => h) (Or.inl ⟨by rfl, ?_⟩) hH ?_
              rotate_left
              · intro w hSw; (try dsimp only at hSw); go_simp; try with_reducible rfl
              try simp only [Act.put, List.setIfInBounds_toArray, List.set_cons_zero, List.set_cons_succ]
              refine wpAnyH_take (i := 20) (oi := ({ dst := some 58, op := Go.Op.load 37 (Go.Operand.tmp 3), type := 37, pos := "law.go:121", after := #[{ on := 19, ground := Go.Ground.guard }], guard := some (19, true) } : Oper)) (v := undef) rfl (by kernel_rfl) (by kernel_rfl) (by kernel_rfl) (fun _ _ _ h => h) (Or.inr ⟨by rfl, rfl⟩) hH ?_
              try simp only [Act.put, List.setIfInBounds_toArray, List.set_cons_zero, List.set_cons_succ]
              refine wpAnyH_take (i := 21) (oi := ({ dst := some 59, op := Go.Op.move (Go.Operand.tmp 7), type := 3, pos := "law.go:121", after := #[{ on := 19, ground := Go.Ground.guard }], guard := some (19, true) } : Oper)) (v := undef) rfl (by kernel_rfl) (by kernel_rfl) (by kernel_rfl) (fun _ _ _ h => h) (Or.inr ⟨by rfl, rfl⟩) hH ?_
              try simp only [Act.put, List.setIfInBounds_toArray, List.set_cons_zero, List.set_cons_succ]
              refine wpAnyH_ready (rs := [22]) (by kernel_rfl) (by simp) ?_
              refine AllReadyH.cons (o := ({ dst := some 60, op := Go.Op.call { callee := Go.Callee.value (Go.Operand.func 43), args := #[Go.Operand.tmp 58, Go.Operand.tmp 59], argTypes := #[37, 3] }, type := 4, pos := "law.go:121", after := #[{ on := 20, ground := Go.Ground.data }, { on := 21, ground := Go.Ground.data }, { on := 19, ground := Go.Ground.chain }, { on := 19, ground := Go.Ground.guard }], guard := some (19, true) } : Oper)) rfl (fun K hK => ?_) AllReadyH.nil
              refine iteInduction (motive := fun p => p) (fun h => absurd (show false = true from h) Bool.false_ne_true) (fun _ => ?_)
              refine hK.out _ _ hH (fun hH' => ?_)
              clear hH' hK K
              try simp only [Act.put, List.setIfInBounds_toArray, List.set_cons_zero, List.set_cons_succ]
              refine wpAnyH_take (i := 23) (oi := ({ dst := some 61, op := Go.Op.pick (Go.Operand.tmp 57) (Go.Operand.tmp 60) (Go.Operand.const (Go.Value.bool false)), type := 4, pos := "law.go:121", after := #[{ on := 19, ground := Go.Ground.data }, { on := 22, ground := Go.Ground.data }, { on := 16, ground := Go.Ground.guard }], guard := some (16, false) } : Oper)) (v := ?_) rfl (by kernel_rfl) (by kernel_rfl) (by kernel_rfl) (fun _ _ _ h => h) (Or.inl ⟨by rfl, ?_⟩) hH ?_
              rotate_left
              · intro w hSw; (try dsimp only at hSw); go_simp; try with_reducible rfl
              try simp only [Act.put, List.setIfInBounds_toArray, List.set_cons_zero, List.set_cons_succ]
              refine wpAnyH_take (i := 24) (oi := ({ dst := some 62, op := Go.Op.move (Go.Operand.tmp 61), type := 4, pos := "law.go:121", after := #[{ on := 23, ground := Go.Ground.data }, { on := 22, ground := Go.Ground.chain }, { on := 16, ground := Go.Ground.guard }], guard := some (16, false) } : Oper)) (v := ?_) rfl (by kernel_rfl) (by kernel_rfl) (by kernel_rfl) (fun _ _ _ h => h) (Or.inl ⟨by rfl, ?_⟩) hH ?_
              rotate_left
              · intro w hSw; (try dsimp only at hSw); go_simp; try with_reducible rfl
              try simp only [Act.put, List.setIfInBounds_toArray, List.set_cons_zero, List.set_cons_succ]
              refine wpAnyH_take (i := 25) (oi := ({ dst := some 63, op := Go.Op.load 37 (Go.Operand.tmp 4), type := 37, pos := "law.go:121", after := #[{ on := 24, ground := Go.Ground.guard }], guard := some (24, true) } : Oper)) (v := undef) rfl (by kernel_rfl) (by kernel_rfl) (by kernel_rfl) (fun _ _ _ h => h) (Or.inr ⟨by rfl, rfl⟩) hH ?_
              try simp only [Act.put, List.setIfInBounds_toArray, List.set_cons_zero, List.set_cons_succ]
              refine wpAnyH_take (i := 26) (oi := ({ dst := some 64, op := Go.Op.move (Go.Operand.tmp 7), type := 3, pos := "law.go:121", after := #[{ on := 24, ground := Go.Ground.guard }], guard := some (24, true) } : Oper)) (v := undef) rfl (by kernel_rfl) (by kernel_rfl) (by kernel_rfl) (fun _ _ _ h => h) (Or.inr ⟨by rfl, rfl⟩) hH ?_
              try simp only [Act.put, List.setIfInBounds_toArray, List.set_cons_zero, List.set_cons_succ]
              refine wpAnyH_ready (rs := [27]) (by kernel_rfl) (by simp) ?_
              refine AllReadyH.cons (o := ({ dst := some 65, op := Go.Op.call { callee := Go.Callee.value (Go.Operand.func 43), args := #[Go.Operand.tmp 63, Go.Operand.tmp 64], argTypes := #[37, 3] }, type := 4, pos := "law.go:121", after := #[{ on := 25, ground := Go.Ground.data }, { on := 26, ground := Go.Ground.data }, { on := 24, ground := Go.Ground.chain }, { on := 24, ground := Go.Ground.guard }], guard := some (24, true) } : Oper)) rfl (fun K hK => ?_) AllReadyH.nil
              refine iteInduction (motive := fun p => p) (fun h => absurd (show false = true from h) Bool.false_ne_true) (fun _ => ?_)
              refine hK.out _ _ hH (fun hH' => ?_)
              clear hH' hK K
              try simp only [Act.put, List.setIfInBounds_toArray, List.set_cons_zero, List.set_cons_succ]
              refine wpAnyH_take (i := 28) (oi := ({ dst := some 66, op := Go.Op.pick (Go.Operand.tmp 62) (Go.Operand.tmp 65) (Go.Operand.const (Go.Value.bool false)), type := 4, pos := "law.go:121", after := #[{ on := 24, ground := Go.Ground.data }, { on := 27, ground := Go.Ground.data }, { on := 16, ground := Go.Ground.guard }], guard := some (16, false) } : Oper)) (v := ?_) rfl (by kernel_rfl) (by kernel_rfl) (by kernel_rfl) (fun _ _ _ h => h) (Or.inl ⟨by rfl, ?_⟩) hH ?_
              rotate_left
              · intro w hSw; (try dsimp only at hSw); go_simp; try with_reducible rfl
              try simp only [Act.put, List.setIfInBounds_toArray, List.set_cons_zero, List.set_cons_succ]
              refine wpAnyH_take (i := 29) (oi := ({ dst := some 67, op := Go.Op.pick (Go.Operand.tmp 54) (Go.Operand.const (Go.Value.bool true)) (Go.Operand.tmp 66), type := 4, pos := "law.go:121", after := #[{ on := 16, ground := Go.Ground.data }, { on := 28, ground := Go.Ground.data }], guard := none } : Oper)) (v := ?_) rfl (by kernel_rfl) (by kernel_rfl) (by kernel_rfl) (fun _ _ _ h => h) (Or.inl ⟨by rfl, ?_⟩) hH ?_
              rotate_left
              · intro w hSw; (try dsimp only at hSw); go_simp; try with_reducible rfl
              try simp only [Act.put, List.setIfInBounds_toArray, List.set_cons_zero, List.set_cons_succ]
              refine wpAnyH_done (by kernel_rfl) ?_ _
              refine NoPanic.normal ?_
              all_goals (go_wp2_with fail; go_meet; exact ⟨rfl, BW.tr hH.1, hH.2.1, hH.2.2.1, hH.2.2.2.1, hH.2.2.2.2.1⟩)
            · have pb' : n < bl ∨ bh < n := by omega
              have pc : n < lo ∨ hi < n := by omega
              clear hm hlo hhi Hr pb
              obtain ⟨W, hW⟩ : ∃ W, W = w3.alloc (.cells #[.int .i64 lo, .int .i64 hi] 37) := ⟨_, rfl⟩
              have BW : Bl w W := by rw [hW]; go_grown
              rw [← hW]
              have q00 : W.cell? ⟨w.heap.size, 0, none⟩ = some (.int .i64 al) := by rw [hW]; go_cell
              have q01 : W.cell? ⟨w.heap.size, 1, none⟩ = some (.int .i64 ah) := by rw [hW]; go_cell
              have q10 : W.cell? ⟨w.heap.size + 1, 0, none⟩ = some (.int .i64 bl) := by rw [hW]; go_cell
              have q11 : W.cell? ⟨w.heap.size + 1, 1, none⟩ = some (.int .i64 bh) := by rw [hW]; go_cell
              have q20 : W.cell? ⟨w3.heap.size, 0, none⟩ = some (.int .i64 lo) := by rw [hW]; go_cell
              have q21 : W.cell? ⟨w3.heap.size, 1, none⟩ = some (.int .i64 hi) := by rw [hW]; go_cell
              clear hW ka0 ka1 kb0 kb1
              have hS : Hx3 W (w.heap.size) (w.heap.size + 1) (w3.heap.size) (.int .i64 al) (.int .i64 ah) (.int .i64 bl) (.int .i64 bh) (.int .i64 lo) (.int .i64 hi) W := ⟨Bl.rf _, q00, q01, q10, q11, q20, q21, lt_of_cell' q00, lt_of_cell' q10, lt_of_cell' q20⟩
              refine wp_region_noPanic ?_
              refine wp_region_held_drew (S := fun w' => Bl W w' ∧ w'.cell? ⟨w.heap.size, 0, none⟩ = some (.int .i64 al) ∧ w'.cell? ⟨w.heap.size, 1, none⟩ = some (.int .i64 ah) ∧ w'.cell? ⟨w.heap.size + 1, 0, none⟩ = some (.int .i64 bl) ∧ w'.cell? ⟨w.heap.size + 1, 1, none⟩ = some (.int .i64 bh) ∧ w'.cell? ⟨w3.heap.size, 0, none⟩ = some (.int .i64 lo) ∧ w'.cell? ⟨w3.heap.size, 1, none⟩ = some (.int .i64 hi) ∧ w.heap.size < W.heap.size ∧ w.heap.size + 1 < W.heap.size ∧ w3.heap.size < W.heap.size) (by kernel_rfl) (Hx3.t hS (Bl.dn _ 1)) (fun hH => ?_)
              refine wpAnyH_take (i := 0) (oi := ({ dst := some 38, op := Go.Op.move (Go.Operand.tmp 10), type := 24, pos := "law.go:121", after := #[], guard := none } : Oper)) (v := ?_) rfl (by kernel_rfl) (by kernel_rfl) (by kernel_rfl) (fun _ _ _ h => h) (Or.inl ⟨by rfl, ?_⟩) hH ?_
              rotate_left
              · intro w hSw; (try dsimp only at hSw); go_simp; try with_reducible rfl
              try simp only [Act.put, List.setIfInBounds_toArray, List.set_cons_zero, List.set_cons_succ]
              refine wpAnyH_take (i := 1) (oi := ({ dst := some 39, op := Go.Op.binOp Go.BinOp.eql 24 (Go.Operand.tmp 38) (Go.Operand.const (Go.Value.int Go.IntKind.i64 0)) 24, type := 4, pos := "law.go:121", after := #[{ on := 0, ground := Go.Ground.data }], guard := none } : Oper)) (v := ?_) rfl (by kernel_rfl) (by kernel_rfl) (by kernel_rfl) (fun _ _ _ h => h) (Or.inl ⟨by rfl, ?_⟩) hH ?_
              rotate_left
              · intro w hSw; (try dsimp only at hSw); go_simp; try with_reducible rfl
              try simp only [Act.put, List.setIfInBounds_toArray, List.set_cons_zero, List.set_cons_succ]
              refine wpAnyH_take (i := 2) (oi := ({ dst := some 40, op := Go.Op.move (Go.Operand.tmp 39), type := 4, pos := "law.go:121", after := #[{ on := 1, ground := Go.Ground.data }], guard := none } : Oper)) (v := ?_) rfl (by kernel_rfl) (by kernel_rfl) (by kernel_rfl) (fun _ _ _ h => h) (Or.inl ⟨by rfl, ?_⟩) hH ?_
              rotate_left
              · intro w hSw; (try dsimp only at hSw); go_simp; try with_reducible rfl
              try simp only [Act.put, List.setIfInBounds_toArray, List.set_cons_zero, List.set_cons_succ]
              refine wpAnyH_take (i := 3) (oi := ({ dst := some 41, op := Go.Op.load 37 (Go.Operand.tmp 9), type := 37, pos := "law.go:121", after := #[{ on := 2, ground := Go.Ground.guard }], guard := some (2, true) } : Oper)) (v := ?_) rfl (by kernel_rfl) (by kernel_rfl) (by kernel_rfl) (fun _ _ _ h => h) (Or.inl ⟨by rfl, ?_⟩) hH ?_
              rotate_left
              · intro w hSw; (try dsimp only at hSw); go_simp; try with_reducible rfl
              try simp only [Act.put, List.setIfInBounds_toArray, List.set_cons_zero, List.set_cons_succ]
              refine wpAnyH_take (i := 4) (oi := ({ dst := some 42, op := Go.Op.move (Go.Operand.tmp 7), type := 3, pos := "law.go:121", after := #[{ on := 2, ground := Go.Ground.guard }], guard := some (2, true) } : Oper)) (v := ?_) rfl (by kernel_rfl) (by kernel_rfl) (by kernel_rfl) (fun _ _ _ h => h) (Or.inl ⟨by rfl, ?_⟩) hH ?_
              rotate_left
              · intro w hSw; (try dsimp only at hSw); go_simp; try with_reducible rfl
              try simp only [Act.put, List.setIfInBounds_toArray, List.set_cons_zero, List.set_cons_succ]
              refine wpAnyH_take (i := 6) (oi := ({ dst := some 44, op := Go.Op.load 37 (Go.Operand.tmp 3), type := 37, pos := "law.go:121", after := #[{ on := 2, ground := Go.Ground.guard }], guard := some (2, true) } : Oper)) (v := ?_) rfl (by kernel_rfl) (by kernel_rfl) (by kernel_rfl) (fun _ _ _ h => h) (Or.inl ⟨by rfl, ?_⟩) hH ?_
              rotate_left
              · intro w hSw; (try dsimp only at hSw); go_simp; try with_reducible rfl
              try simp only [Act.put, List.setIfInBounds_toArray, List.set_cons_zero, List.set_cons_succ]
              refine wpAnyH_take (i := 7) (oi := ({ dst := some 45, op := Go.Op.move (Go.Operand.tmp 7), type := 3, pos := "law.go:121", after := #[{ on := 2, ground := Go.Ground.guard }], guard := some (2, true) } : Oper)) (v := ?_) rfl (by kernel_rfl) (by kernel_rfl) (by kernel_rfl) (fun _ _ _ h => h) (Or.inl ⟨by rfl, ?_⟩) hH ?_
              rotate_left
              · intro w hSw; (try dsimp only at hSw); go_simp; try with_reducible rfl
              try simp only [Act.put, List.setIfInBounds_toArray, List.set_cons_zero, List.set_cons_succ]
              refine wpAnyH_ready (rs := [5]) (by kernel_rfl) (by simp) ?_
              refine AllReadyH.cons (o := ({ dst := some 43, op := Go.Op.call { callee := Go.Callee.value (Go.Operand.func 43), args := #[Go.Operand.tmp 41, Go.Operand.tmp 42], argTypes := #[37, 3] }, type := 4, pos := "law.go:121", after := #[{ on := 3, ground := Go.Ground.data }, { on := 4, ground := Go.Ground.data }, { on := 2, ground := Go.Ground.chain }, { on := 2, ground := Go.Ground.guard }], guard := some (2, true) } : Oper)) rfl (fun K hK => ?_) AllReadyH.nil
              go_simp
              (go_at_call 43; first | (refine (has_t _ _ _ _ ?_ ?_).mono ?_; omega; omega; rintro e v ⟨rfl, rfl⟩) | (refine (has_f _ _ _ _ ?_).mono ?_; omega; rintro e v ⟨rfl, rfl⟩))
              refine hK.out _ _ (Hx3.t hH (Bl.al _ _)) (fun hH' => ?_)
              clear hH
              have hH := hH'
              clear hH' hK K
              try simp only [Act.put, List.setIfInBounds_toArray, List.set_cons_zero, List.set_cons_succ]
              refine wpAnyH_ready (rs := [8]) (by kernel_rfl) (by simp) ?_
              refine AllReadyH.cons (o := ({ dst := some 46, op := Go.Op.call { callee := Go.Callee.value (Go.Operand.func 43), args := #[Go.Operand.tmp 44, Go.Operand.tmp 45], argTypes := #[37, 3] }, type := 4, pos := "law.go:121", after := #[{ on := 6, ground := Go.Ground.data }, { on := 7, ground := Go.Ground.data }, { on := 5, ground := Go.Ground.chain }, { on := 2, ground := Go.Ground.guard }], guard := some (2, true) } : Oper)) rfl (fun K hK => ?_) AllReadyH.nil
              go_simp
              (go_at_call 43; first | (refine (has_t _ _ _ _ ?_ ?_).mono ?_; omega; omega; rintro e v ⟨rfl, rfl⟩) | (refine (has_f _ _ _ _ ?_).mono ?_; omega; rintro e v ⟨rfl, rfl⟩))
              refine hK.out _ _ (Hx3.t hH (Bl.al _ _)) (fun hH' => ?_)
              clear hH
              have hH := hH'
              clear hH' hK K
              try simp only [Act.put, List.setIfInBounds_toArray, List.set_cons_zero, List.set_cons_succ]
              refine wpAnyH_take (i := 9) (oi := ({ dst := some 47, op := Go.Op.move (Go.Operand.tmp 46), type := 4, pos := "law.go:121", after := #[{ on := 8, ground := Go.Ground.data }, { on := 8, ground := Go.Ground.chain }, { on := 2, ground := Go.Ground.guard }], guard := some (2, true) } : Oper)) (v := ?_) rfl (by kernel_rfl) (by kernel_rfl) (by kernel_rfl) (fun _ _ _ h => h) (Or.inl ⟨by rfl, ?_⟩) hH ?_
              rotate_left
              · intro w hSw; (try dsimp only at hSw); go_simp; try with_reducible rfl
              try simp only [Act.put, List.setIfInBounds_toArray, List.set_cons_zero, List.set_cons_succ]
              refine wpAnyH_take (i := 10) (oi := ({ dst := some 48, op := Go.Op.load 37 (Go.Operand.tmp 4), type := 37, pos := "law.go:121", after := #[{ on := 9, ground := Go.Ground.guard }], guard := some (9, true) } : Oper)) (v := ?_) rfl (by kernel_rfl) (by kernel_rfl) (by kernel_rfl) (fun _ _ _ h => h) (Or.inl ⟨by rfl, ?_⟩) hH ?_
              rotate_left
              · intro w hSw; (try dsimp only at hSw); go_simp; try with_reducible rfl
              try simp only [Act.put, List.setIfInBounds_toArray, List.set_cons_zero, List.set_cons_succ]
              refine wpAnyH_take (i := 11) (oi := ({ dst := some 49, op := Go.Op.move (Go.Operand.tmp 7), type := 3, pos := "law.go:121", after := #[{ on := 9, ground := Go.Ground.guard }], guard := some (9, true) } : Oper)) (v := ?_) rfl (by kernel_rfl) (by kernel_rfl) (by kernel_rfl) (fun _ _ _ h => h) (Or.inl ⟨by rfl, ?_⟩) hH ?_
              rotate_left
              · intro w hSw; (try dsimp only at hSw); go_simp; try with_reducible rfl
              try simp only [Act.put, List.setIfInBounds_toArray, List.set_cons_zero, List.set_cons_succ]
              refine wpAnyH_ready (rs := [12]) (by kernel_rfl) (by simp) ?_
              refine AllReadyH.cons (o := ({ dst := some 50, op := Go.Op.call { callee := Go.Callee.value (Go.Operand.func 43), args := #[Go.Operand.tmp 48, Go.Operand.tmp 49], argTypes := #[37, 3] }, type := 4, pos := "law.go:121", after := #[{ on := 10, ground := Go.Ground.data }, { on := 11, ground := Go.Ground.data }, { on := 9, ground := Go.Ground.chain }, { on := 9, ground := Go.Ground.guard }], guard := some (9, true) } : Oper)) rfl (fun K hK => ?_) AllReadyH.nil
              go_simp
              (go_at_call 43; first | (refine (has_t _ _ _ _ ?_ ?_).mono ?_; omega; omega; rintro e v ⟨rfl, rfl⟩) | (refine (has_f _ _ _ _ ?_).mono ?_; omega; rintro e v ⟨rfl, rfl⟩))
              refine hK.out _ _ (Hx3.t hH (Bl.al _ _)) (fun hH' => ?_)
              clear hH
              have hH := hH'
              clear hH' hK K
              try simp only [Act.put, List.setIfInBounds_toArray, List.set_cons_zero, List.set_cons_succ]
              refine wpAnyH_take (i := 13) (oi := ({ dst := some 51, op := Go.Op.pick (Go.Operand.tmp 47) (Go.Operand.tmp 50) (Go.Operand.const (Go.Value.bool false)), type := 4, pos := "law.go:121", after := #[{ on := 9, ground := Go.Ground.data }, { on := 12, ground := Go.Ground.data }, { on := 2, ground := Go.Ground.guard }], guard := some (2, true) } : Oper)) (v := ?_) rfl (by kernel_rfl) (by kernel_rfl) (by kernel_rfl) (fun _ _ _ h => h) (Or.inl ⟨by rfl, ?_⟩) hH ?_
              rotate_left
              · intro w hSw; (try dsimp only at hSw); go_simp; try with_reducible rfl
              try simp only [Act.put, List.setIfInBounds_toArray, List.set_cons_zero, List.set_cons_succ]
              refine wpAnyH_take (i := 14) (oi := ({ dst := some 52, op := Go.Op.binOp Go.BinOp.neq 4 (Go.Operand.tmp 43) (Go.Operand.tmp 51) 4, type := 4, pos := "law.go:121", after := #[{ on := 5, ground := Go.Ground.data }, { on := 13, ground := Go.Ground.data }, { on := 2, ground := Go.Ground.guard }], guard := some (2, true) } : Oper)) (v := ?_) rfl (by kernel_rfl) (by kernel_rfl) (by kernel_rfl) (fun _ _ _ h => h) (Or.inl ⟨by rfl, ?_⟩) hH ?_
              rotate_left
              · intro w hSw; (try dsimp only at hSw); go_simp; try with_reducible rfl
              try simp only [Act.put, List.setIfInBounds_toArray, List.set_cons_zero, List.set_cons_succ]
              refine wpAnyH_take (i := 15) (oi := ({ dst := some 53, op := Go.Op.pick (Go.Operand.tmp 40) (Go.Operand.tmp 52) (Go.Operand.const (Go.Value.bool false)), type := 4, pos := "law.go:121", after := #[{ on := 2, ground := Go.Ground.data }, { on := 14, ground := Go.Ground.data }], guard := none } : Oper)) (v := ?_) rfl (by kernel_rfl) (by kernel_rfl) (by kernel_rfl) (fun _ _ _ h => h) (Or.inl ⟨by rfl, ?_⟩) hH ?_
              rotate_left
              · intro w hSw; (try dsimp only at hSw); go_simp; try with_reducible rfl
              try simp only [Act.put, List.setIfInBounds_toArray, List.set_cons_zero, List.set_cons_succ]
              refine wpAnyH_take (i := 16) (oi := ({ dst := some 54, op := Go.Op.move (Go.Operand.tmp 53), type := 4, pos := "law.go:121", after := #[{ on := 15, ground := Go.Ground.data }, { on := 12, ground := Go.Ground.chain }], guard := none } : Oper)) (v := ?_) rfl (by kernel_rfl) (by kernel_rfl) (by kernel_rfl) (fun _ _ _ h => h) (Or.inl ⟨by rfl, ?_⟩) hH ?_
              rotate_left
              · intro w hSw; (try dsimp only at hSw); go_simp; try with_reducible rfl
              try simp only [Act.put, List.setIfInBounds_toArray, List.set_cons_zero, List.set_cons_succ]
              refine wpAnyH_take (i := 17) (oi := ({ dst := some 55, op := Go.Op.move (Go.Operand.tmp 10), type := 24, pos := "law.go:121", after := #[{ on := 16, ground := Go.Ground.guard }], guard := some (16, false) } : Oper)) (v := ?_) rfl (by kernel_rfl) (by kernel_rfl) (by kernel_rfl) (fun _ _ _ h => h) (Or.inl ⟨by rfl, ?_⟩) hH ?_
              rotate_left
              · intro w hSw; (try dsimp only at hSw); go_simp; try with_reducible rfl
              try simp only [Act.put, List.setIfInBounds_toArray, List.set_cons_zero, List.set_cons_succ]
              refine wpAnyH_take (i := 18) (oi := ({ dst := some 56, op := Go.Op.binOp Go.BinOp.eql 24 (Go.Operand.tmp 55) (Go.Operand.const (Go.Value.int Go.IntKind.i64 8)) 24, type := 4, pos := "law.go:121", after := #[{ on := 17, ground := Go.Ground.data }, { on := 16, ground := Go.Ground.guard }], guard := some (16, false) } : Oper)) (v := ?_) rfl (by kernel_rfl) (by kernel_rfl) (by kernel_rfl) (fun _ _ _ h => h) (Or.inl ⟨by rfl, ?_⟩) hH ?_
              rotate_left
              · intro w hSw; (try dsimp only at hSw); go_simp; try with_reducible rfl
              try simp only [Act.put, List.setIfInBounds_toArray, List.set_cons_zero, List.set_cons_succ]
              refine wpAnyH_take (i := 19) (oi := ({ dst := some 57, op := Go.Op.move (Go.Operand.tmp 56), type := 4, pos := "law.go:121", after := #[{ on := 18, ground := Go.Ground.data }, { on := 16, ground := Go.Ground.chain }, { on := 16, ground := Go.Ground.guard }], guard := some (16, false) } : Oper)) (v := ?_) rfl (by kernel_rfl) (by kernel_rfl) (by kernel_rfl) (fun _ _ _ h => h) (Or.inl ⟨by rfl, ?_⟩) hH ?_
              rotate_left
              · intro w hSw; (try dsimp only at hSw); go_simp; try with_reducible rfl
              try simp only [Act.put, List.setIfInBounds_toArray, List.set_cons_zero, List.set_cons_succ]
              refine wpAnyH_take (i := 20) (oi := ({ dst := some 58, op := Go.Op.load 37 (Go.Operand.tmp 3), type := 37, pos := "law.go:121", after := #[{ on := 19, ground := Go.Ground.guard }], guard := some (19, true) } : Oper)) (v := undef) rfl (by kernel_rfl) (by kernel_rfl) (by kernel_rfl) (fun _ _ _ h => h) (Or.inr ⟨by rfl, rfl⟩) hH ?_
              try simp only [Act.put, List.setIfInBounds_toArray, List.set_cons_zero, List.set_cons_succ]
              refine wpAnyH_take (i := 21) (oi := ({ dst := some 59, op := Go.Op.move (Go.Operand.tmp 7), type := 3, pos := "law.go:121", after := #[{ on := 19, ground := Go.Ground.guard }], guard := some (19, true) } : Oper)) (v := undef) rfl (by kernel_rfl) (by kernel_rfl) (by kernel_rfl) (fun _ _ _ h => h) (Or.inr ⟨by rfl, rfl⟩) hH ?_
              try simp only [Act.put, List.setIfInBounds_toArray, List.set_cons_zero, List.set_cons_succ]
              refine wpAnyH_ready (rs := [22]) (by kernel_rfl) (by simp) ?_
              refine AllReadyH.cons (o := ({ dst := some 60, op := Go.Op.call { callee := Go.Callee.value (Go.Operand.func 43), args := #[Go.Operand.tmp 58, Go.Operand.tmp 59], argTypes := #[37, 3] }, type := 4, pos := "law.go:121", after := #[{ on := 20, ground := Go.Ground.data }, { on := 21, ground := Go.Ground.data }, { on := 19, ground := Go.Ground.chain }, { on := 19, ground := Go.Ground.guard }], guard := some (19, true) } : Oper)) rfl (fun K hK => ?_) AllReadyH.nil
              refine iteInduction (motive := fun p => p) (fun h => absurd (show false = true from h) Bool.false_ne_true) (fun _ => ?_)
              refine hK.out _ _ hH (fun hH' => ?_)
              clear hH' hK K
              try simp only [Act.put, List.setIfInBounds_toArray, List.set_cons_zero, List.set_cons_succ]
              refine wpAnyH_take (i := 23) (oi := ({ dst := some 61, op := Go.Op.pick (Go.Operand.tmp 57) (Go.Operand.tmp 60) (Go.Operand.const (Go.Value.bool false)), type := 4, pos := "law.go:121", after := #[{ on := 19, ground := Go.Ground.data }, { on := 22, ground := Go.Ground.data }, { on := 16, ground := Go.Ground.guard }], guard := some (16, false) } : Oper)) (v := ?_) rfl (by kernel_rfl) (by kernel_rfl) (by kernel_rfl) (fun _ _ _ h => h) (Or.inl ⟨by rfl, ?_⟩) hH ?_
              rotate_left
              · intro w hSw; (try dsimp only at hSw); go_simp; try with_reducible rfl
              try simp only [Act.put, List.setIfInBounds_toArray, List.set_cons_zero, List.set_cons_succ]
              refine wpAnyH_take (i := 24) (oi := ({ dst := some 62, op := Go.Op.move (Go.Operand.tmp 61), type := 4, pos := "law.go:121", after := #[{ on := 23, ground := Go.Ground.data }, { on := 22, ground := Go.Ground.chain }, { on := 16, ground := Go.Ground.guard }], guard := some (16, false) } : Oper)) (v := ?_) rfl (by kernel_rfl) (by kernel_rfl) (by kernel_rfl) (fun _ _ _ h => h) (Or.inl ⟨by rfl, ?_⟩) hH ?_
              rotate_left
              · intro w hSw; (try dsimp only at hSw); go_simp; try with_reducible rfl
              try simp only [Act.put, List.setIfInBounds_toArray, List.set_cons_zero, List.set_cons_succ]
              refine wpAnyH_take (i := 25) (oi := ({ dst := some 63, op := Go.Op.load 37 (Go.Operand.tmp 4), type := 37, pos := "law.go:121", after := #[{ on := 24, ground := Go.Ground.guard }], guard := some (24, true) } : Oper)) (v := undef) rfl (by kernel_rfl) (by kernel_rfl) (by kernel_rfl) (fun _ _ _ h => h) (Or.inr ⟨by rfl, rfl⟩) hH ?_
              try simp only [Act.put, List.setIfInBounds_toArray, List.set_cons_zero, List.set_cons_succ]
              refine wpAnyH_take (i := 26) (oi := ({ dst := some 64, op := Go.Op.move (Go.Operand.tmp 7), type := 3, pos := "law.go:121", after := #[{ on := 24, ground := Go.Ground.guard }], guard := some (24, true) } : Oper)) (v := undef) rfl (by kernel_rfl) (by kernel_rfl) (by kernel_rfl) (fun _ _ _ h => h) (Or.inr ⟨by rfl, rfl⟩) hH ?_
              try simp only [Act.put, List.setIfInBounds_toArray, List.set_cons_zero, List.set_cons_succ]
              refine wpAnyH_ready (rs := [27]) (by kernel_rfl) (by simp) ?_
              refine AllReadyH.cons (o := ({ dst := some 65, op := Go.Op.call { callee := Go.Callee.value (Go.Operand.func 43), args := #[Go.Operand.tmp 63, Go.Operand.tmp 64], argTypes := #[37, 3] }, type := 4, pos := "law.go:121", after := #[{ on := 25, ground := Go.Ground.data }, { on := 26, ground := Go.Ground.data }, { on := 24, ground := Go.Ground.chain }, { on := 24, ground := Go.Ground.guard }], guard := some (24, true) } : Oper)) rfl (fun K hK => ?_) AllReadyH.nil
              refine iteInduction (motive := fun p => p) (fun h => absurd (show false = true from h) Bool.false_ne_true) (fun _ => ?_)
              refine hK.out _ _ hH (fun hH' => ?_)
              clear hH' hK K
              try simp only [Act.put, List.setIfInBounds_toArray, List.set_cons_zero, List.set_cons_succ]
              refine wpAnyH_take (i := 28) (oi := ({ dst := some 66, op := Go.Op.pick (Go.Operand.tmp 62) (Go.Operand.tmp 65) (Go.Operand.const (Go.Value.bool false)), type := 4, pos := "law.go:121", after := #[{ on := 24, ground := Go.Ground.data }, { on := 27, ground := Go.Ground.data }, { on := 16, ground := Go.Ground.guard }], guard := some (16, false) } : Oper)) (v := ?_) rfl (by kernel_rfl) (by kernel_rfl) (by kernel_rfl) (fun _ _ _ h => h) (Or.inl ⟨by rfl, ?_⟩) hH ?_
              rotate_left
              · intro w hSw; (try dsimp only at hSw); go_simp; try with_reducible rfl
              try simp only [Act.put, List.setIfInBounds_toArray, List.set_cons_zero, List.set_cons_succ]
              refine wpAnyH_take (i := 29) (oi := ({ dst := some 67, op := Go.Op.pick (Go.Operand.tmp 54) (Go.Operand.const (Go.Value.bool true)) (Go.Operand.tmp 66), type := 4, pos := "law.go:121", after := #[{ on := 16, ground := Go.Ground.data }, { on := 28, ground := Go.Ground.data }], guard := none } : Oper)) (v := ?_) rfl (by kernel_rfl) (by kernel_rfl) (by kernel_rfl) (fun _ _ _ h => h) (Or.inl ⟨by rfl, ?_⟩) hH ?_
              rotate_left
              · intro w hSw; (try dsimp only at hSw); go_simp; try with_reducible rfl
              try simp only [Act.put, List.setIfInBounds_toArray, List.set_cons_zero, List.set_cons_succ]
              refine wpAnyH_done (by kernel_rfl) ?_ _
              refine NoPanic.normal ?_
              all_goals (go_wp2_with fail; go_meet; exact ⟨rfl, BW.tr hH.1, hH.2.1, hH.2.2.1, hH.2.2.2.1, hH.2.2.2.2.1⟩)
          · have pa' : n < al ∨ ah < n := by omega
            have pc : n < lo ∨ hi < n := by omega
            clear hm hlo hhi Hr pa
            obtain ⟨W, hW⟩ : ∃ W, W = w3.alloc (.cells #[.int .i64 lo, .int .i64 hi] 37) := ⟨_, rfl⟩
            have BW : Bl w W := by rw [hW]; go_grown
            rw [← hW]
            have q00 : W.cell? ⟨w.heap.size, 0, none⟩ = some (.int .i64 al) := by rw [hW]; go_cell
            have q01 : W.cell? ⟨w.heap.size, 1, none⟩ = some (.int .i64 ah) := by rw [hW]; go_cell
            have q10 : W.cell? ⟨w.heap.size + 1, 0, none⟩ = some (.int .i64 bl) := by rw [hW]; go_cell
            have q11 : W.cell? ⟨w.heap.size + 1, 1, none⟩ = some (.int .i64 bh) := by rw [hW]; go_cell
            have q20 : W.cell? ⟨w3.heap.size, 0, none⟩ = some (.int .i64 lo) := by rw [hW]; go_cell
            have q21 : W.cell? ⟨w3.heap.size, 1, none⟩ = some (.int .i64 hi) := by rw [hW]; go_cell
            clear hW ka0 ka1 kb0 kb1
            have hS : Hx3 W (w.heap.size) (w.heap.size + 1) (w3.heap.size) (.int .i64 al) (.int .i64 ah) (.int .i64 bl) (.int .i64 bh) (.int .i64 lo) (.int .i64 hi) W := ⟨Bl.rf _, q00, q01, q10, q11, q20, q21, lt_of_cell' q00, lt_of_cell' q10, lt_of_cell' q20⟩
            refine wp_region_noPanic ?_
            refine wp_region_held_drew (S := fun w' => Bl W w' ∧ w'.cell? ⟨w.heap.size, 0, none⟩ = some (.int .i64 al) ∧ w'.cell? ⟨w.heap.size, 1, none⟩ = some (.int .i64 ah) ∧ w'.cell? ⟨w.heap.size + 1, 0, none⟩ = some (.int .i64 bl) ∧ w'.cell? ⟨w.heap.size + 1, 1, none⟩ = some (.int .i64 bh) ∧ w'.cell? ⟨w3.heap.size, 0, none⟩ = some (.int .i64 lo) ∧ w'.cell? ⟨w3.heap.size, 1, none⟩ = some (.int .i64 hi) ∧ w.heap.size < W.heap.size ∧ w.heap.size + 1 < W.heap.size ∧ w3.heap.size < W.heap.size) (by kernel_rfl) (Hx3.t hS (Bl.dn _ 1)) (fun hH => ?_)
            refine wpAnyH_take (i := 0) (oi := ({ dst := some 38, op := Go.Op.move (Go.Operand.tmp 10), type := 24, pos := "law.go:121", after := #[], guard := none } : Oper)) (v := ?_) rfl (by kernel_rfl) (by kernel_rfl) (by kernel_rfl) (fun _ _ _ h => h) (Or.inl ⟨by rfl, ?_⟩) hH ?_
            rotate_left
            · intro w hSw; (try dsimp only at hSw); go_simp; try with_reducible rfl
            try simp only [Act.put, List.setIfInBounds_toArray, List.set_cons_zero, List.set_cons_succ]
            refine wpAnyH_take (i := 1) (oi := ({ dst := some 39, op := Go.Op.binOp Go.BinOp.eql 24 (Go.Operand.tmp 38) (Go.Operand.const (Go.Value.int Go.IntKind.i64 0)) 24, type := 4, pos := "law.go:121", after := #[{ on := 0, ground := Go.Ground.data }], guard := none } : Oper)) (v := ?_) rfl (by kernel_rfl) (by kernel_rfl) (by kernel_rfl) (fun _ _ _ h => h) (Or.inl ⟨by rfl, ?_⟩) hH ?_
            rotate_left
            · intro w hSw; (try dsimp only at hSw); go_simp; try with_reducible rfl
            try simp only [Act.put, List.setIfInBounds_toArray, List.set_cons_zero, List.set_cons_succ]
            refine wpAnyH_take (i := 2) (oi := ({ dst := some 40, op := Go.Op.move (Go.Operand.tmp 39), type := 4, pos := "law.go:121", after := #[{ on := 1, ground := Go.Ground.data }], guard := none } : Oper)) (v := ?_) rfl (by kernel_rfl) (by kernel_rfl) (by kernel_rfl) (fun _ _ _ h => h) (Or.inl ⟨by rfl, ?_⟩) hH ?_
            rotate_left
            · intro w hSw; (try dsimp only at hSw); go_simp; try with_reducible rfl
            try simp only [Act.put, List.setIfInBounds_toArray, List.set_cons_zero, List.set_cons_succ]
            refine wpAnyH_take (i := 3) (oi := ({ dst := some 41, op := Go.Op.load 37 (Go.Operand.tmp 9), type := 37, pos := "law.go:121", after := #[{ on := 2, ground := Go.Ground.guard }], guard := some (2, true) } : Oper)) (v := ?_) rfl (by kernel_rfl) (by kernel_rfl) (by kernel_rfl) (fun _ _ _ h => h) (Or.inl ⟨by rfl, ?_⟩) hH ?_
            rotate_left
            · intro w hSw; (try dsimp only at hSw); go_simp; try with_reducible rfl
            try simp only [Act.put, List.setIfInBounds_toArray, List.set_cons_zero, List.set_cons_succ]
            refine wpAnyH_take (i := 4) (oi := ({ dst := some 42, op := Go.Op.move (Go.Operand.tmp 7), type := 3, pos := "law.go:121", after := #[{ on := 2, ground := Go.Ground.guard }], guard := some (2, true) } : Oper)) (v := ?_) rfl (by kernel_rfl) (by kernel_rfl) (by kernel_rfl) (fun _ _ _ h => h) (Or.inl ⟨by rfl, ?_⟩) hH ?_
            rotate_left
            · intro w hSw; (try dsimp only at hSw); go_simp; try with_reducible rfl
            try simp only [Act.put, List.setIfInBounds_toArray, List.set_cons_zero, List.set_cons_succ]
            refine wpAnyH_take (i := 6) (oi := ({ dst := some 44, op := Go.Op.load 37 (Go.Operand.tmp 3), type := 37, pos := "law.go:121", after := #[{ on := 2, ground := Go.Ground.guard }], guard := some (2, true) } : Oper)) (v := ?_) rfl (by kernel_rfl) (by kernel_rfl) (by kernel_rfl) (fun _ _ _ h => h) (Or.inl ⟨by rfl, ?_⟩) hH ?_
            rotate_left
            · intro w hSw; (try dsimp only at hSw); go_simp; try with_reducible rfl
            try simp only [Act.put, List.setIfInBounds_toArray, List.set_cons_zero, List.set_cons_succ]
            refine wpAnyH_take (i := 7) (oi := ({ dst := some 45, op := Go.Op.move (Go.Operand.tmp 7), type := 3, pos := "law.go:121", after := #[{ on := 2, ground := Go.Ground.guard }], guard := some (2, true) } : Oper)) (v := ?_) rfl (by kernel_rfl) (by kernel_rfl) (by kernel_rfl) (fun _ _ _ h => h) (Or.inl ⟨by rfl, ?_⟩) hH ?_
            rotate_left
            · intro w hSw; (try dsimp only at hSw); go_simp; try with_reducible rfl
            try simp only [Act.put, List.setIfInBounds_toArray, List.set_cons_zero, List.set_cons_succ]
            refine wpAnyH_ready (rs := [5]) (by kernel_rfl) (by simp) ?_
            refine AllReadyH.cons (o := ({ dst := some 43, op := Go.Op.call { callee := Go.Callee.value (Go.Operand.func 43), args := #[Go.Operand.tmp 41, Go.Operand.tmp 42], argTypes := #[37, 3] }, type := 4, pos := "law.go:121", after := #[{ on := 3, ground := Go.Ground.data }, { on := 4, ground := Go.Ground.data }, { on := 2, ground := Go.Ground.chain }, { on := 2, ground := Go.Ground.guard }], guard := some (2, true) } : Oper)) rfl (fun K hK => ?_) AllReadyH.nil
            go_simp
            (go_at_call 43; first | (refine (has_t _ _ _ _ ?_ ?_).mono ?_; omega; omega; rintro e v ⟨rfl, rfl⟩) | (refine (has_f _ _ _ _ ?_).mono ?_; omega; rintro e v ⟨rfl, rfl⟩))
            refine hK.out _ _ (Hx3.t hH (Bl.al _ _)) (fun hH' => ?_)
            clear hH
            have hH := hH'
            clear hH' hK K
            try simp only [Act.put, List.setIfInBounds_toArray, List.set_cons_zero, List.set_cons_succ]
            refine wpAnyH_ready (rs := [8]) (by kernel_rfl) (by simp) ?_
            refine AllReadyH.cons (o := ({ dst := some 46, op := Go.Op.call { callee := Go.Callee.value (Go.Operand.func 43), args := #[Go.Operand.tmp 44, Go.Operand.tmp 45], argTypes := #[37, 3] }, type := 4, pos := "law.go:121", after := #[{ on := 6, ground := Go.Ground.data }, { on := 7, ground := Go.Ground.data }, { on := 5, ground := Go.Ground.chain }, { on := 2, ground := Go.Ground.guard }], guard := some (2, true) } : Oper)) rfl (fun K hK => ?_) AllReadyH.nil
            go_simp
            (go_at_call 43; first | (refine (has_t _ _ _ _ ?_ ?_).mono ?_; omega; omega; rintro e v ⟨rfl, rfl⟩) | (refine (has_f _ _ _ _ ?_).mono ?_; omega; rintro e v ⟨rfl, rfl⟩))
            refine hK.out _ _ (Hx3.t hH (Bl.al _ _)) (fun hH' => ?_)
            clear hH
            have hH := hH'
            clear hH' hK K
            try simp only [Act.put, List.setIfInBounds_toArray, List.set_cons_zero, List.set_cons_succ]
            refine wpAnyH_take (i := 9) (oi := ({ dst := some 47, op := Go.Op.move (Go.Operand.tmp 46), type := 4, pos := "law.go:121", after := #[{ on := 8, ground := Go.Ground.data }, { on := 8, ground := Go.Ground.chain }, { on := 2, ground := Go.Ground.guard }], guard := some (2, true) } : Oper)) (v := ?_) rfl (by kernel_rfl) (by kernel_rfl) (by kernel_rfl) (fun _ _ _ h => h) (Or.inl ⟨by rfl, ?_⟩) hH ?_
            rotate_left
            · intro w hSw; (try dsimp only at hSw); go_simp; try with_reducible rfl
            try simp only [Act.put, List.setIfInBounds_toArray, List.set_cons_zero, List.set_cons_succ]
            refine wpAnyH_take (i := 10) (oi := ({ dst := some 48, op := Go.Op.load 37 (Go.Operand.tmp 4), type := 37, pos := "law.go:121", after := #[{ on := 9, ground := Go.Ground.guard }], guard := some (9, true) } : Oper)) (v := undef) rfl (by kernel_rfl) (by kernel_rfl) (by kernel_rfl) (fun _ _ _ h => h) (Or.inr ⟨by rfl, rfl⟩) hH ?_
            try simp only [Act.put, List.setIfInBounds_toArray, List.set_cons_zero, List.set_cons_succ]
            refine wpAnyH_take (i := 11) (oi := ({ dst := some 49, op := Go.Op.move (Go.Operand.tmp 7), type := 3, pos := "law.go:121", after := #[{ on := 9, ground := Go.Ground.guard }], guard := some (9, true) } : Oper)) (v := undef) rfl (by kernel_rfl) (by kernel_rfl) (by kernel_rfl) (fun _ _ _ h => h) (Or.inr ⟨by rfl, rfl⟩) hH ?_
            try simp only [Act.put, List.setIfInBounds_toArray, List.set_cons_zero, List.set_cons_succ]
            refine wpAnyH_ready (rs := [12]) (by kernel_rfl) (by simp) ?_
            refine AllReadyH.cons (o := ({ dst := some 50, op := Go.Op.call { callee := Go.Callee.value (Go.Operand.func 43), args := #[Go.Operand.tmp 48, Go.Operand.tmp 49], argTypes := #[37, 3] }, type := 4, pos := "law.go:121", after := #[{ on := 10, ground := Go.Ground.data }, { on := 11, ground := Go.Ground.data }, { on := 9, ground := Go.Ground.chain }, { on := 9, ground := Go.Ground.guard }], guard := some (9, true) } : Oper)) rfl (fun K hK => ?_) AllReadyH.nil
            refine iteInduction (motive := fun p => p) (fun h => absurd (show false = true from h) Bool.false_ne_true) (fun _ => ?_)
            refine hK.out _ _ hH (fun hH' => ?_)
            clear hH' hK K
            try simp only [Act.put, List.setIfInBounds_toArray, List.set_cons_zero, List.set_cons_succ]
            refine wpAnyH_take (i := 13) (oi := ({ dst := some 51, op := Go.Op.pick (Go.Operand.tmp 47) (Go.Operand.tmp 50) (Go.Operand.const (Go.Value.bool false)), type := 4, pos := "law.go:121", after := #[{ on := 9, ground := Go.Ground.data }, { on := 12, ground := Go.Ground.data }, { on := 2, ground := Go.Ground.guard }], guard := some (2, true) } : Oper)) (v := ?_) rfl (by kernel_rfl) (by kernel_rfl) (by kernel_rfl) (fun _ _ _ h => h) (Or.inl ⟨by rfl, ?_⟩) hH ?_
            rotate_left
            · intro w hSw; (try dsimp only at hSw); go_simp; try with_reducible rfl
            try simp only [Act.put, List.setIfInBounds_toArray, List.set_cons_zero, List.set_cons_succ]
            refine wpAnyH_take (i := 14) (oi := ({ dst := some 52, op := Go.Op.binOp Go.BinOp.neq 4 (Go.Operand.tmp 43) (Go.Operand.tmp 51) 4, type := 4, pos := "law.go:121", after := #[{ on := 5, ground := Go.Ground.data }, { on := 13, ground := Go.Ground.data }, { on := 2, ground := Go.Ground.guard }], guard := some (2, true) } : Oper)) (v := ?_) rfl (by kernel_rfl) (by kernel_rfl) (by kernel_rfl) (fun _ _ _ h => h) (Or.inl ⟨by rfl, ?_⟩) hH ?_
            rotate_left
            · intro w hSw; (try dsimp only at hSw); go_simp; try with_reducible rfl
            try simp only [Act.put, List.setIfInBounds_toArray, List.set_cons_zero, List.set_cons_succ]
            refine wpAnyH_take (i := 15) (oi := ({ dst := some 53, op := Go.Op.pick (Go.Operand.tmp 40) (Go.Operand.tmp 52) (Go.Operand.const (Go.Value.bool false)), type := 4, pos := "law.go:121", after := #[{ on := 2, ground := Go.Ground.data }, { on := 14, ground := Go.Ground.data }], guard := none } : Oper)) (v := ?_) rfl (by kernel_rfl) (by kernel_rfl) (by kernel_rfl) (fun _ _ _ h => h) (Or.inl ⟨by rfl, ?_⟩) hH ?_
            rotate_left
            · intro w hSw; (try dsimp only at hSw); go_simp; try with_reducible rfl
            try simp only [Act.put, List.setIfInBounds_toArray, List.set_cons_zero, List.set_cons_succ]
            refine wpAnyH_take (i := 16) (oi := ({ dst := some 54, op := Go.Op.move (Go.Operand.tmp 53), type := 4, pos := "law.go:121", after := #[{ on := 15, ground := Go.Ground.data }, { on := 12, ground := Go.Ground.chain }], guard := none } : Oper)) (v := ?_) rfl (by kernel_rfl) (by kernel_rfl) (by kernel_rfl) (fun _ _ _ h => h) (Or.inl ⟨by rfl, ?_⟩) hH ?_
            rotate_left
            · intro w hSw; (try dsimp only at hSw); go_simp; try with_reducible rfl
            try simp only [Act.put, List.setIfInBounds_toArray, List.set_cons_zero, List.set_cons_succ]
            refine wpAnyH_take (i := 17) (oi := ({ dst := some 55, op := Go.Op.move (Go.Operand.tmp 10), type := 24, pos := "law.go:121", after := #[{ on := 16, ground := Go.Ground.guard }], guard := some (16, false) } : Oper)) (v := ?_) rfl (by kernel_rfl) (by kernel_rfl) (by kernel_rfl) (fun _ _ _ h => h) (Or.inl ⟨by rfl, ?_⟩) hH ?_
            rotate_left
            · intro w hSw; (try dsimp only at hSw); go_simp; try with_reducible rfl
            try simp only [Act.put, List.setIfInBounds_toArray, List.set_cons_zero, List.set_cons_succ]
            refine wpAnyH_take (i := 18) (oi := ({ dst := some 56, op := Go.Op.binOp Go.BinOp.eql 24 (Go.Operand.tmp 55) (Go.Operand.const (Go.Value.int Go.IntKind.i64 8)) 24, type := 4, pos := "law.go:121", after := #[{ on := 17, ground := Go.Ground.data }, { on := 16, ground := Go.Ground.guard }], guard := some (16, false) } : Oper)) (v := ?_) rfl (by kernel_rfl) (by kernel_rfl) (by kernel_rfl) (fun _ _ _ h => h) (Or.inl ⟨by rfl, ?_⟩) hH ?_
            rotate_left
            · intro w hSw; (try dsimp only at hSw); go_simp; try with_reducible rfl
            try simp only [Act.put, List.setIfInBounds_toArray, List.set_cons_zero, List.set_cons_succ]
            refine wpAnyH_take (i := 19) (oi := ({ dst := some 57, op := Go.Op.move (Go.Operand.tmp 56), type := 4, pos := "law.go:121", after := #[{ on := 18, ground := Go.Ground.data }, { on := 16, ground := Go.Ground.chain }, { on := 16, ground := Go.Ground.guard }], guard := some (16, false) } : Oper)) (v := ?_) rfl (by kernel_rfl) (by kernel_rfl) (by kernel_rfl) (fun _ _ _ h => h) (Or.inl ⟨by rfl, ?_⟩) hH ?_
            rotate_left
            · intro w hSw; (try dsimp only at hSw); go_simp; try with_reducible rfl
            try simp only [Act.put, List.setIfInBounds_toArray, List.set_cons_zero, List.set_cons_succ]
            refine wpAnyH_take (i := 20) (oi := ({ dst := some 58, op := Go.Op.load 37 (Go.Operand.tmp 3), type := 37, pos := "law.go:121", after := #[{ on := 19, ground := Go.Ground.guard }], guard := some (19, true) } : Oper)) (v := undef) rfl (by kernel_rfl) (by kernel_rfl) (by kernel_rfl) (fun _ _ _ h => h) (Or.inr ⟨by rfl, rfl⟩) hH ?_
            try simp only [Act.put, List.setIfInBounds_toArray, List.set_cons_zero, List.set_cons_succ]
            refine wpAnyH_take (i := 21) (oi := ({ dst := some 59, op := Go.Op.move (Go.Operand.tmp 7), type := 3, pos := "law.go:121", after := #[{ on := 19, ground := Go.Ground.guard }], guard := some (19, true) } : Oper)) (v := undef) rfl (by kernel_rfl) (by kernel_rfl) (by kernel_rfl) (fun _ _ _ h => h) (Or.inr ⟨by rfl, rfl⟩) hH ?_
            try simp only [Act.put, List.setIfInBounds_toArray, List.set_cons_zero, List.set_cons_succ]
            refine wpAnyH_ready (rs := [22]) (by kernel_rfl) (by simp) ?_
            refine AllReadyH.cons (o := ({ dst := some 60, op := Go.Op.call { callee := Go.Callee.value (Go.Operand.func 43), args := #[Go.Operand.tmp 58, Go.Operand.tmp 59], argTypes := #[37, 3] }, type := 4, pos := "law.go:121", after := #[{ on := 20, ground := Go.Ground.data }, { on := 21, ground := Go.Ground.data }, { on := 19, ground := Go.Ground.chain }, { on := 19, ground := Go.Ground.guard }], guard := some (19, true) } : Oper)) rfl (fun K hK => ?_) AllReadyH.nil
            refine iteInduction (motive := fun p => p) (fun h => absurd (show false = true from h) Bool.false_ne_true) (fun _ => ?_)
            refine hK.out _ _ hH (fun hH' => ?_)
            clear hH' hK K
            try simp only [Act.put, List.setIfInBounds_toArray, List.set_cons_zero, List.set_cons_succ]
            refine wpAnyH_take (i := 23) (oi := ({ dst := some 61, op := Go.Op.pick (Go.Operand.tmp 57) (Go.Operand.tmp 60) (Go.Operand.const (Go.Value.bool false)), type := 4, pos := "law.go:121", after := #[{ on := 19, ground := Go.Ground.data }, { on := 22, ground := Go.Ground.data }, { on := 16, ground := Go.Ground.guard }], guard := some (16, false) } : Oper)) (v := ?_) rfl (by kernel_rfl) (by kernel_rfl) (by kernel_rfl) (fun _ _ _ h => h) (Or.inl ⟨by rfl, ?_⟩) hH ?_
            rotate_left
            · intro w hSw; (try dsimp only at hSw); go_simp; try with_reducible rfl
            try simp only [Act.put, List.setIfInBounds_toArray, List.set_cons_zero, List.set_cons_succ]
            refine wpAnyH_take (i := 24) (oi := ({ dst := some 62, op := Go.Op.move (Go.Operand.tmp 61), type := 4, pos := "law.go:121", after := #[{ on := 23, ground := Go.Ground.data }, { on := 22, ground := Go.Ground.chain }, { on := 16, ground := Go.Ground.guard }], guard := some (16, false) } : Oper)) (v := ?_) rfl (by kernel_rfl) (by kernel_rfl) (by kernel_rfl) (fun _ _ _ h => h) (Or.inl ⟨by rfl, ?_⟩) hH ?_
            rotate_left
            · intro w hSw; (try dsimp only at hSw); go_simp; try with_reducible rfl
            try simp only [Act.put, List.setIfInBounds_toArray, List.set_cons_zero, List.set_cons_succ]
            refine wpAnyH_take (i := 25) (oi := ({ dst := some 63, op := Go.Op.load 37 (Go.Operand.tmp 4), type := 37, pos := "law.go:121", after := #[{ on := 24, ground := Go.Ground.guard }], guard := some (24, true) } : Oper)) (v := undef) rfl (by kernel_rfl) (by kernel_rfl) (by kernel_rfl) (fun _ _ _ h => h) (Or.inr ⟨by rfl, rfl⟩) hH ?_
            try simp only [Act.put, List.setIfInBounds_toArray, List.set_cons_zero, List.set_cons_succ]
            refine wpAnyH_take (i := 26) (oi := ({ dst := some 64, op := Go.Op.move (Go.Operand.tmp 7), type := 3, pos := "law.go:121", after := #[{ on := 24, ground := Go.Ground.guard }], guard := some (24, true) } : Oper)) (v := undef) rfl (by kernel_rfl) (by kernel_rfl) (by kernel_rfl) (fun _ _ _ h => h) (Or.inr ⟨by rfl, rfl⟩) hH ?_
            try simp only [Act.put, List.setIfInBounds_toArray, List.set_cons_zero, List.set_cons_succ]
            refine wpAnyH_ready (rs := [27]) (by kernel_rfl) (by simp) ?_
            refine AllReadyH.cons (o := ({ dst := some 65, op := Go.Op.call { callee := Go.Callee.value (Go.Operand.func 43), args := #[Go.Operand.tmp 63, Go.Operand.tmp 64], argTypes := #[37, 3] }, type := 4, pos := "law.go:121", after := #[{ on := 25, ground := Go.Ground.data }, { on := 26, ground := Go.Ground.data }, { on := 24, ground := Go.Ground.chain }, { on := 24, ground := Go.Ground.guard }], guard := some (24, true) } : Oper)) rfl (fun K hK => ?_) AllReadyH.nil
            refine iteInduction (motive := fun p => p) (fun h => absurd (show false = true from h) Bool.false_ne_true) (fun _ => ?_)
            refine hK.out _ _ hH (fun hH' => ?_)
            clear hH' hK K
            try simp only [Act.put, List.setIfInBounds_toArray, List.set_cons_zero, List.set_cons_succ]
            refine wpAnyH_take (i := 28) (oi := ({ dst := some 66, op := Go.Op.pick (Go.Operand.tmp 62) (Go.Operand.tmp 65) (Go.Operand.const (Go.Value.bool false)), type := 4, pos := "law.go:121", after := #[{ on := 24, ground := Go.Ground.data }, { on := 27, ground := Go.Ground.data }, { on := 16, ground := Go.Ground.guard }], guard := some (16, false) } : Oper)) (v := ?_) rfl (by kernel_rfl) (by kernel_rfl) (by kernel_rfl) (fun _ _ _ h => h) (Or.inl ⟨by rfl, ?_⟩) hH ?_
            rotate_left
            · intro w hSw; (try dsimp only at hSw); go_simp; try with_reducible rfl
            try simp only [Act.put, List.setIfInBounds_toArray, List.set_cons_zero, List.set_cons_succ]
            refine wpAnyH_take (i := 29) (oi := ({ dst := some 67, op := Go.Op.pick (Go.Operand.tmp 54) (Go.Operand.const (Go.Value.bool true)) (Go.Operand.tmp 66), type := 4, pos := "law.go:121", after := #[{ on := 16, ground := Go.Ground.data }, { on := 28, ground := Go.Ground.data }], guard := none } : Oper)) (v := ?_) rfl (by kernel_rfl) (by kernel_rfl) (by kernel_rfl) (fun _ _ _ h => h) (Or.inl ⟨by rfl, ?_⟩) hH ?_
            rotate_left
            · intro w hSw; (try dsimp only at hSw); go_simp; try with_reducible rfl
            try simp only [Act.put, List.setIfInBounds_toArray, List.set_cons_zero, List.set_cons_succ]
            refine wpAnyH_done (by kernel_rfl) ?_ _
            refine NoPanic.normal ?_
            all_goals (go_wp2_with fail; go_meet; exact ⟨rfl, BW.tr hH.1, hH.2.1, hH.2.2.1, hH.2.2.2.1, hH.2.2.2.2.1⟩)
      case rest =>
        obtain ⟨rfl, Q5, ka0, ka1, kb0, kb1⟩ := hcut
        have zq5 := Q5.size
        have la := lt_of_cell' ka0
        have lb := lt_of_cell' kb0
        go_wp2_with fail
        refine (hull_at _ _ _ _ _ Hva.out Hvb.out).mono ?_
        rintro e w4 ⟨⟨lo, hi, ⟨g1, g2, g3, g4⟩, rfl⟩, hb⟩
        obtain ⟨hc, hf⟩ := bcell hb
        have ka0' := (hc (w.heap.size) 0 (by (try simp only [World.size_alloc, World.size_drew, sz_drewN]); omega)).trans (show _ = some (.int .i64 al) by go_cell)
        have ka1' := (hc (w.heap.size) 1 (by (try simp only [World.size_alloc, World.size_drew, sz_drewN]); omega)).trans (show _ = some (.int .i64 ah) by go_cell)
        clear ka0 ka1 hc hf
        have ka0 := ka0'
        have ka1 := ka1'
        clear ka0' ka1'
        obtain ⟨hc, hf⟩ := bcell hb
        have kb0' := (hc (w.heap.size + 1) 0 (by (try simp only [World.size_alloc, World.size_drew, sz_drewN]); omega)).trans (show _ = some (.int .i64 bl) by go_cell)
        have kb1' := (hc (w.heap.size + 1) 1 (by (try simp only [World.size_alloc, World.size_drew, sz_drewN]); omega)).trans (show _ = some (.int .i64 bh) by go_cell)
        clear kb0 kb1 hc hf
        have kb0 := kb0'
        have kb1 := kb1'
        clear kb0' kb1'
        have la := lt_of_cell' ka0
        have lb := lt_of_cell' kb0
        have B4 : Bl w w4 := Below.trans (by go_grown) (hb.mono (by (try simp only [World.size_alloc, World.size_setCell, World.size_drew, sz_drewN]); omega))
        have z4 := B4.size
        clear hb
        unfold rS
        go_upto_region 8 with fail
        go_cut [91] (fun c wx => c = .bool false ∧ Bl w wx ∧ wx.cell? ⟨w.heap.size, 0, none⟩ = some (.int .i64 al) ∧ wx.cell? ⟨w.heap.size, 1, none⟩ = some (.int .i64 ah) ∧ wx.cell? ⟨w.heap.size + 1, 0, none⟩ = some (.int .i64 bl) ∧ wx.cell? ⟨w.heap.size + 1, 1, none⟩ = some (.int .i64 bh))
        case first =>
          by_cases pa : al ≤ n ∧ n ≤ ah
          · obtain ⟨p1, p2⟩ := pa
            obtain ⟨p3, p4⟩ : lo ≤ n ∧ n ≤ hi := by omega
            go_wp2_with (go_at_call 43; first | (refine (has_t _ _ _ _ ?_ ?_).mono ?_; omega; omega; rintro e v ⟨rfl, rfl⟩) | (refine (has_f _ _ _ _ ?_).mono ?_; omega; rintro e v ⟨rfl, rfl⟩))
            go_meet
            exact ⟨rfl, by go_grown, cellUp ka0 (by go_grown), cellUp ka1 (by go_grown), cellUp kb0 (by go_grown), cellUp kb1 (by go_grown)⟩
          · have pa' : n < al ∨ ah < n := by omega
            clear pa
            by_cases pb : bl ≤ n ∧ n ≤ bh
            · obtain ⟨p1, p2⟩ := pb
              obtain ⟨p3, p4⟩ : lo ≤ n ∧ n ≤ hi := by omega
              go_wp2_with (go_at_call 43; first | (refine (has_t _ _ _ _ ?_ ?_).mono ?_; omega; omega; rintro e v ⟨rfl, rfl⟩) | (refine (has_f _ _ _ _ ?_).mono ?_; omega; rintro e v ⟨rfl, rfl⟩))
              go_meet
              exact ⟨rfl, by go_grown, cellUp ka0 (by go_grown), cellUp ka1 (by go_grown), cellUp kb0 (by go_grown), cellUp kb1 (by go_grown)⟩
            · have pb' : n < bl ∨ bh < n := by omega
              clear pb
              go_wp2_with (go_at_call 43; first | (refine (has_t _ _ _ _ ?_ ?_).mono ?_; omega; omega; rintro e v ⟨rfl, rfl⟩) | (refine (has_f _ _ _ _ ?_).mono ?_; omega; rintro e v ⟨rfl, rfl⟩))
              go_meet
              exact ⟨rfl, by go_grown, cellUp ka0 (by go_grown), cellUp ka1 (by go_grown), cellUp kb0 (by go_grown), cellUp kb1 (by go_grown)⟩
        case rest =>
          obtain ⟨rfl, Q8, ka0, ka1, kb0, kb1⟩ := hcut
          have zq8 := Q8.size
          have la := lt_of_cell' ka0
          have lb := lt_of_cell' kb0
          clear g1 g2 g3 g4
          obtain ⟨sr, hs⟩ : ∃ sr, limF (al + bl) (ah + bh) = sr := ⟨_, rfl⟩
          have Hs := Lib.hid hs
          clear hs
          go_wp2_with fail
          refine (sum_at _ _ _ _ _ Hva.out Hvb.out _ Hs.out).mono ?_
          rintro e w5 ⟨rfl, hb⟩
          obtain ⟨hc, hf⟩ := bcell hb
          have ka0' := (hc (w.heap.size) 0 (by (try simp only [World.size_alloc, World.size_drew, sz_drewN]); omega)).trans (show _ = some (.int .i64 al) by go_cell)
          have ka1' := (hc (w.heap.size) 1 (by (try simp only [World.size_alloc, World.size_drew, sz_drewN]); omega)).trans (show _ = some (.int .i64 ah) by go_cell)
          clear ka0 ka1 hc hf
          have ka0 := ka0'
          have ka1 := ka1'
          clear ka0' ka1'
          obtain ⟨hc, hf⟩ := bcell hb
          have kb0' := (hc (w.heap.size + 1) 0 (by (try simp only [World.size_alloc, World.size_drew, sz_drewN]); omega)).trans (show _ = some (.int .i64 bl) by go_cell)
          have kb1' := (hc (w.heap.size + 1) 1 (by (try simp only [World.size_alloc, World.size_drew, sz_drewN]); omega)).trans (show _ = some (.int .i64 bh) by go_cell)
          clear kb0 kb1 hc hf
          have kb0 := kb0'
          have kb1 := kb1'
          clear kb0' kb1'
          have la := lt_of_cell' ka0
          have lb := lt_of_cell' kb0
          have B5 : Bl w w5 := Below.trans (by go_grown) (hb.mono (by (try simp only [World.size_alloc, World.size_setCell, World.size_drew, sz_drewN]); omega))
          have z5 := B5.size
          clear hb
          unfold rS
          go_upto_region 11 with fail
          go_cut [117] (fun c wx => c = .bool false ∧ Bl w wx ∧ wx.cell? ⟨w.heap.size, 0, none⟩ = some (.int .i64 al) ∧ wx.cell? ⟨w.heap.size, 1, none⟩ = some (.int .i64 ah) ∧ wx.cell? ⟨w.heap.size + 1, 0, none⟩ = some (.int .i64 bl) ∧ wx.cell? ⟨w.heap.size + 1, 1, none⟩ = some (.int .i64 bh))
          case first =>
            rcases limF_cases (al + bl) (ah + bh) with e | e
            · obtain rfl := Hs.out.symm.trans e
              clear e Hs
              by_cases pa : al ≤ n ∧ n ≤ ah
              · obtain ⟨p1, p2⟩ := pa
                by_cases pb : bl ≤ m ∧ m ≤ bh
                · obtain ⟨p3, p4⟩ := pb
                  obtain ⟨p5, p6⟩ : al + bl ≤ n + m ∧ n + m ≤ ah + bh := by omega
                  go_wp2_with (go_at_call 43; first | (refine (has_t _ _ _ _ ?_ ?_).mono ?_; omega; omega; rintro e v ⟨rfl, rfl⟩) | (refine (has_f _ _ _ _ ?_).mono ?_; omega; rintro e v ⟨rfl, rfl⟩))
                  go_meet
                  exact ⟨rfl, by go_grown, cellUp ka0 (by go_grown), cellUp ka1 (by go_grown), cellUp kb0 (by go_grown), cellUp kb1 (by go_grown)⟩
                · have pb' : m < bl ∨ bh < m := by omega
                  clear pb
                  go_wp2_with (go_at_call 43; first | (refine (has_t _ _ _ _ ?_ ?_).mono ?_; omega; omega; rintro e v ⟨rfl, rfl⟩) | (refine (has_f _ _ _ _ ?_).mono ?_; omega; rintro e v ⟨rfl, rfl⟩))
                  go_meet
                  exact ⟨rfl, by go_grown, cellUp ka0 (by go_grown), cellUp ka1 (by go_grown), cellUp kb0 (by go_grown), cellUp kb1 (by go_grown)⟩
              · have pa' : n < al ∨ ah < n := by omega
                clear pa
                go_wp2_with (go_at_call 43; first | (refine (has_t _ _ _ _ ?_ ?_).mono ?_; omega; omega; rintro e v ⟨rfl, rfl⟩) | (refine (has_f _ _ _ _ ?_).mono ?_; omega; rintro e v ⟨rfl, rfl⟩))
                go_meet
                exact ⟨rfl, by go_grown, cellUp ka0 (by go_grown), cellUp ka1 (by go_grown), cellUp kb0 (by go_grown), cellUp kb1 (by go_grown)⟩
            · obtain rfl := Hs.out.symm.trans e
              clear e Hs
              go_wp2_with (go_at_call 43; first | (refine (has_t _ _ _ _ ?_ ?_).mono ?_; omega; omega; rintro e v ⟨rfl, rfl⟩) | (refine (has_f _ _ _ _ ?_).mono ?_; omega; rintro e v ⟨rfl, rfl⟩))
              go_meet
              exact ⟨rfl, by go_grown, cellUp ka0 (by go_grown), cellUp ka1 (by go_grown), cellUp kb0 (by go_grown), cellUp kb1 (by go_grown)⟩
          case rest =>
            obtain ⟨rfl, Q11, ka0, ka1, kb0, kb1⟩ := hcut
            have zq11 := Q11.size
            have la := lt_of_cell' ka0
            have lb := lt_of_cell' kb0
            clear Hs
            go_wp2_with fail
            refine (opp_at _ _ _ Hva.out).mono ?_
            rintro e w6 ⟨rfl, hb⟩
            obtain ⟨hc, hf⟩ := bcell hb
            have ka0' := (hc (w.heap.size) 0 (by (try simp only [World.size_alloc, World.size_drew, sz_drewN]); omega)).trans (show _ = some (.int .i64 al) by go_cell)
            have ka1' := (hc (w.heap.size) 1 (by (try simp only [World.size_alloc, World.size_drew, sz_drewN]); omega)).trans (show _ = some (.int .i64 ah) by go_cell)
            clear ka0 ka1 hc hf
            have ka0 := ka0'
            have ka1 := ka1'
            clear ka0' ka1'
            obtain ⟨hc, hf⟩ := bcell hb
            have kb0' := (hc (w.heap.size + 1) 0 (by (try simp only [World.size_alloc, World.size_drew, sz_drewN]); omega)).trans (show _ = some (.int .i64 bl) by go_cell)
            have kb1' := (hc (w.heap.size + 1) 1 (by (try simp only [World.size_alloc, World.size_drew, sz_drewN]); omega)).trans (show _ = some (.int .i64 bh) by go_cell)
            clear kb0 kb1 hc hf
            have kb0 := kb0'
            have kb1 := kb1'
            clear kb0' kb1'
            have la := lt_of_cell' ka0
            have lb := lt_of_cell' kb0
            have B6 : Bl w w6 := Below.trans (by go_grown) (hb.mono (by (try simp only [World.size_alloc, World.size_setCell, World.size_drew, sz_drewN]); omega))
            have z6 := B6.size
            clear hb
            unfold rS
            go_upto_region 14 with fail
            go_cut [136] (fun c wx => c = .bool false ∧ Bl w wx ∧ wx.cell? ⟨w.heap.size, 0, none⟩ = some (.int .i64 al) ∧ wx.cell? ⟨w.heap.size, 1, none⟩ = some (.int .i64 ah) ∧ wx.cell? ⟨w.heap.size + 1, 0, none⟩ = some (.int .i64 bl) ∧ wx.cell? ⟨w.heap.size + 1, 1, none⟩ = some (.int .i64 bh))
            case first =>
              by_cases pa : al ≤ n ∧ n ≤ ah
              · obtain ⟨p1, p2⟩ := pa
                go_wp2_with (go_at_call 43; first | (refine (has_t _ _ _ _ ?_ ?_).mono ?_; omega; omega; rintro e v ⟨rfl, rfl⟩) | (refine (has_f _ _ _ _ ?_).mono ?_; omega; rintro e v ⟨rfl, rfl⟩))
                go_meet
                exact ⟨rfl, by go_grown, cellUp ka0 (by go_grown), cellUp ka1 (by go_grown), cellUp kb0 (by go_grown), cellUp kb1 (by go_grown)⟩
              · have pa' : n < al ∨ ah < n := by omega
                clear pa
                go_wp2_with (go_at_call 43; first | (refine (has_t _ _ _ _ ?_ ?_).mono ?_; omega; omega; rintro e v ⟨rfl, rfl⟩) | (refine (has_f _ _ _ _ ?_).mono ?_; omega; rintro e v ⟨rfl, rfl⟩))
                go_meet
                exact ⟨rfl, by go_grown, cellUp ka0 (by go_grown), cellUp ka1 (by go_grown), cellUp kb0 (by go_grown), cellUp kb1 (by go_grown)⟩
            case rest =>
              obtain ⟨rfl, Q14, ka0, ka1, kb0, kb1⟩ := hcut
              have zq14 := Q14.size
              have la := lt_of_cell' ka0
              have lb := lt_of_cell' kb0
              obtain ⟨sr, hs⟩ : ∃ sr, limF (al - 1) (ah + 1) = sr := ⟨_, rfl⟩
              have Hs := Lib.hid hs
              clear hs
              go_wp2_with fail
              refine (wid_at _ _ _ Hva.out _ Hs.out).mono ?_
              rintro e w7 ⟨rfl, hb⟩
              obtain ⟨hc, hf⟩ := bcell hb
              have ka0' := (hc (w.heap.size) 0 (by (try simp only [World.size_alloc, World.size_drew, sz_drewN]); omega)).trans (show _ = some (.int .i64 al) by go_cell)
              have ka1' := (hc (w.heap.size) 1 (by (try simp only [World.size_alloc, World.size_drew, sz_drewN]); omega)).trans (show _ = some (.int .i64 ah) by go_cell)
              clear ka0 ka1 hc hf
              have ka0 := ka0'
              have ka1 := ka1'
              clear ka0' ka1'
              obtain ⟨hc, hf⟩ := bcell hb
              have kb0' := (hc (w.heap.size + 1) 0 (by (try simp only [World.size_alloc, World.size_drew, sz_drewN]); omega)).trans (show _ = some (.int .i64 bl) by go_cell)
              have kb1' := (hc (w.heap.size + 1) 1 (by (try simp only [World.size_alloc, World.size_drew, sz_drewN]); omega)).trans (show _ = some (.int .i64 bh) by go_cell)
              clear kb0 kb1 hc hf
              have kb0 := kb0'
              have kb1 := kb1'
              clear kb0' kb1'
              have la := lt_of_cell' ka0
              have lb := lt_of_cell' kb0
              have B7 : Bl w w7 := Below.trans (by go_grown) (hb.mono (by (try simp only [World.size_alloc, World.size_setCell, World.size_drew, sz_drewN]); omega))
              have z7 := B7.size
              clear hb
              unfold rS
              rcases limF_cases (al - 1) (ah + 1) with e | e
              · obtain rfl := Hs.out.symm.trans e
                clear e Hs
                by_cases pa : al ≤ n ∧ n ≤ ah
                · obtain ⟨p1, p2⟩ := pa
                  go_wp2_with (first | (go_at_call 43; first | (refine (has_t _ _ _ _ ?_ ?_).mono ?_; omega; omega; rintro e v ⟨rfl, rfl⟩) | (refine (has_f _ _ _ _ ?_).mono ?_; omega; rintro e v ⟨rfl, rfl⟩)) | (go_at_call 20; refine (awake_any _ (HM.out.below (by go_grown))).mono ?_; rintro e w8 ⟨rfl, hb8⟩))
                  go_ret
                  exact ⟨rfl, Below.trans (by go_grown) (hb8.mono (by (try simp only [World.size_alloc, World.size_setCell, World.size_drew, sz_drewN]); omega))⟩
                · have pa' : n < al ∨ ah < n := by omega
                  clear pa
                  go_wp2_with (first | (go_at_call 43; first | (refine (has_t _ _ _ _ ?_ ?_).mono ?_; omega; omega; rintro e v ⟨rfl, rfl⟩) | (refine (has_f _ _ _ _ ?_).mono ?_; omega; rintro e v ⟨rfl, rfl⟩)) | (go_at_call 20; refine (awake_any _ (HM.out.below (by go_grown))).mono ?_; rintro e w8 ⟨rfl, hb8⟩))
                  go_ret
                  exact ⟨rfl, Below.trans (by go_grown) (hb8.mono (by (try simp only [World.size_alloc, World.size_setCell, World.size_drew, sz_drewN]); omega))⟩
              · obtain rfl := Hs.out.symm.trans e
                clear e Hs
                go_wp2_with (first | (go_at_call 43; first | (refine (has_t _ _ _ _ ?_ ?_).mono ?_; omega; omega; rintro e v ⟨rfl, rfl⟩) | (refine (has_f _ _ _ _ ?_).mono ?_; omega; rintro e v ⟨rfl, rfl⟩)) | (go_at_call 20; refine (awake_any _ (HM.out.below (by go_grown))).mono ?_; rintro e w8 ⟨rfl, hb8⟩))
                go_ret
                exact ⟨rfl, Below.trans (by go_grown) (hb8.mono (by (try simp only [World.size_alloc, World.size_setCell, World.size_drew, sz_drewN]); omega))⟩
    · have hvb' : vS bl bh = false := by simpa using hvb
      have Hvb := Lib.hid hvb'
      clear hvb hvb'
      go_enter Tryd.func9, Tryd.ntmps9
      go_wp2_with fail
      refine (rvS_t _ _ _ Hva.out).mono ?_
      rintro e w1 ⟨rfl, hb⟩
      obtain ⟨ka0, ka1, kaf, kag, kal⟩ := kept2 (b := w.heap.size) (x := .int .i64 al) (y := .int .i64 ah) hb ⟨by go_cell, by go_cell, (by (try simp only [frozen?_alloc_cells, World.frozen?_setCell, fz_drew, fz_drewN]); first | assumption | exact frozen_beyond (by (try simp only [World.size_alloc, World.size_setCell, World.size_drew, sz_drewN]); omega)), (by (try simp only [frozen?_alloc_cells, World.frozen?_setCell, fz_drew, fz_drewN]); first | assumption | exact frozen_beyond (by (try simp only [World.size_alloc, World.size_setCell, World.size_drew, sz_drewN]); omega)), (by (try simp only [World.size_alloc, World.size_setCell, World.size_drew, sz_drewN]); omega)⟩
      obtain ⟨kb0, kb1, kbf, kbg, kbl⟩ := kept2 (b := w.heap.size + 1) (x := .int .i64 bl) (y := .int .i64 bh) hb ⟨by go_cell, by go_cell, (by (try simp only [frozen?_alloc_cells, World.frozen?_setCell, fz_drew, fz_drewN]); first | assumption | exact frozen_beyond (by (try simp only [World.size_alloc, World.size_setCell, World.size_drew, sz_drewN]); omega)), (by (try simp only [frozen?_alloc_cells, World.frozen?_setCell, fz_drew, fz_drewN]); first | assumption | exact frozen_beyond (by (try simp only [World.size_alloc, World.size_setCell, World.size_drew, sz_drewN]); omega)), (by (try simp only [World.size_alloc, World.size_setCell, World.size_drew, sz_drewN]); omega)⟩
      have B1 : Bl w w1 := Bl.tr (by go_grown) hb
      have z1 := B1.size
      clear hb
      go_wp2_with fail
      refine (rvS_f _ _ _ Hvb.out).mono ?_
      rintro e w2 ⟨rfl, hb⟩
      have B2 : Bl w w2 := Below.trans (by go_grown) (hb.mono (by (try simp only [World.size_alloc, World.size_setCell, World.size_drew, sz_drewN]); omega))
      have z2 := B2.size
      clear hb
      go_wp2_with fail
      refine (awake_any _ (HM.out.below (by go_grown))).mono ?_
      rintro e w8 ⟨rfl, hb⟩
      have B3 : Bl w w8 := Below.trans (by go_grown) (hb.mono (by (try simp only [World.size_alloc, World.size_setCell, World.size_drew, sz_drewN]); omega))
      have z3 := B3.size
      clear hb
      go_wp2
      go_ret
      exact ⟨rfl, by go_grown⟩
  · have hva' : vS al ah = false := by simpa using hva
    have Hva := Lib.hid hva'
    clear hva hva'
    go_enter Tryd.func9, Tryd.ntmps9
    go_wp2_with fail
    refine (rvS_f _ _ _ Hva.out).mono ?_
    rintro e w1 ⟨rfl, hb⟩
    have B1 : Bl w w1 := Bl.tr (by go_grown) hb
    have z1 := B1.size
    clear hb
    go_wp2_with fail
    refine (awake_any _ (HM.out.below (by go_grown))).mono ?_
    rintro e w8 ⟨rfl, hb⟩
    have B2 : Bl w w8 := Below.trans (by go_grown) (hb.mono (by (try simp only [World.size_alloc, World.size_setCell, World.size_drew, sz_drewN]); omega))
    have z2 := B2.size
    clear hb
    go_wp2
    go_ret
    exact ⟨rfl, by go_grown⟩
end Go.Proofs.YtiljfhkkinddeaaDoor
