/-
  Package sight: whether a list of marks proves a contradiction.
-/
import Derived.Test.YtennmdlajealpaaUA
import Derived.BigQuiet
import Derived.Deep.QuietTactic
import Derived.Deep.RegionHeld3
namespace Go.Proofs.Ytennmdlajealpaa
open Go.RowKit Go.Maps
set_option linter.unusedSimpArgs false
set_option linter.unusedVariables false

set_option maxRecDepth 100000 in
set_option maxHeartbeats 40000000 in
theorem proves_walk (A : Option Addr) (n c : Nat) (R : Nat → Int) (B : Option Addr) (m d : Nat) (S : Nat → Sgt) (L : Option Addr) (l cl : Nat) (T : Nat → Int) (w : World) (hA : Sl w A n R) (hB : Sgl w B m S) (hL : Sl w L l T) (hn : n ≤ maxLen) (hm : m ≤ maxLen) (hv : vnB R n S m = true) (h0 : 1 ≤ l) (hl2 : l ≤ 1000) (hr : ∀ j, j < l → rngS (T j)) (hk : mkB m (T (l - 1)) = true) :
    Calls Try.prog 22 #[encN A n c B m d, .slice L l cl] w fun e w' => e = .returned (.bool (vnB R n S m && prvV R S m T l)) ∧ Bl w w' := by
  have HV := Lib.hid (fun (W : World) (hW : Bl w W) => validN_any A n c R B m d S W (hA.below hW) (hB.below hW) hn hm)
  clear hn hm
  have HVN := Lib.hid (vn_iff.1 hv)
  rw [hv] at HV
  rw [hv, Bool.true_and]
  have HRG := Lib.hid hr
  have HPV := Lib.hid (fun p s => prvV_some (R := R) (S := S) (p := p) (s := s) h0 hk)
  have HPN := Lib.hid (prvV_none (R := R) (S := S) (m := m) (T := T) (n := l))
  have HLL := Lib.hid hL
  clear hv hr
  obtain ⟨g, off, rfl, hg, hc⟩ := hL (by omega)
  have hl := hc (l - 1) (by omega)
  obtain ⟨j, hj⟩ : ∃ j, j = l - 1 := ⟨_, rfl⟩
  rw [← hj] at hl
  have i1 : IntKind.i64.wrap ((l : Int) - 1) = (l : Int) - 1 := IntWalk.i64_in _ (by omega)
  have i1' : wrap64 ((l : Int) - 1) = (l : Int) - 1 := IntWalk.wrap64_in _ (by omega)
  have i2 : (0 : Int) ≤ (l : Int) - 1 := by omega
  have i3 : (l : Int) - 1 < (l : Int) := by omega
  have i4 : ((l : Int) - 1).toNat = j := by omega
  have i5 : (1 : Int) ≤ (l : Int) := by omega
  have i6 : 0 < l := by omega
  have i7 : ((l : Int) == 0) = false := by simp; omega
  have i8 : j < l := by omega
  have i9 : ¬ (l : Int) = 0 := by omega
  have i10 : ¬ l = 0 := by omega
  rw [← hj] at hk HPV HPN
  have HM0 := Lib.hid hk
  obtain ⟨k0, k1⟩ := mkB_iff.1 hk
  obtain ⟨kk, hkk⟩ : ∃ kk : Nat, T j = (kk : Int) := ⟨(T j).toNat, by omega⟩
  rw [hkk] at hl HPV HPN HM0 k0 k1
  have HKK := Lib.hid hkk
  rw [Int.toNat_natCast] at HPV HPN
  have HM := Lib.hid (show mkB m (kk : Int) = true from HM0.out)
  have HR := Lib.hid (show rngS (kk : Int) from by unfold rngS; have := HVN.out.m30; omega)
  have hsg := sgB_iff.1 (HVN.out.sg (kk / 2) (by omega))
  have HT := Lib.hid (fun (W : World) (hW : Bl w W) => taken_any A n c B m d S kk W (hB.below hW) (by omega) (by have := HVN.out.m30; omega) ⟨by omega, by omega⟩)
  have HP0 := Lib.hid (tkn_ok HVN.out (k := kk) (by omega)).2.1
  obtain ⟨fp, hfp⟩ : ∃ fp, fp = (tkn S kk).1 := ⟨_, rfl⟩
  obtain ⟨tp, htp⟩ : ∃ tp, tp = (tkn S kk).2.1 := ⟨_, rfl⟩
  obtain ⟨ce, hce⟩ : ∃ ce, ce = (tkn S kk).2.2 := ⟨_, rfl⟩
  rw [← hfp, ← htp, ← hce] at HT
  rw [← htp] at HPV HPN HP0
  have BL := ltb hl
  have HCL := Lib.hid hc
  have HSB := Lib.hid hB
  have HSA := Lib.hid hA
  clear hc hj hk k0 k1 hkk hsg hfp htp hce HM0
  go_enter Try.func22, Try.ntmps22
  go_wp2_with fail
  obtain ⟨BX, x0, x1⟩ := box_kS w A n c B m d
  obtain ⟨X, hX⟩ : ∃ X, X = w.alloc (Obj.cells #[.slice A n c, .slice B m d] 25) := ⟨_, rfl⟩
  rw [← hX] at BX x0 x1
  rw [← hX]
  clear hX
  have lX := ltb x0
  have hl' := kcb BX hl
  clear hl
  have hl := hl'
  clear hl' hL hA hB
  refine wp_region_noPanic ?_
  refine wp_region_held_drew (S := fun w' => Bl X w' ∧ w'.cell? ⟨w.heap.size, 0, none⟩ = some (.slice A n c) ∧ w'.cell? ⟨w.heap.size, 1, none⟩ = some (.slice B m d) ∧ w'.cell? ⟨g, off + j, none⟩ = some (.int .i64 ((kk : Int)))) (by kernel_rfl) (⟨bl_drS _, kcb (bl_drS _) x0, kcb (bl_drS _) x1, kcb (bl_drS _) hl⟩) (fun hH => ?_)
  refine wpAnyH_take (i := 0) (oi := ({ dst := some 14, op := Go.Op.load 25 (Go.Operand.tmp 2), type := 25, pos := "proof.go:27", after := #[], guard := none } : Oper)) (v := ?_) rfl (by kernel_rfl) (by kernel_rfl) (by kernel_rfl) (fun _ _ _ h => h) (Or.inl ⟨by rfl, ?_⟩) hH ?_
  rotate_left
  · intro w hSw; (try dsimp only at hSw); go_simp; try with_reducible rfl
  try simp only [Act.put, List.setIfInBounds_toArray, List.set_cons_zero, List.set_cons_succ]
  refine wpAnyH_ready (rs := [1]) (by kernel_rfl) (by simp) ?_
  refine AllReadyH.cons (o := ({ dst := some 15, op := Go.Op.call { callee := Go.Callee.value (Go.Operand.func 17), args := #[Go.Operand.tmp 14], argTypes := #[25] }, type := 4, pos := "proof.go:27", after := #[{ on := 0, ground := Go.Ground.data }], guard := none } : Oper)) rfl (fun K hK => ?_) AllReadyH.nil
  go_simp
  go_at_call 17
  refine (HV.out _ (BX.tr hH.1)).mono ?_
  rintro e9 w9 ⟨rfl, hb⟩
  refine hK.out _ _ ⟨hH.1.tr hb, kcb hb hH.2.1, kcb hb hH.2.2.1, kcb hb hH.2.2.2⟩ (fun hH' => ?_)
  clear hH
  have hH := hH'
  clear hH' hK K
  try simp only [Act.put, List.setIfInBounds_toArray, List.set_cons_zero, List.set_cons_succ]
  refine wpAnyH_take (i := 2) (oi := ({ dst := some 16, op := Go.Op.unOp Go.UnOp.not 4 (Go.Operand.tmp 15), type := 4, pos := "proof.go:27", after := #[{ on := 1, ground := Go.Ground.data }], guard := none } : Oper)) (v := ?_) rfl (by kernel_rfl) (by kernel_rfl) (by kernel_rfl) (fun _ _ _ h => h) (Or.inl ⟨by rfl, ?_⟩) hH ?_
  rotate_left
  · intro w hSw; (try dsimp only at hSw); go_simp; try with_reducible rfl
  try simp only [Act.put, List.setIfInBounds_toArray, List.set_cons_zero, List.set_cons_succ]
  refine wpAnyH_take (i := 3) (oi := ({ dst := some 17, op := Go.Op.move (Go.Operand.tmp 16), type := 4, pos := "proof.go:27", after := #[{ on := 2, ground := Go.Ground.data }, { on := 1, ground := Go.Ground.chain }], guard := none } : Oper)) (v := ?_) rfl (by kernel_rfl) (by kernel_rfl) (by kernel_rfl) (fun _ _ _ h => h) (Or.inl ⟨by rfl, ?_⟩) hH ?_
  rotate_left
  · intro w hSw; (try dsimp only at hSw); go_simp; try with_reducible rfl
  try simp only [Act.put, List.setIfInBounds_toArray, List.set_cons_zero, List.set_cons_succ]
  refine wpAnyH_take (i := 4) (oi := ({ dst := some 18, op := Go.Op.move (Go.Operand.tmp 1), type := 22, pos := "proof.go:27", after := #[{ on := 3, ground := Go.Ground.guard }], guard := some (3, false) } : Oper)) (v := ?_) rfl (by kernel_rfl) (by kernel_rfl) (by kernel_rfl) (fun _ _ _ h => h) (Or.inl ⟨by rfl, ?_⟩) hH ?_
  rotate_left
  · intro w hSw; (try dsimp only at hSw); go_simp; try with_reducible rfl
  try simp only [Act.put, List.setIfInBounds_toArray, List.set_cons_zero, List.set_cons_succ]
  refine wpAnyH_take (i := 5) (oi := ({ dst := some 19, op := Go.Op.call { callee := Go.Callee.builtin Go.Builtin.len, args := #[Go.Operand.tmp 18], argTypes := #[22] }, type := 3, pos := "proof.go:27", after := #[{ on := 4, ground := Go.Ground.data }, { on := 3, ground := Go.Ground.guard }], guard := some (3, false) } : Oper)) (v := ?_) rfl (by kernel_rfl) (by kernel_rfl) (by kernel_rfl) (fun _ _ _ h => h) (Or.inl ⟨by rfl, ?_⟩) hH ?_
  rotate_left
  · intro w hSw; (try dsimp only at hSw); go_simp; try with_reducible rfl
  try simp only [Act.put, List.setIfInBounds_toArray, List.set_cons_zero, List.set_cons_succ]
  refine wpAnyH_take (i := 6) (oi := ({ dst := some 20, op := Go.Op.binOp Go.BinOp.eql 3 (Go.Operand.tmp 19) (Go.Operand.const (Go.Value.int Go.IntKind.i64 0)) 3, type := 4, pos := "proof.go:27", after := #[{ on := 5, ground := Go.Ground.data }, { on := 3, ground := Go.Ground.guard }], guard := some (3, false) } : Oper)) (v := ?_) rfl (by kernel_rfl) (by kernel_rfl) (by kernel_rfl) (fun _ _ _ h => h) (Or.inl ⟨by rfl, ?_⟩) hH ?_
  rotate_left
  · intro w hSw; (try dsimp only at hSw); go_simp; try with_reducible rfl
  try simp only [Act.put, List.setIfInBounds_toArray, List.set_cons_zero, List.set_cons_succ]
  refine wpAnyH_take (i := 7) (oi := ({ dst := some 21, op := Go.Op.pick (Go.Operand.tmp 17) (Go.Operand.const (Go.Value.bool true)) (Go.Operand.tmp 20), type := 4, pos := "proof.go:27", after := #[{ on := 3, ground := Go.Ground.data }, { on := 6, ground := Go.Ground.data }], guard := none } : Oper)) (v := ?_) rfl (by kernel_rfl) (by kernel_rfl) (by kernel_rfl) (fun _ _ _ h => h) (Or.inl ⟨by rfl, ?_⟩) hH ?_
  rotate_left
  · intro w hSw; (try dsimp only at hSw); go_simp; try with_reducible rfl
  try simp only [Act.put, List.setIfInBounds_toArray, List.set_cons_zero, List.set_cons_succ]
  refine wpAnyH_take (i := 8) (oi := ({ dst := some 22, op := Go.Op.move (Go.Operand.tmp 21), type := 4, pos := "proof.go:27", after := #[{ on := 7, ground := Go.Ground.data }, { on := 3, ground := Go.Ground.chain }], guard := none } : Oper)) (v := ?_) rfl (by kernel_rfl) (by kernel_rfl) (by kernel_rfl) (fun _ _ _ h => h) (Or.inl ⟨by rfl, ?_⟩) hH ?_
  rotate_left
  · intro w hSw; (try dsimp only at hSw); go_simp; try with_reducible rfl
  try simp only [Act.put, List.setIfInBounds_toArray, List.set_cons_zero, List.set_cons_succ]
  refine wpAnyH_take (i := 9) (oi := ({ dst := some 23, op := Go.Op.load 25 (Go.Operand.tmp 2), type := 25, pos := "proof.go:27", after := #[{ on := 8, ground := Go.Ground.guard }], guard := some (8, false) } : Oper)) (v := ?_) rfl (by kernel_rfl) (by kernel_rfl) (by kernel_rfl) (fun _ _ _ h => h) (Or.inl ⟨by rfl, ?_⟩) hH ?_
  rotate_left
  · intro w hSw; (try dsimp only at hSw); go_simp; try with_reducible rfl
  try simp only [Act.put, List.setIfInBounds_toArray, List.set_cons_zero, List.set_cons_succ]
  refine wpAnyH_take (i := 10) (oi := ({ dst := some 24, op := Go.Op.move (Go.Operand.tmp 1), type := 22, pos := "proof.go:27", after := #[{ on := 8, ground := Go.Ground.guard }], guard := some (8, false) } : Oper)) (v := ?_) rfl (by kernel_rfl) (by kernel_rfl) (by kernel_rfl) (fun _ _ _ h => h) (Or.inl ⟨by rfl, ?_⟩) hH ?_
  rotate_left
  · intro w hSw; (try dsimp only at hSw); go_simp; try with_reducible rfl
  try simp only [Act.put, List.setIfInBounds_toArray, List.set_cons_zero, List.set_cons_succ]
  refine wpAnyH_take (i := 11) (oi := ({ dst := some 25, op := Go.Op.move (Go.Operand.tmp 1), type := 22, pos := "proof.go:27", after := #[{ on := 8, ground := Go.Ground.guard }], guard := some (8, false) } : Oper)) (v := ?_) rfl (by kernel_rfl) (by kernel_rfl) (by kernel_rfl) (fun _ _ _ h => h) (Or.inl ⟨by rfl, ?_⟩) hH ?_
  rotate_left
  · intro w hSw; (try dsimp only at hSw); go_simp; try with_reducible rfl
  try simp only [Act.put, List.setIfInBounds_toArray, List.set_cons_zero, List.set_cons_succ]
  refine wpAnyH_take (i := 12) (oi := ({ dst := some 26, op := Go.Op.call { callee := Go.Callee.builtin Go.Builtin.len, args := #[Go.Operand.tmp 25], argTypes := #[22] }, type := 3, pos := "proof.go:27", after := #[{ on := 11, ground := Go.Ground.data }, { on := 8, ground := Go.Ground.guard }], guard := some (8, false) } : Oper)) (v := ?_) rfl (by kernel_rfl) (by kernel_rfl) (by kernel_rfl) (fun _ _ _ h => h) (Or.inl ⟨by rfl, ?_⟩) hH ?_
  rotate_left
  · intro w hSw; (try dsimp only at hSw); go_simp; try with_reducible rfl
  try simp only [Act.put, List.setIfInBounds_toArray, List.set_cons_zero, List.set_cons_succ]
  refine wpAnyH_take (i := 13) (oi := ({ dst := some 27, op := Go.Op.binOp Go.BinOp.sub 3 (Go.Operand.tmp 26) (Go.Operand.const (Go.Value.int Go.IntKind.i64 1)) 3, type := 3, pos := "proof.go:27", after := #[{ on := 12, ground := Go.Ground.data }, { on := 8, ground := Go.Ground.guard }], guard := some (8, false) } : Oper)) (v := ?_) rfl (by kernel_rfl) (by kernel_rfl) (by kernel_rfl) (fun _ _ _ h => h) (Or.inl ⟨by rfl, ?_⟩) hH ?_
  rotate_left
  · intro w hSw; (try dsimp only at hSw); go_simp; try with_reducible rfl
  try simp only [Act.put, List.setIfInBounds_toArray, List.set_cons_zero, List.set_cons_succ]
  refine wpAnyH_take (i := 14) (oi := ({ dst := some 28, op := Go.Op.indexAddr 22 (Go.Operand.tmp 24) (Go.Operand.tmp 27), type := 0, pos := "proof.go:27", after := #[{ on := 10, ground := Go.Ground.data }, { on := 13, ground := Go.Ground.data }, { on := 8, ground := Go.Ground.guard }], guard := some (8, false) } : Oper)) (v := ?_) rfl (by kernel_rfl) (by kernel_rfl) (by kernel_rfl) (fun _ _ _ h => h) (Or.inl ⟨by rfl, ?_⟩) hH ?_
  rotate_left
  · intro w hSw; (try dsimp only at hSw); go_simp; try with_reducible rfl
  try simp only [Act.put, List.setIfInBounds_toArray, List.set_cons_zero, List.set_cons_succ]
  refine wpAnyH_take (i := 15) (oi := ({ dst := some 29, op := Go.Op.load 3 (Go.Operand.tmp 28), type := 3, pos := "proof.go:27", after := #[{ on := 14, ground := Go.Ground.data }, { on := 8, ground := Go.Ground.guard }], guard := some (8, false) } : Oper)) (v := ?_) rfl (by kernel_rfl) (by kernel_rfl) (by kernel_rfl) (fun _ _ _ h => h) (Or.inl ⟨by rfl, ?_⟩) hH ?_
  rotate_left
  · intro w hSw; (try dsimp only at hSw); go_simp; try with_reducible rfl
  try simp only [Act.put, List.setIfInBounds_toArray, List.set_cons_zero, List.set_cons_succ]
  refine wpAnyH_ready (rs := [16]) (by kernel_rfl) (by simp) ?_
  refine AllReadyH.cons (o := ({ dst := some 30, op := Go.Op.call { callee := Go.Callee.value (Go.Operand.func 66), args := #[Go.Operand.tmp 23, Go.Operand.tmp 29], argTypes := #[25, 3] }, type := 4, pos := "proof.go:27", after := #[{ on := 9, ground := Go.Ground.data }, { on := 15, ground := Go.Ground.data }, { on := 8, ground := Go.Ground.chain }, { on := 8, ground := Go.Ground.guard }], guard := some (8, false) } : Oper)) rfl (fun K hK => ?_) AllReadyH.nil
  go_simp
  go_at_call 66
  refine (isMark_any A n c B m d (kk : Int) _ HR.out).mono ?_
  rintro e9 w9 ⟨rfl, hb⟩
  rw [HM.out]
  refine hK.out _ _ ⟨hH.1.tr hb, kcb hb hH.2.1, kcb hb hH.2.2.1, kcb hb hH.2.2.2⟩ (fun hH' => ?_)
  clear hH
  have hH := hH'
  clear hH' hK K
  try simp only [Act.put, List.setIfInBounds_toArray, List.set_cons_zero, List.set_cons_succ]
  refine wpAnyH_take (i := 17) (oi := ({ dst := some 31, op := Go.Op.unOp Go.UnOp.not 4 (Go.Operand.tmp 30), type := 4, pos := "proof.go:27", after := #[{ on := 16, ground := Go.Ground.data }, { on := 8, ground := Go.Ground.guard }], guard := some (8, false) } : Oper)) (v := ?_) rfl (by kernel_rfl) (by kernel_rfl) (by kernel_rfl) (fun _ _ _ h => h) (Or.inl ⟨by rfl, ?_⟩) hH ?_
  rotate_left
  · intro w hSw; (try dsimp only at hSw); go_simp; try with_reducible rfl
  try simp only [Act.put, List.setIfInBounds_toArray, List.set_cons_zero, List.set_cons_succ]
  refine wpAnyH_take (i := 18) (oi := ({ dst := some 32, op := Go.Op.pick (Go.Operand.tmp 22) (Go.Operand.const (Go.Value.bool true)) (Go.Operand.tmp 31), type := 4, pos := "proof.go:27", after := #[{ on := 8, ground := Go.Ground.data }, { on := 17, ground := Go.Ground.data }], guard := none } : Oper)) (v := ?_) rfl (by kernel_rfl) (by kernel_rfl) (by kernel_rfl) (fun _ _ _ h => h) (Or.inl ⟨by rfl, ?_⟩) hH ?_
  rotate_left
  · intro w hSw; (try dsimp only at hSw); go_simp; try with_reducible rfl
  try simp only [Act.put, List.setIfInBounds_toArray, List.set_cons_zero, List.set_cons_succ]
  refine wpAnyH_done (by kernel_rfl) ?_ _
  refine NoPanic.normal ?_
  clear x0 x1 hl
  obtain ⟨BH, x0, x1, hl⟩ := hH
  have z9 := BH.size
  go_wp2_with fail
  go_cut [5, 6, 7] (fun v5 v6 v7 wx => ∃ g5 g6, v5 = .pointer (some ⟨g5, 0, none⟩) ∧ v6 = .pointer (some ⟨g6, 0, none⟩) ∧ v7 = .int .i64 ce ∧ (Bl X wx ∧ wx.cell? ⟨w.heap.size, 0, none⟩ = some (.slice A n c) ∧ wx.cell? ⟨w.heap.size, 1, none⟩ = some (.slice B m d) ∧ wx.cell? ⟨g, off + j, none⟩ = some (.int .i64 (kk : Int))) ∧ X.heap.size ≤ g6 ∧ wx.cell? ⟨g6, 0, none⟩ = some (.int .i64 tp.1) ∧ wx.cell? ⟨g6, 1, none⟩ = some (.int .i64 tp.2) ∧ wx.frozen? ⟨g6, 0, none⟩ = false ∧ wx.frozen? ⟨g6, 1, none⟩ = false)
  case first =>
    refine wp_region_noPanic ?_
    refine wp_region_held_drew (S := fun w' => Bl X w' ∧ w'.cell? ⟨w.heap.size, 0, none⟩ = some (.slice A n c) ∧ w'.cell? ⟨w.heap.size, 1, none⟩ = some (.slice B m d) ∧ w'.cell? ⟨g, off + j, none⟩ = some (.int .i64 ((kk : Int)))) (by kernel_rfl) (⟨BH.tr (bl_drS _), kcb (bl_drS _) x0, kcb (bl_drS _) x1, kcb (bl_drS _) hl⟩) (fun hH => ?_)
    refine wpAnyH_take (i := 0) (oi := ({ dst := some 34, op := Go.Op.load 25 (Go.Operand.tmp 2), type := 25, pos := "proof.go:30", after := #[], guard := none } : Oper)) (v := ?_) rfl (by kernel_rfl) (by kernel_rfl) (by kernel_rfl) (fun _ _ _ h => h) (Or.inl ⟨by rfl, ?_⟩) hH ?_
    rotate_left
    · intro w hSw; (try dsimp only at hSw); go_simp; try with_reducible rfl
    try simp only [Act.put, List.setIfInBounds_toArray, List.set_cons_zero, List.set_cons_succ]
    refine wpAnyH_take (i := 1) (oi := ({ dst := some 35, op := Go.Op.move (Go.Operand.tmp 1), type := 22, pos := "proof.go:30", after := #[], guard := none } : Oper)) (v := ?_) rfl (by kernel_rfl) (by kernel_rfl) (by kernel_rfl) (fun _ _ _ h => h) (Or.inl ⟨by rfl, ?_⟩) hH ?_
    rotate_left
    · intro w hSw; (try dsimp only at hSw); go_simp; try with_reducible rfl
    try simp only [Act.put, List.setIfInBounds_toArray, List.set_cons_zero, List.set_cons_succ]
    refine wpAnyH_take (i := 2) (oi := ({ dst := some 36, op := Go.Op.move (Go.Operand.tmp 1), type := 22, pos := "proof.go:30", after := #[], guard := none } : Oper)) (v := ?_) rfl (by kernel_rfl) (by kernel_rfl) (by kernel_rfl) (fun _ _ _ h => h) (Or.inl ⟨by rfl, ?_⟩) hH ?_
    rotate_left
    · intro w hSw; (try dsimp only at hSw); go_simp; try with_reducible rfl
    try simp only [Act.put, List.setIfInBounds_toArray, List.set_cons_zero, List.set_cons_succ]
    refine wpAnyH_take (i := 3) (oi := ({ dst := some 37, op := Go.Op.call { callee := Go.Callee.builtin Go.Builtin.len, args := #[Go.Operand.tmp 36], argTypes := #[22] }, type := 3, pos := "proof.go:30", after := #[{ on := 2, ground := Go.Ground.data }], guard := none } : Oper)) (v := ?_) rfl (by kernel_rfl) (by kernel_rfl) (by kernel_rfl) (fun _ _ _ h => h) (Or.inl ⟨by rfl, ?_⟩) hH ?_
    rotate_left
    · intro w hSw; (try dsimp only at hSw); go_simp; try with_reducible rfl
    try simp only [Act.put, List.setIfInBounds_toArray, List.set_cons_zero, List.set_cons_succ]
    refine wpAnyH_take (i := 4) (oi := ({ dst := some 38, op := Go.Op.binOp Go.BinOp.sub 3 (Go.Operand.tmp 37) (Go.Operand.const (Go.Value.int Go.IntKind.i64 1)) 3, type := 3, pos := "proof.go:30", after := #[{ on := 3, ground := Go.Ground.data }], guard := none } : Oper)) (v := ?_) rfl (by kernel_rfl) (by kernel_rfl) (by kernel_rfl) (fun _ _ _ h => h) (Or.inl ⟨by rfl, ?_⟩) hH ?_
    rotate_left
    · intro w hSw; (try dsimp only at hSw); go_simp; try with_reducible rfl
    try simp only [Act.put, List.setIfInBounds_toArray, List.set_cons_zero, List.set_cons_succ]
    refine wpAnyH_take (i := 5) (oi := ({ dst := some 39, op := Go.Op.indexAddr 22 (Go.Operand.tmp 35) (Go.Operand.tmp 38), type := 0, pos := "proof.go:30", after := #[{ on := 1, ground := Go.Ground.data }, { on := 4, ground := Go.Ground.data }], guard := none } : Oper)) (v := ?_) rfl (by kernel_rfl) (by kernel_rfl) (by kernel_rfl) (fun _ _ _ h => h) (Or.inl ⟨by rfl, ?_⟩) hH ?_
    rotate_left
    · intro w hSw; (try dsimp only at hSw); go_simp; try with_reducible rfl
    try simp only [Act.put, List.setIfInBounds_toArray, List.set_cons_zero, List.set_cons_succ]
    refine wpAnyH_take (i := 6) (oi := ({ dst := some 40, op := Go.Op.load 3 (Go.Operand.tmp 39), type := 3, pos := "proof.go:30", after := #[{ on := 5, ground := Go.Ground.data }], guard := none } : Oper)) (v := ?_) rfl (by kernel_rfl) (by kernel_rfl) (by kernel_rfl) (fun _ _ _ h => h) (Or.inl ⟨by rfl, ?_⟩) hH ?_
    rotate_left
    · intro w hSw; (try dsimp only at hSw); go_simp; try with_reducible rfl
    try simp only [Act.put, List.setIfInBounds_toArray, List.set_cons_zero, List.set_cons_succ]
    refine wpAnyH_ready (rs := [7, 12, 13]) (by kernel_rfl) (by simp) ?_
    refine AllReadyH.cons (o := ({ dst := some 41, op := Go.Op.call { callee := Go.Callee.value (Go.Operand.func 67), args := #[Go.Operand.tmp 34, Go.Operand.tmp 40], argTypes := #[25, 3] }, type := 79, pos := "proof.go:30", after := #[{ on := 0, ground := Go.Ground.data }, { on := 6, ground := Go.Ground.data }], guard := none } : Oper)) rfl (fun K hK => ?_) (AllReadyH.cons (o := ({ dst := some 5, op := Go.Op.alloc 78, type := 0, pos := "proof.go:30", after := #[], guard := none } : Oper)) rfl (fun K hK => ?_) (AllReadyH.cons (o := ({ dst := some 6, op := Go.Op.alloc 78, type := 0, pos := "proof.go:30", after := #[], guard := none } : Oper)) rfl (fun K hK => ?_) (AllReadyH.nil)))
    · go_simp
      go_at_call 67
      refine (HT.out _ (BX.tr hH.1)).mono ?_
      rintro e8 w8 ⟨rfl, hb⟩
      have z8 := hb.size
      simp only [World.size_alloc, World.size_drew] at z8
      refine hK.out _ _ ⟨hH.1.tr hb, kcb hb hH.2.1, kcb hb hH.2.2.1, kcb hb hH.2.2.2⟩ (fun hH' => ?_)
      clear hH
      have hH := hH'
      clear hH' hK K
      try simp only [Act.put, List.setIfInBounds_toArray, List.set_cons_zero, List.set_cons_succ]
      refine wpAnyH_take (i := 8) (oi := ({ dst := some 33, op := Go.Op.move (Go.Operand.tmp 41), type := 79, pos := "proof.go:30", after := #[{ on := 7, ground := Go.Ground.data }], guard := none } : Oper)) (v := ?_) rfl (by kernel_rfl) (by kernel_rfl) (by kernel_rfl) (fun _ _ _ h => h) (Or.inl ⟨by rfl, ?_⟩) hH ?_
      rotate_left
      · intro w hSw; (try dsimp only at hSw); go_simp; try with_reducible rfl
      try simp only [Act.put, List.setIfInBounds_toArray, List.set_cons_zero, List.set_cons_succ]
      refine wpAnyH_take (i := 9) (oi := ({ dst := some 42, op := Go.Op.extract (Go.Operand.tmp 33) 0, type := 78, pos := "proof.go:30", after := #[{ on := 8, ground := Go.Ground.data }], guard := none } : Oper)) (v := ?_) rfl (by kernel_rfl) (by kernel_rfl) (by kernel_rfl) (fun _ _ _ h => h) (Or.inl ⟨by rfl, ?_⟩) hH ?_
      rotate_left
      · intro w hSw; (try dsimp only at hSw); go_simp; try with_reducible rfl
      try simp only [Act.put, List.setIfInBounds_toArray, List.set_cons_zero, List.set_cons_succ]
      refine wpAnyH_take (i := 10) (oi := ({ dst := some 43, op := Go.Op.extract (Go.Operand.tmp 33) 1, type := 78, pos := "proof.go:30", after := #[{ on := 8, ground := Go.Ground.data }, { on := 14, ground := Go.Ground.gcOnly Go.Departure.lateStores }], guard := none } : Oper)) (v := ?_) rfl (by kernel_rfl) (by kernel_rfl) (by kernel_rfl) (fun _ _ _ h => h) (Or.inl ⟨by rfl, ?_⟩) hH ?_
      rotate_left
      · intro w hSw; (try dsimp only at hSw); go_simp; try with_reducible rfl
      try simp only [Act.put, List.setIfInBounds_toArray, List.set_cons_zero, List.set_cons_succ]
      refine wpAnyH_take (i := 11) (oi := ({ dst := some 44, op := Go.Op.extract (Go.Operand.tmp 33) 2, type := 3, pos := "proof.go:30", after := #[{ on := 8, ground := Go.Ground.data }, { on := 15, ground := Go.Ground.gcOnly Go.Departure.lateStores }], guard := none } : Oper)) (v := ?_) rfl (by kernel_rfl) (by kernel_rfl) (by kernel_rfl) (fun _ _ _ h => h) (Or.inl ⟨by rfl, ?_⟩) hH ?_
      rotate_left
      · intro w hSw; (try dsimp only at hSw); go_simp; try with_reducible rfl
      try simp only [Act.put, List.setIfInBounds_toArray, List.set_cons_zero, List.set_cons_succ]
      refine wpAnyH_ready (rs := [12, 13]) (by kernel_rfl) (by simp) ?_
      refine AllReadyH.cons (o := ({ dst := some 5, op := Go.Op.alloc 78, type := 0, pos := "proof.go:30", after := #[], guard := none } : Oper)) rfl (fun K hK => ?_) (AllReadyH.cons (o := ({ dst := some 6, op := Go.Op.alloc 78, type := 0, pos := "proof.go:30", after := #[], guard := none } : Oper)) rfl (fun K hK => ?_) (AllReadyH.nil))
      · go_simp
        refine hK.out _ _ ⟨hH.1.tr (bl_alS _ _), kcb (bl_alS _ _) hH.2.1, kcb (bl_alS _ _) hH.2.2.1, kcb (bl_alS _ _) hH.2.2.2⟩ (fun hH' => ?_)
        clear hH
        have hH := hH'
        clear hH' hK K
        try simp only [Act.put, List.setIfInBounds_toArray, List.set_cons_zero, List.set_cons_succ]
        refine wpAnyH_ready (rs := [13]) (by kernel_rfl) (by simp) ?_
        refine AllReadyH.cons (o := ({ dst := some 6, op := Go.Op.alloc 78, type := 0, pos := "proof.go:30", after := #[], guard := none } : Oper)) rfl (fun K hK => ?_) (AllReadyH.nil)
        · go_simp
          refine hK.out _ _ ⟨hH.1.tr (bl_alS _ _), kcb (bl_alS _ _) hH.2.1, kcb (bl_alS _ _) hH.2.2.1, kcb (bl_alS _ _) hH.2.2.2⟩ (fun hH' => ?_)
          clear hH
          have hH := hH'
          clear hH' hK K
          try simp only [Act.put, List.setIfInBounds_toArray, List.set_cons_zero, List.set_cons_succ]
          have p50 : (((w8).alloc (Obj.cells #[.int .i64 0, .int .i64 0] 78)).alloc (Obj.cells #[.int .i64 0, .int .i64 0] 78)).cell? ⟨w8.heap.size, 0, none⟩ = some (.int .i64 0) := (by first | (go_cell; done) | exact z50 | exact cellUp z50)
          have f50 : (((w8).alloc (Obj.cells #[.int .i64 0, .int .i64 0] 78)).alloc (Obj.cells #[.int .i64 0, .int .i64 0] 78)).frozen? ⟨w8.heap.size, 0, none⟩ = false := (by first | (go_cell; done) | exact y50 | exact fzb (bl_alS _ _) y50 (ltb z50))
          have p51 : (((w8).alloc (Obj.cells #[.int .i64 0, .int .i64 0] 78)).alloc (Obj.cells #[.int .i64 0, .int .i64 0] 78)).cell? ⟨w8.heap.size, 1, none⟩ = some (.int .i64 0) := (by first | (go_cell; done) | exact z51 | exact cellUp z51)
          have f51 : (((w8).alloc (Obj.cells #[.int .i64 0, .int .i64 0] 78)).alloc (Obj.cells #[.int .i64 0, .int .i64 0] 78)).frozen? ⟨w8.heap.size, 1, none⟩ = false := (by first | (go_cell; done) | exact y51 | exact fzb (bl_alS _ _) y51 (ltb z51))
          have g5 : X.heap.size ≤ w8.heap.size := (by omega)
          have l5 := ltb p50
          have p60 : (((w8).alloc (Obj.cells #[.int .i64 0, .int .i64 0] 78)).alloc (Obj.cells #[.int .i64 0, .int .i64 0] 78)).cell? ⟨w8.heap.size + 1, 0, none⟩ = some (.int .i64 0) := (by first | (go_cell; done) | exact z60 | exact cellUp z60)
          have f60 : (((w8).alloc (Obj.cells #[.int .i64 0, .int .i64 0] 78)).alloc (Obj.cells #[.int .i64 0, .int .i64 0] 78)).frozen? ⟨w8.heap.size + 1, 0, none⟩ = false := (by first | (go_cell; done) | exact y60 | exact fzb (bl_alS _ _) y60 (ltb z60))
          have p61 : (((w8).alloc (Obj.cells #[.int .i64 0, .int .i64 0] 78)).alloc (Obj.cells #[.int .i64 0, .int .i64 0] 78)).cell? ⟨w8.heap.size + 1, 1, none⟩ = some (.int .i64 0) := (by first | (go_cell; done) | exact z61 | exact cellUp z61)
          have f61 : (((w8).alloc (Obj.cells #[.int .i64 0, .int .i64 0] 78)).alloc (Obj.cells #[.int .i64 0, .int .i64 0] 78)).frozen? ⟨w8.heap.size + 1, 1, none⟩ = false := (by first | (go_cell; done) | exact y61 | exact fzb (bl_alS _ _) y61 (ltb z61))
          have g6 : X.heap.size ≤ w8.heap.size + 1 := (by omega)
          have l6 := ltb p60
          generalize hY : (((w8).alloc (Obj.cells #[.int .i64 0, .int .i64 0] 78)).alloc (Obj.cells #[.int .i64 0, .int .i64 0] 78)) = Y at hH p50 p51 p60 p61 f50 f51 f60 f61 l5 l6 ⊢
          clear hY
          refine wpAnyH_ready (rs := [14]) (by kernel_rfl) (by simp) ?_
          refine AllReadyH.cons (o := ({ dst := none, op := Go.Op.store 78 (Go.Operand.tmp 5) (Go.Operand.tmp 42), type := 0, pos := "proof.go:30", after := #[{ on := 12, ground := Go.Ground.data }, { on := 9, ground := Go.Ground.data }, { on := 7, ground := Go.Ground.chain }, { on := 0, ground := Go.Ground.phase }, { on := 1, ground := Go.Ground.phase }, { on := 2, ground := Go.Ground.phase }, { on := 3, ground := Go.Ground.phase }, { on := 4, ground := Go.Ground.phase }, { on := 5, ground := Go.Ground.phase }, { on := 6, ground := Go.Ground.phase }, { on := 7, ground := Go.Ground.phase }, { on := 8, ground := Go.Ground.phase }, { on := 9, ground := Go.Ground.phase }, { on := 10, ground := Go.Ground.textOnly Go.Departure.lateStores }, { on := 11, ground := Go.Ground.textOnly Go.Departure.lateStores }, { on := 12, ground := Go.Ground.phase }, { on := 13, ground := Go.Ground.phase }], guard := none } : Oper)) rfl (fun K hK => ?_) AllReadyH.nil
          go_simp
          refine hK.out _ _ ⟨bl_set (bl_set hH.1 g5) g5, cell_setO (cell_setO hH.2.1 (by omega)) (by omega), cell_setO (cell_setO hH.2.2.1 (by omega)) (by omega), cell_setO (cell_setO hH.2.2.2 (by omega)) (by omega)⟩ (fun hH' => ?_)
          clear hH
          have hH := hH'
          clear hH' hK K
          try simp only [Act.put, List.setIfInBounds_toArray, List.set_cons_zero, List.set_cons_succ]
          refine wpAnyH_ready (rs := [15]) (by kernel_rfl) (by simp) ?_
          refine AllReadyH.cons (o := ({ dst := none, op := Go.Op.store 78 (Go.Operand.tmp 6) (Go.Operand.tmp 43), type := 0, pos := "proof.go:30", after := #[{ on := 13, ground := Go.Ground.data }, { on := 10, ground := Go.Ground.data }, { on := 14, ground := Go.Ground.chain }, { on := 0, ground := Go.Ground.phase }, { on := 1, ground := Go.Ground.phase }, { on := 2, ground := Go.Ground.phase }, { on := 3, ground := Go.Ground.phase }, { on := 4, ground := Go.Ground.phase }, { on := 5, ground := Go.Ground.phase }, { on := 6, ground := Go.Ground.phase }, { on := 7, ground := Go.Ground.phase }, { on := 8, ground := Go.Ground.phase }, { on := 9, ground := Go.Ground.phase }, { on := 10, ground := Go.Ground.phase }, { on := 11, ground := Go.Ground.textOnly Go.Departure.lateStores }, { on := 12, ground := Go.Ground.phase }, { on := 13, ground := Go.Ground.phase }, { on := 14, ground := Go.Ground.phase }], guard := none } : Oper)) rfl (fun K hK => ?_) AllReadyH.nil
          go_simp
          refine hK.out _ _ ⟨bl_set (bl_set hH.1 g6) g6, cell_setO (cell_setO hH.2.1 (by omega)) (by omega), cell_setO (cell_setO hH.2.2.1 (by omega)) (by omega), cell_setO (cell_setO hH.2.2.2 (by omega)) (by omega)⟩ (fun hH' => ?_)
          clear hH
          have hH := hH'
          clear hH' hK K
          try simp only [Act.put, List.setIfInBounds_toArray, List.set_cons_zero, List.set_cons_succ]
          refine wpAnyH_take (i := 16) (oi := ({ dst := some 7, op := Go.Op.assign (Go.Operand.tmp 44), type := 3, pos := "proof.go:30", after := #[{ on := 11, ground := Go.Ground.data }, { on := 15, ground := Go.Ground.chain }, { on := 0, ground := Go.Ground.phase }, { on := 1, ground := Go.Ground.phase }, { on := 2, ground := Go.Ground.phase }, { on := 3, ground := Go.Ground.phase }, { on := 4, ground := Go.Ground.phase }, { on := 5, ground := Go.Ground.phase }, { on := 6, ground := Go.Ground.phase }, { on := 7, ground := Go.Ground.phase }, { on := 8, ground := Go.Ground.phase }, { on := 9, ground := Go.Ground.phase }, { on := 10, ground := Go.Ground.phase }, { on := 11, ground := Go.Ground.phase }, { on := 12, ground := Go.Ground.phase }, { on := 13, ground := Go.Ground.phase }, { on := 14, ground := Go.Ground.phase }, { on := 15, ground := Go.Ground.phase }], guard := none } : Oper)) (v := ?_) rfl (by kernel_rfl) (by kernel_rfl) (by kernel_rfl) (fun _ _ _ h => h) (Or.inl ⟨by rfl, ?_⟩) hH ?_
          rotate_left
          · intro w hSw; (try dsimp only at hSw); go_simp; try with_reducible rfl
          try simp only [Act.put, List.setIfInBounds_toArray, List.set_cons_zero, List.set_cons_succ]
          refine wpAnyH_done (by kernel_rfl) ?_ _
          refine NoPanic.normal ?_
          go_wp2_with fail
          go_meet
          refine ⟨w8.heap.size, w8.heap.size + 1, rfl, rfl, rfl, hH, g6, ?_, ?_, ?_, ?_⟩
          · exact put_0S (cell_setO (cell_setO p60 (by omega)) (by omega)) _ _
          · exact put_1S (cell_setO (cell_setO p60 (by omega)) (by omega)) (cell_setO (cell_setO p61 (by omega)) (by omega)) _ _
          · simpa using f60
          · simpa using f61
      · go_simp
        refine hK.out _ _ ⟨hH.1.tr (bl_alS _ _), kcb (bl_alS _ _) hH.2.1, kcb (bl_alS _ _) hH.2.2.1, kcb (bl_alS _ _) hH.2.2.2⟩ (fun hH' => ?_)
        clear hH
        have hH := hH'
        clear hH' hK K
        try simp only [Act.put, List.setIfInBounds_toArray, List.set_cons_zero, List.set_cons_succ]
        refine wpAnyH_ready (rs := [12]) (by kernel_rfl) (by simp) ?_
        refine AllReadyH.cons (o := ({ dst := some 5, op := Go.Op.alloc 78, type := 0, pos := "proof.go:30", after := #[], guard := none } : Oper)) rfl (fun K hK => ?_) (AllReadyH.nil)
        · go_simp
          refine hK.out _ _ ⟨hH.1.tr (bl_alS _ _), kcb (bl_alS _ _) hH.2.1, kcb (bl_alS _ _) hH.2.2.1, kcb (bl_alS _ _) hH.2.2.2⟩ (fun hH' => ?_)
          clear hH
          have hH := hH'
          clear hH' hK K
          try simp only [Act.put, List.setIfInBounds_toArray, List.set_cons_zero, List.set_cons_succ]
          have p50 : (((w8).alloc (Obj.cells #[.int .i64 0, .int .i64 0] 78)).alloc (Obj.cells #[.int .i64 0, .int .i64 0] 78)).cell? ⟨w8.heap.size + 1, 0, none⟩ = some (.int .i64 0) := (by first | (go_cell; done) | exact z50 | exact cellUp z50)
          have f50 : (((w8).alloc (Obj.cells #[.int .i64 0, .int .i64 0] 78)).alloc (Obj.cells #[.int .i64 0, .int .i64 0] 78)).frozen? ⟨w8.heap.size + 1, 0, none⟩ = false := (by first | (go_cell; done) | exact y50 | exact fzb (bl_alS _ _) y50 (ltb z50))
          have p51 : (((w8).alloc (Obj.cells #[.int .i64 0, .int .i64 0] 78)).alloc (Obj.cells #[.int .i64 0, .int .i64 0] 78)).cell? ⟨w8.heap.size + 1, 1, none⟩ = some (.int .i64 0) := (by first | (go_cell; done) | exact z51 | exact cellUp z51)
          have f51 : (((w8).alloc (Obj.cells #[.int .i64 0, .int .i64 0] 78)).alloc (Obj.cells #[.int .i64 0, .int .i64 0] 78)).frozen? ⟨w8.heap.size + 1, 1, none⟩ = false := (by first | (go_cell; done) | exact y51 | exact fzb (bl_alS _ _) y51 (ltb z51))
          have g5 : X.heap.size ≤ w8.heap.size + 1 := (by omega)
          have l5 := ltb p50
          have p60 : (((w8).alloc (Obj.cells #[.int .i64 0, .int .i64 0] 78)).alloc (Obj.cells #[.int .i64 0, .int .i64 0] 78)).cell? ⟨w8.heap.size, 0, none⟩ = some (.int .i64 0) := (by first | (go_cell; done) | exact z60 | exact cellUp z60)
          have f60 : (((w8).alloc (Obj.cells #[.int .i64 0, .int .i64 0] 78)).alloc (Obj.cells #[.int .i64 0, .int .i64 0] 78)).frozen? ⟨w8.heap.size, 0, none⟩ = false := (by first | (go_cell; done) | exact y60 | exact fzb (bl_alS _ _) y60 (ltb z60))
          have p61 : (((w8).alloc (Obj.cells #[.int .i64 0, .int .i64 0] 78)).alloc (Obj.cells #[.int .i64 0, .int .i64 0] 78)).cell? ⟨w8.heap.size, 1, none⟩ = some (.int .i64 0) := (by first | (go_cell; done) | exact z61 | exact cellUp z61)
          have f61 : (((w8).alloc (Obj.cells #[.int .i64 0, .int .i64 0] 78)).alloc (Obj.cells #[.int .i64 0, .int .i64 0] 78)).frozen? ⟨w8.heap.size, 1, none⟩ = false := (by first | (go_cell; done) | exact y61 | exact fzb (bl_alS _ _) y61 (ltb z61))
          have g6 : X.heap.size ≤ w8.heap.size := (by omega)
          have l6 := ltb p60
          generalize hY : (((w8).alloc (Obj.cells #[.int .i64 0, .int .i64 0] 78)).alloc (Obj.cells #[.int .i64 0, .int .i64 0] 78)) = Y at hH p50 p51 p60 p61 f50 f51 f60 f61 l5 l6 ⊢
          clear hY
          refine wpAnyH_ready (rs := [14]) (by kernel_rfl) (by simp) ?_
          refine AllReadyH.cons (o := ({ dst := none, op := Go.Op.store 78 (Go.Operand.tmp 5) (Go.Operand.tmp 42), type := 0, pos := "proof.go:30", after := #[{ on := 12, ground := Go.Ground.data }, { on := 9, ground := Go.Ground.data }, { on := 7, ground := Go.Ground.chain }, { on := 0, ground := Go.Ground.phase }, { on := 1, ground := Go.Ground.phase }, { on := 2, ground := Go.Ground.phase }, { on := 3, ground := Go.Ground.phase }, { on := 4, ground := Go.Ground.phase }, { on := 5, ground := Go.Ground.phase }, { on := 6, ground := Go.Ground.phase }, { on := 7, ground := Go.Ground.phase }, { on := 8, ground := Go.Ground.phase }, { on := 9, ground := Go.Ground.phase }, { on := 10, ground := Go.Ground.textOnly Go.Departure.lateStores }, { on := 11, ground := Go.Ground.textOnly Go.Departure.lateStores }, { on := 12, ground := Go.Ground.phase }, { on := 13, ground := Go.Ground.phase }], guard := none } : Oper)) rfl (fun K hK => ?_) AllReadyH.nil
          go_simp
          refine hK.out _ _ ⟨bl_set (bl_set hH.1 g5) g5, cell_setO (cell_setO hH.2.1 (by omega)) (by omega), cell_setO (cell_setO hH.2.2.1 (by omega)) (by omega), cell_setO (cell_setO hH.2.2.2 (by omega)) (by omega)⟩ (fun hH' => ?_)
          clear hH
          have hH := hH'
          clear hH' hK K
          try simp only [Act.put, List.setIfInBounds_toArray, List.set_cons_zero, List.set_cons_succ]
          refine wpAnyH_ready (rs := [15]) (by kernel_rfl) (by simp) ?_
          refine AllReadyH.cons (o := ({ dst := none, op := Go.Op.store 78 (Go.Operand.tmp 6) (Go.Operand.tmp 43), type := 0, pos := "proof.go:30", after := #[{ on := 13, ground := Go.Ground.data }, { on := 10, ground := Go.Ground.data }, { on := 14, ground := Go.Ground.chain }, { on := 0, ground := Go.Ground.phase }, { on := 1, ground := Go.Ground.phase }, { on := 2, ground := Go.Ground.phase }, { on := 3, ground := Go.Ground.phase }, { on := 4, ground := Go.Ground.phase }, { on := 5, ground := Go.Ground.phase }, { on := 6, ground := Go.Ground.phase }, { on := 7, ground := Go.Ground.phase }, { on := 8, ground := Go.Ground.phase }, { on := 9, ground := Go.Ground.phase }, { on := 10, ground := Go.Ground.phase }, { on := 11, ground := Go.Ground.textOnly Go.Departure.lateStores }, { on := 12, ground := Go.Ground.phase }, { on := 13, ground := Go.Ground.phase }, { on := 14, ground := Go.Ground.phase }], guard := none } : Oper)) rfl (fun K hK => ?_) AllReadyH.nil
          go_simp
          refine hK.out _ _ ⟨bl_set (bl_set hH.1 g6) g6, cell_setO (cell_setO hH.2.1 (by omega)) (by omega), cell_setO (cell_setO hH.2.2.1 (by omega)) (by omega), cell_setO (cell_setO hH.2.2.2 (by omega)) (by omega)⟩ (fun hH' => ?_)
          clear hH
          have hH := hH'
          clear hH' hK K
          try simp only [Act.put, List.setIfInBounds_toArray, List.set_cons_zero, List.set_cons_succ]
          refine wpAnyH_take (i := 16) (oi := ({ dst := some 7, op := Go.Op.assign (Go.Operand.tmp 44), type := 3, pos := "proof.go:30", after := #[{ on := 11, ground := Go.Ground.data }, { on := 15, ground := Go.Ground.chain }, { on := 0, ground := Go.Ground.phase }, { on := 1, ground := Go.Ground.phase }, { on := 2, ground := Go.Ground.phase }, { on := 3, ground := Go.Ground.phase }, { on := 4, ground := Go.Ground.phase }, { on := 5, ground := Go.Ground.phase }, { on := 6, ground := Go.Ground.phase }, { on := 7, ground := Go.Ground.phase }, { on := 8, ground := Go.Ground.phase }, { on := 9, ground := Go.Ground.phase }, { on := 10, ground := Go.Ground.phase }, { on := 11, ground := Go.Ground.phase }, { on := 12, ground := Go.Ground.phase }, { on := 13, ground := Go.Ground.phase }, { on := 14, ground := Go.Ground.phase }, { on := 15, ground := Go.Ground.phase }], guard := none } : Oper)) (v := ?_) rfl (by kernel_rfl) (by kernel_rfl) (by kernel_rfl) (fun _ _ _ h => h) (Or.inl ⟨by rfl, ?_⟩) hH ?_
          rotate_left
          · intro w hSw; (try dsimp only at hSw); go_simp; try with_reducible rfl
          try simp only [Act.put, List.setIfInBounds_toArray, List.set_cons_zero, List.set_cons_succ]
          refine wpAnyH_done (by kernel_rfl) ?_ _
          refine NoPanic.normal ?_
          go_wp2_with fail
          go_meet
          refine ⟨w8.heap.size + 1, w8.heap.size, rfl, rfl, rfl, hH, g6, ?_, ?_, ?_, ?_⟩
          · exact put_0S (cell_setO (cell_setO p60 (by omega)) (by omega)) _ _
          · exact put_1S (cell_setO (cell_setO p60 (by omega)) (by omega)) (cell_setO (cell_setO p61 (by omega)) (by omega)) _ _
          · simpa using f60
          · simpa using f61
    · go_simp
      refine hK.out _ _ ⟨hH.1.tr (bl_alS _ _), kcb (bl_alS _ _) hH.2.1, kcb (bl_alS _ _) hH.2.2.1, kcb (bl_alS _ _) hH.2.2.2⟩ (fun hH' => ?_)
      clear hH
      have hH := hH'
      clear hH' hK K
      try simp only [Act.put, List.setIfInBounds_toArray, List.set_cons_zero, List.set_cons_succ]
      refine wpAnyH_ready (rs := [7, 13]) (by kernel_rfl) (by simp) ?_
      refine AllReadyH.cons (o := ({ dst := some 41, op := Go.Op.call { callee := Go.Callee.value (Go.Operand.func 67), args := #[Go.Operand.tmp 34, Go.Operand.tmp 40], argTypes := #[25, 3] }, type := 79, pos := "proof.go:30", after := #[{ on := 0, ground := Go.Ground.data }, { on := 6, ground := Go.Ground.data }], guard := none } : Oper)) rfl (fun K hK => ?_) (AllReadyH.cons (o := ({ dst := some 6, op := Go.Op.alloc 78, type := 0, pos := "proof.go:30", after := #[], guard := none } : Oper)) rfl (fun K hK => ?_) (AllReadyH.nil))
      · go_simp
        go_at_call 67
        refine (HT.out _ (BX.tr hH.1)).mono ?_
        rintro e8 w8 ⟨rfl, hb⟩
        have z8 := hb.size
        simp only [World.size_alloc, World.size_drew] at z8
        have z50 := kcb hb (show ((w9.drew).alloc (Obj.cells #[.int .i64 0, .int .i64 0] 78)).cell? ⟨w9.heap.size, 0, none⟩ = some (.int .i64 0) by go_cell)
        have y50 := fzb hb (show ((w9.drew).alloc (Obj.cells #[.int .i64 0, .int .i64 0] 78)).frozen? ⟨w9.heap.size, 0, none⟩ = false by go_cell) (ltb (v := .int .i64 0) (show ((w9.drew).alloc (Obj.cells #[.int .i64 0, .int .i64 0] 78)).cell? ⟨w9.heap.size, 0, none⟩ = some (.int .i64 0) by go_cell))
        have z51 := kcb hb (show ((w9.drew).alloc (Obj.cells #[.int .i64 0, .int .i64 0] 78)).cell? ⟨w9.heap.size, 1, none⟩ = some (.int .i64 0) by go_cell)
        have y51 := fzb hb (show ((w9.drew).alloc (Obj.cells #[.int .i64 0, .int .i64 0] 78)).frozen? ⟨w9.heap.size, 1, none⟩ = false by go_cell) (ltb (v := .int .i64 0) (show ((w9.drew).alloc (Obj.cells #[.int .i64 0, .int .i64 0] 78)).cell? ⟨w9.heap.size, 1, none⟩ = some (.int .i64 0) by go_cell))
        refine hK.out _ _ ⟨hH.1.tr hb, kcb hb hH.2.1, kcb hb hH.2.2.1, kcb hb hH.2.2.2⟩ (fun hH' => ?_)
        clear hH
        have hH := hH'
        clear hH' hK K
        try simp only [Act.put, List.setIfInBounds_toArray, List.set_cons_zero, List.set_cons_succ]
        refine wpAnyH_take (i := 8) (oi := ({ dst := some 33, op := Go.Op.move (Go.Operand.tmp 41), type := 79, pos := "proof.go:30", after := #[{ on := 7, ground := Go.Ground.data }], guard := none } : Oper)) (v := ?_) rfl (by kernel_rfl) (by kernel_rfl) (by kernel_rfl) (fun _ _ _ h => h) (Or.inl ⟨by rfl, ?_⟩) hH ?_
        rotate_left
        · intro w hSw; (try dsimp only at hSw); go_simp; try with_reducible rfl
        try simp only [Act.put, List.setIfInBounds_toArray, List.set_cons_zero, List.set_cons_succ]
        refine wpAnyH_take (i := 9) (oi := ({ dst := some 42, op := Go.Op.extract (Go.Operand.tmp 33) 0, type := 78, pos := "proof.go:30", after := #[{ on := 8, ground := Go.Ground.data }], guard := none } : Oper)) (v := ?_) rfl (by kernel_rfl) (by kernel_rfl) (by kernel_rfl) (fun _ _ _ h => h) (Or.inl ⟨by rfl, ?_⟩) hH ?_
        rotate_left
        · intro w hSw; (try dsimp only at hSw); go_simp; try with_reducible rfl
        try simp only [Act.put, List.setIfInBounds_toArray, List.set_cons_zero, List.set_cons_succ]
        refine wpAnyH_take (i := 10) (oi := ({ dst := some 43, op := Go.Op.extract (Go.Operand.tmp 33) 1, type := 78, pos := "proof.go:30", after := #[{ on := 8, ground := Go.Ground.data }, { on := 14, ground := Go.Ground.gcOnly Go.Departure.lateStores }], guard := none } : Oper)) (v := ?_) rfl (by kernel_rfl) (by kernel_rfl) (by kernel_rfl) (fun _ _ _ h => h) (Or.inl ⟨by rfl, ?_⟩) hH ?_
        rotate_left
        · intro w hSw; (try dsimp only at hSw); go_simp; try with_reducible rfl
        try simp only [Act.put, List.setIfInBounds_toArray, List.set_cons_zero, List.set_cons_succ]
        refine wpAnyH_take (i := 11) (oi := ({ dst := some 44, op := Go.Op.extract (Go.Operand.tmp 33) 2, type := 3, pos := "proof.go:30", after := #[{ on := 8, ground := Go.Ground.data }, { on := 15, ground := Go.Ground.gcOnly Go.Departure.lateStores }], guard := none } : Oper)) (v := ?_) rfl (by kernel_rfl) (by kernel_rfl) (by kernel_rfl) (fun _ _ _ h => h) (Or.inl ⟨by rfl, ?_⟩) hH ?_
        rotate_left
        · intro w hSw; (try dsimp only at hSw); go_simp; try with_reducible rfl
        try simp only [Act.put, List.setIfInBounds_toArray, List.set_cons_zero, List.set_cons_succ]
        refine wpAnyH_ready (rs := [13]) (by kernel_rfl) (by simp) ?_
        refine AllReadyH.cons (o := ({ dst := some 6, op := Go.Op.alloc 78, type := 0, pos := "proof.go:30", after := #[], guard := none } : Oper)) rfl (fun K hK => ?_) (AllReadyH.nil)
        · go_simp
          refine hK.out _ _ ⟨hH.1.tr (bl_alS _ _), kcb (bl_alS _ _) hH.2.1, kcb (bl_alS _ _) hH.2.2.1, kcb (bl_alS _ _) hH.2.2.2⟩ (fun hH' => ?_)
          clear hH
          have hH := hH'
          clear hH' hK K
          try simp only [Act.put, List.setIfInBounds_toArray, List.set_cons_zero, List.set_cons_succ]
          have p50 : ((w8).alloc (Obj.cells #[.int .i64 0, .int .i64 0] 78)).cell? ⟨w9.heap.size, 0, none⟩ = some (.int .i64 0) := (by first | (go_cell; done) | exact z50 | exact cellUp z50)
          have f50 : ((w8).alloc (Obj.cells #[.int .i64 0, .int .i64 0] 78)).frozen? ⟨w9.heap.size, 0, none⟩ = false := (by first | (go_cell; done) | exact y50 | exact fzb (bl_alS _ _) y50 (ltb z50))
          have p51 : ((w8).alloc (Obj.cells #[.int .i64 0, .int .i64 0] 78)).cell? ⟨w9.heap.size, 1, none⟩ = some (.int .i64 0) := (by first | (go_cell; done) | exact z51 | exact cellUp z51)
          have f51 : ((w8).alloc (Obj.cells #[.int .i64 0, .int .i64 0] 78)).frozen? ⟨w9.heap.size, 1, none⟩ = false := (by first | (go_cell; done) | exact y51 | exact fzb (bl_alS _ _) y51 (ltb z51))
          have g5 : X.heap.size ≤ w9.heap.size := (by omega)
          have l5 := ltb p50
          have p60 : ((w8).alloc (Obj.cells #[.int .i64 0, .int .i64 0] 78)).cell? ⟨w8.heap.size, 0, none⟩ = some (.int .i64 0) := (by first | (go_cell; done) | exact z60 | exact cellUp z60)
          have f60 : ((w8).alloc (Obj.cells #[.int .i64 0, .int .i64 0] 78)).frozen? ⟨w8.heap.size, 0, none⟩ = false := (by first | (go_cell; done) | exact y60 | exact fzb (bl_alS _ _) y60 (ltb z60))
          have p61 : ((w8).alloc (Obj.cells #[.int .i64 0, .int .i64 0] 78)).cell? ⟨w8.heap.size, 1, none⟩ = some (.int .i64 0) := (by first | (go_cell; done) | exact z61 | exact cellUp z61)
          have f61 : ((w8).alloc (Obj.cells #[.int .i64 0, .int .i64 0] 78)).frozen? ⟨w8.heap.size, 1, none⟩ = false := (by first | (go_cell; done) | exact y61 | exact fzb (bl_alS _ _) y61 (ltb z61))
          have g6 : X.heap.size ≤ w8.heap.size := (by omega)
          have l6 := ltb p60
          generalize hY : ((w8).alloc (Obj.cells #[.int .i64 0, .int .i64 0] 78)) = Y at hH p50 p51 p60 p61 f50 f51 f60 f61 l5 l6 ⊢
          clear hY
          refine wpAnyH_ready (rs := [14]) (by kernel_rfl) (by simp) ?_
          refine AllReadyH.cons (o := ({ dst := none, op := Go.Op.store 78 (Go.Operand.tmp 5) (Go.Operand.tmp 42), type := 0, pos := "proof.go:30", after := #[{ on := 12, ground := Go.Ground.data }, { on := 9, ground := Go.Ground.data }, { on := 7, ground := Go.Ground.chain }, { on := 0, ground := Go.Ground.phase }, { on := 1, ground := Go.Ground.phase }, { on := 2, ground := Go.Ground.phase }, { on := 3, ground := Go.Ground.phase }, { on := 4, ground := Go.Ground.phase }, { on := 5, ground := Go.Ground.phase }, { on := 6, ground := Go.Ground.phase }, { on := 7, ground := Go.Ground.phase }, { on := 8, ground := Go.Ground.phase }, { on := 9, ground := Go.Ground.phase }, { on := 10, ground := Go.Ground.textOnly Go.Departure.lateStores }, { on := 11, ground := Go.Ground.textOnly Go.Departure.lateStores }, { on := 12, ground := Go.Ground.phase }, { on := 13, ground := Go.Ground.phase }], guard := none } : Oper)) rfl (fun K hK => ?_) AllReadyH.nil
          go_simp
          refine hK.out _ _ ⟨bl_set (bl_set hH.1 g5) g5, cell_setO (cell_setO hH.2.1 (by omega)) (by omega), cell_setO (cell_setO hH.2.2.1 (by omega)) (by omega), cell_setO (cell_setO hH.2.2.2 (by omega)) (by omega)⟩ (fun hH' => ?_)
          clear hH
          have hH := hH'
          clear hH' hK K
          try simp only [Act.put, List.setIfInBounds_toArray, List.set_cons_zero, List.set_cons_succ]
          refine wpAnyH_ready (rs := [15]) (by kernel_rfl) (by simp) ?_
          refine AllReadyH.cons (o := ({ dst := none, op := Go.Op.store 78 (Go.Operand.tmp 6) (Go.Operand.tmp 43), type := 0, pos := "proof.go:30", after := #[{ on := 13, ground := Go.Ground.data }, { on := 10, ground := Go.Ground.data }, { on := 14, ground := Go.Ground.chain }, { on := 0, ground := Go.Ground.phase }, { on := 1, ground := Go.Ground.phase }, { on := 2, ground := Go.Ground.phase }, { on := 3, ground := Go.Ground.phase }, { on := 4, ground := Go.Ground.phase }, { on := 5, ground := Go.Ground.phase }, { on := 6, ground := Go.Ground.phase }, { on := 7, ground := Go.Ground.phase }, { on := 8, ground := Go.Ground.phase }, { on := 9, ground := Go.Ground.phase }, { on := 10, ground := Go.Ground.phase }, { on := 11, ground := Go.Ground.textOnly Go.Departure.lateStores }, { on := 12, ground := Go.Ground.phase }, { on := 13, ground := Go.Ground.phase }, { on := 14, ground := Go.Ground.phase }], guard := none } : Oper)) rfl (fun K hK => ?_) AllReadyH.nil
          go_simp
          refine hK.out _ _ ⟨bl_set (bl_set hH.1 g6) g6, cell_setO (cell_setO hH.2.1 (by omega)) (by omega), cell_setO (cell_setO hH.2.2.1 (by omega)) (by omega), cell_setO (cell_setO hH.2.2.2 (by omega)) (by omega)⟩ (fun hH' => ?_)
          clear hH
          have hH := hH'
          clear hH' hK K
          try simp only [Act.put, List.setIfInBounds_toArray, List.set_cons_zero, List.set_cons_succ]
          refine wpAnyH_take (i := 16) (oi := ({ dst := some 7, op := Go.Op.assign (Go.Operand.tmp 44), type := 3, pos := "proof.go:30", after := #[{ on := 11, ground := Go.Ground.data }, { on := 15, ground := Go.Ground.chain }, { on := 0, ground := Go.Ground.phase }, { on := 1, ground := Go.Ground.phase }, { on := 2, ground := Go.Ground.phase }, { on := 3, ground := Go.Ground.phase }, { on := 4, ground := Go.Ground.phase }, { on := 5, ground := Go.Ground.phase }, { on := 6, ground := Go.Ground.phase }, { on := 7, ground := Go.Ground.phase }, { on := 8, ground := Go.Ground.phase }, { on := 9, ground := Go.Ground.phase }, { on := 10, ground := Go.Ground.phase }, { on := 11, ground := Go.Ground.phase }, { on := 12, ground := Go.Ground.phase }, { on := 13, ground := Go.Ground.phase }, { on := 14, ground := Go.Ground.phase }, { on := 15, ground := Go.Ground.phase }], guard := none } : Oper)) (v := ?_) rfl (by kernel_rfl) (by kernel_rfl) (by kernel_rfl) (fun _ _ _ h => h) (Or.inl ⟨by rfl, ?_⟩) hH ?_
          rotate_left
          · intro w hSw; (try dsimp only at hSw); go_simp; try with_reducible rfl
          try simp only [Act.put, List.setIfInBounds_toArray, List.set_cons_zero, List.set_cons_succ]
          refine wpAnyH_done (by kernel_rfl) ?_ _
          refine NoPanic.normal ?_
          go_wp2_with fail
          go_meet
          refine ⟨w9.heap.size, w8.heap.size, rfl, rfl, rfl, hH, g6, ?_, ?_, ?_, ?_⟩
          · exact put_0S (cell_setO (cell_setO p60 (by omega)) (by omega)) _ _
          · exact put_1S (cell_setO (cell_setO p60 (by omega)) (by omega)) (cell_setO (cell_setO p61 (by omega)) (by omega)) _ _
          · simpa using f60
          · simpa using f61
      · go_simp
        refine hK.out _ _ ⟨hH.1.tr (bl_alS _ _), kcb (bl_alS _ _) hH.2.1, kcb (bl_alS _ _) hH.2.2.1, kcb (bl_alS _ _) hH.2.2.2⟩ (fun hH' => ?_)
        clear hH
        have hH := hH'
        clear hH' hK K
        try simp only [Act.put, List.setIfInBounds_toArray, List.set_cons_zero, List.set_cons_succ]
        refine wpAnyH_ready (rs := [7]) (by kernel_rfl) (by simp) ?_
        refine AllReadyH.cons (o := ({ dst := some 41, op := Go.Op.call { callee := Go.Callee.value (Go.Operand.func 67), args := #[Go.Operand.tmp 34, Go.Operand.tmp 40], argTypes := #[25, 3] }, type := 79, pos := "proof.go:30", after := #[{ on := 0, ground := Go.Ground.data }, { on := 6, ground := Go.Ground.data }], guard := none } : Oper)) rfl (fun K hK => ?_) (AllReadyH.nil)
        · go_simp
          go_at_call 67
          refine (HT.out _ (BX.tr hH.1)).mono ?_
          rintro e8 w8 ⟨rfl, hb⟩
          have z8 := hb.size
          simp only [World.size_alloc, World.size_drew] at z8
          have z50 := kcb hb (show (((w9.drew).alloc (Obj.cells #[.int .i64 0, .int .i64 0] 78)).alloc (Obj.cells #[.int .i64 0, .int .i64 0] 78)).cell? ⟨w9.heap.size, 0, none⟩ = some (.int .i64 0) by go_cell)
          have y50 := fzb hb (show (((w9.drew).alloc (Obj.cells #[.int .i64 0, .int .i64 0] 78)).alloc (Obj.cells #[.int .i64 0, .int .i64 0] 78)).frozen? ⟨w9.heap.size, 0, none⟩ = false by go_cell) (ltb (v := .int .i64 0) (show (((w9.drew).alloc (Obj.cells #[.int .i64 0, .int .i64 0] 78)).alloc (Obj.cells #[.int .i64 0, .int .i64 0] 78)).cell? ⟨w9.heap.size, 0, none⟩ = some (.int .i64 0) by go_cell))
          have z51 := kcb hb (show (((w9.drew).alloc (Obj.cells #[.int .i64 0, .int .i64 0] 78)).alloc (Obj.cells #[.int .i64 0, .int .i64 0] 78)).cell? ⟨w9.heap.size, 1, none⟩ = some (.int .i64 0) by go_cell)
          have y51 := fzb hb (show (((w9.drew).alloc (Obj.cells #[.int .i64 0, .int .i64 0] 78)).alloc (Obj.cells #[.int .i64 0, .int .i64 0] 78)).frozen? ⟨w9.heap.size, 1, none⟩ = false by go_cell) (ltb (v := .int .i64 0) (show (((w9.drew).alloc (Obj.cells #[.int .i64 0, .int .i64 0] 78)).alloc (Obj.cells #[.int .i64 0, .int .i64 0] 78)).cell? ⟨w9.heap.size, 1, none⟩ = some (.int .i64 0) by go_cell))
          have z60 := kcb hb (show (((w9.drew).alloc (Obj.cells #[.int .i64 0, .int .i64 0] 78)).alloc (Obj.cells #[.int .i64 0, .int .i64 0] 78)).cell? ⟨w9.heap.size + 1, 0, none⟩ = some (.int .i64 0) by go_cell)
          have y60 := fzb hb (show (((w9.drew).alloc (Obj.cells #[.int .i64 0, .int .i64 0] 78)).alloc (Obj.cells #[.int .i64 0, .int .i64 0] 78)).frozen? ⟨w9.heap.size + 1, 0, none⟩ = false by go_cell) (ltb (v := .int .i64 0) (show (((w9.drew).alloc (Obj.cells #[.int .i64 0, .int .i64 0] 78)).alloc (Obj.cells #[.int .i64 0, .int .i64 0] 78)).cell? ⟨w9.heap.size + 1, 0, none⟩ = some (.int .i64 0) by go_cell))
          have z61 := kcb hb (show (((w9.drew).alloc (Obj.cells #[.int .i64 0, .int .i64 0] 78)).alloc (Obj.cells #[.int .i64 0, .int .i64 0] 78)).cell? ⟨w9.heap.size + 1, 1, none⟩ = some (.int .i64 0) by go_cell)
          have y61 := fzb hb (show (((w9.drew).alloc (Obj.cells #[.int .i64 0, .int .i64 0] 78)).alloc (Obj.cells #[.int .i64 0, .int .i64 0] 78)).frozen? ⟨w9.heap.size + 1, 1, none⟩ = false by go_cell) (ltb (v := .int .i64 0) (show (((w9.drew).alloc (Obj.cells #[.int .i64 0, .int .i64 0] 78)).alloc (Obj.cells #[.int .i64 0, .int .i64 0] 78)).cell? ⟨w9.heap.size + 1, 1, none⟩ = some (.int .i64 0) by go_cell))
          refine hK.out _ _ ⟨hH.1.tr hb, kcb hb hH.2.1, kcb hb hH.2.2.1, kcb hb hH.2.2.2⟩ (fun hH' => ?_)
          clear hH
          have hH := hH'
          clear hH' hK K
          try simp only [Act.put, List.setIfInBounds_toArray, List.set_cons_zero, List.set_cons_succ]
          refine wpAnyH_take (i := 8) (oi := ({ dst := some 33, op := Go.Op.move (Go.Operand.tmp 41), type := 79, pos := "proof.go:30", after := #[{ on := 7, ground := Go.Ground.data }], guard := none } : Oper)) (v := ?_) rfl (by kernel_rfl) (by kernel_rfl) (by kernel_rfl) (fun _ _ _ h => h) (Or.inl ⟨by rfl, ?_⟩) hH ?_
          rotate_left
          · intro w hSw; (try dsimp only at hSw); go_simp; try with_reducible rfl
          try simp only [Act.put, List.setIfInBounds_toArray, List.set_cons_zero, List.set_cons_succ]
          refine wpAnyH_take (i := 9) (oi := ({ dst := some 42, op := Go.Op.extract (Go.Operand.tmp 33) 0, type := 78, pos := "proof.go:30", after := #[{ on := 8, ground := Go.Ground.data }], guard := none } : Oper)) (v := ?_) rfl (by kernel_rfl) (by kernel_rfl) (by kernel_rfl) (fun _ _ _ h => h) (Or.inl ⟨by rfl, ?_⟩) hH ?_
          rotate_left
          · intro w hSw; (try dsimp only at hSw); go_simp; try with_reducible rfl
          try simp only [Act.put, List.setIfInBounds_toArray, List.set_cons_zero, List.set_cons_succ]
          refine wpAnyH_take (i := 10) (oi := ({ dst := some 43, op := Go.Op.extract (Go.Operand.tmp 33) 1, type := 78, pos := "proof.go:30", after := #[{ on := 8, ground := Go.Ground.data }, { on := 14, ground := Go.Ground.gcOnly Go.Departure.lateStores }], guard := none } : Oper)) (v := ?_) rfl (by kernel_rfl) (by kernel_rfl) (by kernel_rfl) (fun _ _ _ h => h) (Or.inl ⟨by rfl, ?_⟩) hH ?_
          rotate_left
          · intro w hSw; (try dsimp only at hSw); go_simp; try with_reducible rfl
          try simp only [Act.put, List.setIfInBounds_toArray, List.set_cons_zero, List.set_cons_succ]
          refine wpAnyH_take (i := 11) (oi := ({ dst := some 44, op := Go.Op.extract (Go.Operand.tmp 33) 2, type := 3, pos := "proof.go:30", after := #[{ on := 8, ground := Go.Ground.data }, { on := 15, ground := Go.Ground.gcOnly Go.Departure.lateStores }], guard := none } : Oper)) (v := ?_) rfl (by kernel_rfl) (by kernel_rfl) (by kernel_rfl) (fun _ _ _ h => h) (Or.inl ⟨by rfl, ?_⟩) hH ?_
          rotate_left
          · intro w hSw; (try dsimp only at hSw); go_simp; try with_reducible rfl
          try simp only [Act.put, List.setIfInBounds_toArray, List.set_cons_zero, List.set_cons_succ]
          have p50 : (w8).cell? ⟨w9.heap.size, 0, none⟩ = some (.int .i64 0) := (by first | (go_cell; done) | exact z50 | exact cellUp z50)
          have f50 : (w8).frozen? ⟨w9.heap.size, 0, none⟩ = false := (by first | (go_cell; done) | exact y50 | exact fzb (bl_alS _ _) y50 (ltb z50))
          have p51 : (w8).cell? ⟨w9.heap.size, 1, none⟩ = some (.int .i64 0) := (by first | (go_cell; done) | exact z51 | exact cellUp z51)
          have f51 : (w8).frozen? ⟨w9.heap.size, 1, none⟩ = false := (by first | (go_cell; done) | exact y51 | exact fzb (bl_alS _ _) y51 (ltb z51))
          have g5 : X.heap.size ≤ w9.heap.size := (by omega)
          have l5 := ltb p50
          have p60 : (w8).cell? ⟨w9.heap.size + 1, 0, none⟩ = some (.int .i64 0) := (by first | (go_cell; done) | exact z60 | exact cellUp z60)
          have f60 : (w8).frozen? ⟨w9.heap.size + 1, 0, none⟩ = false := (by first | (go_cell; done) | exact y60 | exact fzb (bl_alS _ _) y60 (ltb z60))
          have p61 : (w8).cell? ⟨w9.heap.size + 1, 1, none⟩ = some (.int .i64 0) := (by first | (go_cell; done) | exact z61 | exact cellUp z61)
          have f61 : (w8).frozen? ⟨w9.heap.size + 1, 1, none⟩ = false := (by first | (go_cell; done) | exact y61 | exact fzb (bl_alS _ _) y61 (ltb z61))
          have g6 : X.heap.size ≤ w9.heap.size + 1 := (by omega)
          have l6 := ltb p60
          generalize hY : (w8) = Y at hH p50 p51 p60 p61 f50 f51 f60 f61 l5 l6 ⊢
          clear hY
          refine wpAnyH_ready (rs := [14]) (by kernel_rfl) (by simp) ?_
          refine AllReadyH.cons (o := ({ dst := none, op := Go.Op.store 78 (Go.Operand.tmp 5) (Go.Operand.tmp 42), type := 0, pos := "proof.go:30", after := #[{ on := 12, ground := Go.Ground.data }, { on := 9, ground := Go.Ground.data }, { on := 7, ground := Go.Ground.chain }, { on := 0, ground := Go.Ground.phase }, { on := 1, ground := Go.Ground.phase }, { on := 2, ground := Go.Ground.phase }, { on := 3, ground := Go.Ground.phase }, { on := 4, ground := Go.Ground.phase }, { on := 5, ground := Go.Ground.phase }, { on := 6, ground := Go.Ground.phase }, { on := 7, ground := Go.Ground.phase }, { on := 8, ground := Go.Ground.phase }, { on := 9, ground := Go.Ground.phase }, { on := 10, ground := Go.Ground.textOnly Go.Departure.lateStores }, { on := 11, ground := Go.Ground.textOnly Go.Departure.lateStores }, { on := 12, ground := Go.Ground.phase }, { on := 13, ground := Go.Ground.phase }], guard := none } : Oper)) rfl (fun K hK => ?_) AllReadyH.nil
          go_simp
          refine hK.out _ _ ⟨bl_set (bl_set hH.1 g5) g5, cell_setO (cell_setO hH.2.1 (by omega)) (by omega), cell_setO (cell_setO hH.2.2.1 (by omega)) (by omega), cell_setO (cell_setO hH.2.2.2 (by omega)) (by omega)⟩ (fun hH' => ?_)
          clear hH
          have hH := hH'
          clear hH' hK K
          try simp only [Act.put, List.setIfInBounds_toArray, List.set_cons_zero, List.set_cons_succ]
          refine wpAnyH_ready (rs := [15]) (by kernel_rfl) (by simp) ?_
          refine AllReadyH.cons (o := ({ dst := none, op := Go.Op.store 78 (Go.Operand.tmp 6) (Go.Operand.tmp 43), type := 0, pos := "proof.go:30", after := #[{ on := 13, ground := Go.Ground.data }, { on := 10, ground := Go.Ground.data }, { on := 14, ground := Go.Ground.chain }, { on := 0, ground := Go.Ground.phase }, { on := 1, ground := Go.Ground.phase }, { on := 2, ground := Go.Ground.phase }, { on := 3, ground := Go.Ground.phase }, { on := 4, ground := Go.Ground.phase }, { on := 5, ground := Go.Ground.phase }, { on := 6, ground := Go.Ground.phase }, { on := 7, ground := Go.Ground.phase }, { on := 8, ground := Go.Ground.phase }, { on := 9, ground := Go.Ground.phase }, { on := 10, ground := Go.Ground.phase }, { on := 11, ground := Go.Ground.textOnly Go.Departure.lateStores }, { on := 12, ground := Go.Ground.phase }, { on := 13, ground := Go.Ground.phase }, { on := 14, ground := Go.Ground.phase }], guard := none } : Oper)) rfl (fun K hK => ?_) AllReadyH.nil
          go_simp
          refine hK.out _ _ ⟨bl_set (bl_set hH.1 g6) g6, cell_setO (cell_setO hH.2.1 (by omega)) (by omega), cell_setO (cell_setO hH.2.2.1 (by omega)) (by omega), cell_setO (cell_setO hH.2.2.2 (by omega)) (by omega)⟩ (fun hH' => ?_)
          clear hH
          have hH := hH'
          clear hH' hK K
          try simp only [Act.put, List.setIfInBounds_toArray, List.set_cons_zero, List.set_cons_succ]
          refine wpAnyH_take (i := 16) (oi := ({ dst := some 7, op := Go.Op.assign (Go.Operand.tmp 44), type := 3, pos := "proof.go:30", after := #[{ on := 11, ground := Go.Ground.data }, { on := 15, ground := Go.Ground.chain }, { on := 0, ground := Go.Ground.phase }, { on := 1, ground := Go.Ground.phase }, { on := 2, ground := Go.Ground.phase }, { on := 3, ground := Go.Ground.phase }, { on := 4, ground := Go.Ground.phase }, { on := 5, ground := Go.Ground.phase }, { on := 6, ground := Go.Ground.phase }, { on := 7, ground := Go.Ground.phase }, { on := 8, ground := Go.Ground.phase }, { on := 9, ground := Go.Ground.phase }, { on := 10, ground := Go.Ground.phase }, { on := 11, ground := Go.Ground.phase }, { on := 12, ground := Go.Ground.phase }, { on := 13, ground := Go.Ground.phase }, { on := 14, ground := Go.Ground.phase }, { on := 15, ground := Go.Ground.phase }], guard := none } : Oper)) (v := ?_) rfl (by kernel_rfl) (by kernel_rfl) (by kernel_rfl) (fun _ _ _ h => h) (Or.inl ⟨by rfl, ?_⟩) hH ?_
          rotate_left
          · intro w hSw; (try dsimp only at hSw); go_simp; try with_reducible rfl
          try simp only [Act.put, List.setIfInBounds_toArray, List.set_cons_zero, List.set_cons_succ]
          refine wpAnyH_done (by kernel_rfl) ?_ _
          refine NoPanic.normal ?_
          go_wp2_with fail
          go_meet
          refine ⟨w9.heap.size, w9.heap.size + 1, rfl, rfl, rfl, hH, g6, ?_, ?_, ?_, ?_⟩
          · exact put_0S (cell_setO (cell_setO p60 (by omega)) (by omega)) _ _
          · exact put_1S (cell_setO (cell_setO p60 (by omega)) (by omega)) (cell_setO (cell_setO p61 (by omega)) (by omega)) _ _
          · simpa using f60
          · simpa using f61
    · go_simp
      refine hK.out _ _ ⟨hH.1.tr (bl_alS _ _), kcb (bl_alS _ _) hH.2.1, kcb (bl_alS _ _) hH.2.2.1, kcb (bl_alS _ _) hH.2.2.2⟩ (fun hH' => ?_)
      clear hH
      have hH := hH'
      clear hH' hK K
      try simp only [Act.put, List.setIfInBounds_toArray, List.set_cons_zero, List.set_cons_succ]
      refine wpAnyH_ready (rs := [7, 12]) (by kernel_rfl) (by simp) ?_
      refine AllReadyH.cons (o := ({ dst := some 41, op := Go.Op.call { callee := Go.Callee.value (Go.Operand.func 67), args := #[Go.Operand.tmp 34, Go.Operand.tmp 40], argTypes := #[25, 3] }, type := 79, pos := "proof.go:30", after := #[{ on := 0, ground := Go.Ground.data }, { on := 6, ground := Go.Ground.data }], guard := none } : Oper)) rfl (fun K hK => ?_) (AllReadyH.cons (o := ({ dst := some 5, op := Go.Op.alloc 78, type := 0, pos := "proof.go:30", after := #[], guard := none } : Oper)) rfl (fun K hK => ?_) (AllReadyH.nil))
      · go_simp
        go_at_call 67
        refine (HT.out _ (BX.tr hH.1)).mono ?_
        rintro e8 w8 ⟨rfl, hb⟩
        have z8 := hb.size
        simp only [World.size_alloc, World.size_drew] at z8
        have z60 := kcb hb (show ((w9.drew).alloc (Obj.cells #[.int .i64 0, .int .i64 0] 78)).cell? ⟨w9.heap.size, 0, none⟩ = some (.int .i64 0) by go_cell)
        have y60 := fzb hb (show ((w9.drew).alloc (Obj.cells #[.int .i64 0, .int .i64 0] 78)).frozen? ⟨w9.heap.size, 0, none⟩ = false by go_cell) (ltb (v := .int .i64 0) (show ((w9.drew).alloc (Obj.cells #[.int .i64 0, .int .i64 0] 78)).cell? ⟨w9.heap.size, 0, none⟩ = some (.int .i64 0) by go_cell))
        have z61 := kcb hb (show ((w9.drew).alloc (Obj.cells #[.int .i64 0, .int .i64 0] 78)).cell? ⟨w9.heap.size, 1, none⟩ = some (.int .i64 0) by go_cell)
        have y61 := fzb hb (show ((w9.drew).alloc (Obj.cells #[.int .i64 0, .int .i64 0] 78)).frozen? ⟨w9.heap.size, 1, none⟩ = false by go_cell) (ltb (v := .int .i64 0) (show ((w9.drew).alloc (Obj.cells #[.int .i64 0, .int .i64 0] 78)).cell? ⟨w9.heap.size, 1, none⟩ = some (.int .i64 0) by go_cell))
        refine hK.out _ _ ⟨hH.1.tr hb, kcb hb hH.2.1, kcb hb hH.2.2.1, kcb hb hH.2.2.2⟩ (fun hH' => ?_)
        clear hH
        have hH := hH'
        clear hH' hK K
        try simp only [Act.put, List.setIfInBounds_toArray, List.set_cons_zero, List.set_cons_succ]
        refine wpAnyH_take (i := 8) (oi := ({ dst := some 33, op := Go.Op.move (Go.Operand.tmp 41), type := 79, pos := "proof.go:30", after := #[{ on := 7, ground := Go.Ground.data }], guard := none } : Oper)) (v := ?_) rfl (by kernel_rfl) (by kernel_rfl) (by kernel_rfl) (fun _ _ _ h => h) (Or.inl ⟨by rfl, ?_⟩) hH ?_
        rotate_left
        · intro w hSw; (try dsimp only at hSw); go_simp; try with_reducible rfl
        try simp only [Act.put, List.setIfInBounds_toArray, List.set_cons_zero, List.set_cons_succ]
        refine wpAnyH_take (i := 9) (oi := ({ dst := some 42, op := Go.Op.extract (Go.Operand.tmp 33) 0, type := 78, pos := "proof.go:30", after := #[{ on := 8, ground := Go.Ground.data }], guard := none } : Oper)) (v := ?_) rfl (by kernel_rfl) (by kernel_rfl) (by kernel_rfl) (fun _ _ _ h => h) (Or.inl ⟨by rfl, ?_⟩) hH ?_
        rotate_left
        · intro w hSw; (try dsimp only at hSw); go_simp; try with_reducible rfl
        try simp only [Act.put, List.setIfInBounds_toArray, List.set_cons_zero, List.set_cons_succ]
        refine wpAnyH_take (i := 10) (oi := ({ dst := some 43, op := Go.Op.extract (Go.Operand.tmp 33) 1, type := 78, pos := "proof.go:30", after := #[{ on := 8, ground := Go.Ground.data }, { on := 14, ground := Go.Ground.gcOnly Go.Departure.lateStores }], guard := none } : Oper)) (v := ?_) rfl (by kernel_rfl) (by kernel_rfl) (by kernel_rfl) (fun _ _ _ h => h) (Or.inl ⟨by rfl, ?_⟩) hH ?_
        rotate_left
        · intro w hSw; (try dsimp only at hSw); go_simp; try with_reducible rfl
        try simp only [Act.put, List.setIfInBounds_toArray, List.set_cons_zero, List.set_cons_succ]
        refine wpAnyH_take (i := 11) (oi := ({ dst := some 44, op := Go.Op.extract (Go.Operand.tmp 33) 2, type := 3, pos := "proof.go:30", after := #[{ on := 8, ground := Go.Ground.data }, { on := 15, ground := Go.Ground.gcOnly Go.Departure.lateStores }], guard := none } : Oper)) (v := ?_) rfl (by kernel_rfl) (by kernel_rfl) (by kernel_rfl) (fun _ _ _ h => h) (Or.inl ⟨by rfl, ?_⟩) hH ?_
        rotate_left
        · intro w hSw; (try dsimp only at hSw); go_simp; try with_reducible rfl
        try simp only [Act.put, List.setIfInBounds_toArray, List.set_cons_zero, List.set_cons_succ]
        refine wpAnyH_ready (rs := [12]) (by kernel_rfl) (by simp) ?_
        refine AllReadyH.cons (o := ({ dst := some 5, op := Go.Op.alloc 78, type := 0, pos := "proof.go:30", after := #[], guard := none } : Oper)) rfl (fun K hK => ?_) (AllReadyH.nil)
        · go_simp
          refine hK.out _ _ ⟨hH.1.tr (bl_alS _ _), kcb (bl_alS _ _) hH.2.1, kcb (bl_alS _ _) hH.2.2.1, kcb (bl_alS _ _) hH.2.2.2⟩ (fun hH' => ?_)
          clear hH
          have hH := hH'
          clear hH' hK K
          try simp only [Act.put, List.setIfInBounds_toArray, List.set_cons_zero, List.set_cons_succ]
          have p50 : ((w8).alloc (Obj.cells #[.int .i64 0, .int .i64 0] 78)).cell? ⟨w8.heap.size, 0, none⟩ = some (.int .i64 0) := (by first | (go_cell; done) | exact z50 | exact cellUp z50)
          have f50 : ((w8).alloc (Obj.cells #[.int .i64 0, .int .i64 0] 78)).frozen? ⟨w8.heap.size, 0, none⟩ = false := (by first | (go_cell; done) | exact y50 | exact fzb (bl_alS _ _) y50 (ltb z50))
          have p51 : ((w8).alloc (Obj.cells #[.int .i64 0, .int .i64 0] 78)).cell? ⟨w8.heap.size, 1, none⟩ = some (.int .i64 0) := (by first | (go_cell; done) | exact z51 | exact cellUp z51)
          have f51 : ((w8).alloc (Obj.cells #[.int .i64 0, .int .i64 0] 78)).frozen? ⟨w8.heap.size, 1, none⟩ = false := (by first | (go_cell; done) | exact y51 | exact fzb (bl_alS _ _) y51 (ltb z51))
          have g5 : X.heap.size ≤ w8.heap.size := (by omega)
          have l5 := ltb p50
          have p60 : ((w8).alloc (Obj.cells #[.int .i64 0, .int .i64 0] 78)).cell? ⟨w9.heap.size, 0, none⟩ = some (.int .i64 0) := (by first | (go_cell; done) | exact z60 | exact cellUp z60)
          have f60 : ((w8).alloc (Obj.cells #[.int .i64 0, .int .i64 0] 78)).frozen? ⟨w9.heap.size, 0, none⟩ = false := (by first | (go_cell; done) | exact y60 | exact fzb (bl_alS _ _) y60 (ltb z60))
          have p61 : ((w8).alloc (Obj.cells #[.int .i64 0, .int .i64 0] 78)).cell? ⟨w9.heap.size, 1, none⟩ = some (.int .i64 0) := (by first | (go_cell; done) | exact z61 | exact cellUp z61)
          have f61 : ((w8).alloc (Obj.cells #[.int .i64 0, .int .i64 0] 78)).frozen? ⟨w9.heap.size, 1, none⟩ = false := (by first | (go_cell; done) | exact y61 | exact fzb (bl_alS _ _) y61 (ltb z61))
          have g6 : X.heap.size ≤ w9.heap.size := (by omega)
          have l6 := ltb p60
          generalize hY : ((w8).alloc (Obj.cells #[.int .i64 0, .int .i64 0] 78)) = Y at hH p50 p51 p60 p61 f50 f51 f60 f61 l5 l6 ⊢
          clear hY
          refine wpAnyH_ready (rs := [14]) (by kernel_rfl) (by simp) ?_
          refine AllReadyH.cons (o := ({ dst := none, op := Go.Op.store 78 (Go.Operand.tmp 5) (Go.Operand.tmp 42), type := 0, pos := "proof.go:30", after := #[{ on := 12, ground := Go.Ground.data }, { on := 9, ground := Go.Ground.data }, { on := 7, ground := Go.Ground.chain }, { on := 0, ground := Go.Ground.phase }, { on := 1, ground := Go.Ground.phase }, { on := 2, ground := Go.Ground.phase }, { on := 3, ground := Go.Ground.phase }, { on := 4, ground := Go.Ground.phase }, { on := 5, ground := Go.Ground.phase }, { on := 6, ground := Go.Ground.phase }, { on := 7, ground := Go.Ground.phase }, { on := 8, ground := Go.Ground.phase }, { on := 9, ground := Go.Ground.phase }, { on := 10, ground := Go.Ground.textOnly Go.Departure.lateStores }, { on := 11, ground := Go.Ground.textOnly Go.Departure.lateStores }, { on := 12, ground := Go.Ground.phase }, { on := 13, ground := Go.Ground.phase }], guard := none } : Oper)) rfl (fun K hK => ?_) AllReadyH.nil
          go_simp
          refine hK.out _ _ ⟨bl_set (bl_set hH.1 g5) g5, cell_setO (cell_setO hH.2.1 (by omega)) (by omega), cell_setO (cell_setO hH.2.2.1 (by omega)) (by omega), cell_setO (cell_setO hH.2.2.2 (by omega)) (by omega)⟩ (fun hH' => ?_)
          clear hH
          have hH := hH'
          clear hH' hK K
          try simp only [Act.put, List.setIfInBounds_toArray, List.set_cons_zero, List.set_cons_succ]
          refine wpAnyH_ready (rs := [15]) (by kernel_rfl) (by simp) ?_
          refine AllReadyH.cons (o := ({ dst := none, op := Go.Op.store 78 (Go.Operand.tmp 6) (Go.Operand.tmp 43), type := 0, pos := "proof.go:30", after := #[{ on := 13, ground := Go.Ground.data }, { on := 10, ground := Go.Ground.data }, { on := 14, ground := Go.Ground.chain }, { on := 0, ground := Go.Ground.phase }, { on := 1, ground := Go.Ground.phase }, { on := 2, ground := Go.Ground.phase }, { on := 3, ground := Go.Ground.phase }, { on := 4, ground := Go.Ground.phase }, { on := 5, ground := Go.Ground.phase }, { on := 6, ground := Go.Ground.phase }, { on := 7, ground := Go.Ground.phase }, { on := 8, ground := Go.Ground.phase }, { on := 9, ground := Go.Ground.phase }, { on := 10, ground := Go.Ground.phase }, { on := 11, ground := Go.Ground.textOnly Go.Departure.lateStores }, { on := 12, ground := Go.Ground.phase }, { on := 13, ground := Go.Ground.phase }, { on := 14, ground := Go.Ground.phase }], guard := none } : Oper)) rfl (fun K hK => ?_) AllReadyH.nil
          go_simp
          refine hK.out _ _ ⟨bl_set (bl_set hH.1 g6) g6, cell_setO (cell_setO hH.2.1 (by omega)) (by omega), cell_setO (cell_setO hH.2.2.1 (by omega)) (by omega), cell_setO (cell_setO hH.2.2.2 (by omega)) (by omega)⟩ (fun hH' => ?_)
          clear hH
          have hH := hH'
          clear hH' hK K
          try simp only [Act.put, List.setIfInBounds_toArray, List.set_cons_zero, List.set_cons_succ]
          refine wpAnyH_take (i := 16) (oi := ({ dst := some 7, op := Go.Op.assign (Go.Operand.tmp 44), type := 3, pos := "proof.go:30", after := #[{ on := 11, ground := Go.Ground.data }, { on := 15, ground := Go.Ground.chain }, { on := 0, ground := Go.Ground.phase }, { on := 1, ground := Go.Ground.phase }, { on := 2, ground := Go.Ground.phase }, { on := 3, ground := Go.Ground.phase }, { on := 4, ground := Go.Ground.phase }, { on := 5, ground := Go.Ground.phase }, { on := 6, ground := Go.Ground.phase }, { on := 7, ground := Go.Ground.phase }, { on := 8, ground := Go.Ground.phase }, { on := 9, ground := Go.Ground.phase }, { on := 10, ground := Go.Ground.phase }, { on := 11, ground := Go.Ground.phase }, { on := 12, ground := Go.Ground.phase }, { on := 13, ground := Go.Ground.phase }, { on := 14, ground := Go.Ground.phase }, { on := 15, ground := Go.Ground.phase }], guard := none } : Oper)) (v := ?_) rfl (by kernel_rfl) (by kernel_rfl) (by kernel_rfl) (fun _ _ _ h => h) (Or.inl ⟨by rfl, ?_⟩) hH ?_
          rotate_left
          · intro w hSw; (try dsimp only at hSw); go_simp; try with_reducible rfl
          try simp only [Act.put, List.setIfInBounds_toArray, List.set_cons_zero, List.set_cons_succ]
          refine wpAnyH_done (by kernel_rfl) ?_ _
          refine NoPanic.normal ?_
          go_wp2_with fail
          go_meet
          refine ⟨w8.heap.size, w9.heap.size, rfl, rfl, rfl, hH, g6, ?_, ?_, ?_, ?_⟩
          · exact put_0S (cell_setO (cell_setO p60 (by omega)) (by omega)) _ _
          · exact put_1S (cell_setO (cell_setO p60 (by omega)) (by omega)) (cell_setO (cell_setO p61 (by omega)) (by omega)) _ _
          · simpa using f60
          · simpa using f61
      · go_simp
        refine hK.out _ _ ⟨hH.1.tr (bl_alS _ _), kcb (bl_alS _ _) hH.2.1, kcb (bl_alS _ _) hH.2.2.1, kcb (bl_alS _ _) hH.2.2.2⟩ (fun hH' => ?_)
        clear hH
        have hH := hH'
        clear hH' hK K
        try simp only [Act.put, List.setIfInBounds_toArray, List.set_cons_zero, List.set_cons_succ]
        refine wpAnyH_ready (rs := [7]) (by kernel_rfl) (by simp) ?_
        refine AllReadyH.cons (o := ({ dst := some 41, op := Go.Op.call { callee := Go.Callee.value (Go.Operand.func 67), args := #[Go.Operand.tmp 34, Go.Operand.tmp 40], argTypes := #[25, 3] }, type := 79, pos := "proof.go:30", after := #[{ on := 0, ground := Go.Ground.data }, { on := 6, ground := Go.Ground.data }], guard := none } : Oper)) rfl (fun K hK => ?_) (AllReadyH.nil)
        · go_simp
          go_at_call 67
          refine (HT.out _ (BX.tr hH.1)).mono ?_
          rintro e8 w8 ⟨rfl, hb⟩
          have z8 := hb.size
          simp only [World.size_alloc, World.size_drew] at z8
          have z60 := kcb hb (show (((w9.drew).alloc (Obj.cells #[.int .i64 0, .int .i64 0] 78)).alloc (Obj.cells #[.int .i64 0, .int .i64 0] 78)).cell? ⟨w9.heap.size, 0, none⟩ = some (.int .i64 0) by go_cell)
          have y60 := fzb hb (show (((w9.drew).alloc (Obj.cells #[.int .i64 0, .int .i64 0] 78)).alloc (Obj.cells #[.int .i64 0, .int .i64 0] 78)).frozen? ⟨w9.heap.size, 0, none⟩ = false by go_cell) (ltb (v := .int .i64 0) (show (((w9.drew).alloc (Obj.cells #[.int .i64 0, .int .i64 0] 78)).alloc (Obj.cells #[.int .i64 0, .int .i64 0] 78)).cell? ⟨w9.heap.size, 0, none⟩ = some (.int .i64 0) by go_cell))
          have z61 := kcb hb (show (((w9.drew).alloc (Obj.cells #[.int .i64 0, .int .i64 0] 78)).alloc (Obj.cells #[.int .i64 0, .int .i64 0] 78)).cell? ⟨w9.heap.size, 1, none⟩ = some (.int .i64 0) by go_cell)
          have y61 := fzb hb (show (((w9.drew).alloc (Obj.cells #[.int .i64 0, .int .i64 0] 78)).alloc (Obj.cells #[.int .i64 0, .int .i64 0] 78)).frozen? ⟨w9.heap.size, 1, none⟩ = false by go_cell) (ltb (v := .int .i64 0) (show (((w9.drew).alloc (Obj.cells #[.int .i64 0, .int .i64 0] 78)).alloc (Obj.cells #[.int .i64 0, .int .i64 0] 78)).cell? ⟨w9.heap.size, 1, none⟩ = some (.int .i64 0) by go_cell))
          have z50 := kcb hb (show (((w9.drew).alloc (Obj.cells #[.int .i64 0, .int .i64 0] 78)).alloc (Obj.cells #[.int .i64 0, .int .i64 0] 78)).cell? ⟨w9.heap.size + 1, 0, none⟩ = some (.int .i64 0) by go_cell)
          have y50 := fzb hb (show (((w9.drew).alloc (Obj.cells #[.int .i64 0, .int .i64 0] 78)).alloc (Obj.cells #[.int .i64 0, .int .i64 0] 78)).frozen? ⟨w9.heap.size + 1, 0, none⟩ = false by go_cell) (ltb (v := .int .i64 0) (show (((w9.drew).alloc (Obj.cells #[.int .i64 0, .int .i64 0] 78)).alloc (Obj.cells #[.int .i64 0, .int .i64 0] 78)).cell? ⟨w9.heap.size + 1, 0, none⟩ = some (.int .i64 0) by go_cell))
          have z51 := kcb hb (show (((w9.drew).alloc (Obj.cells #[.int .i64 0, .int .i64 0] 78)).alloc (Obj.cells #[.int .i64 0, .int .i64 0] 78)).cell? ⟨w9.heap.size + 1, 1, none⟩ = some (.int .i64 0) by go_cell)
          have y51 := fzb hb (show (((w9.drew).alloc (Obj.cells #[.int .i64 0, .int .i64 0] 78)).alloc (Obj.cells #[.int .i64 0, .int .i64 0] 78)).frozen? ⟨w9.heap.size + 1, 1, none⟩ = false by go_cell) (ltb (v := .int .i64 0) (show (((w9.drew).alloc (Obj.cells #[.int .i64 0, .int .i64 0] 78)).alloc (Obj.cells #[.int .i64 0, .int .i64 0] 78)).cell? ⟨w9.heap.size + 1, 1, none⟩ = some (.int .i64 0) by go_cell))
          refine hK.out _ _ ⟨hH.1.tr hb, kcb hb hH.2.1, kcb hb hH.2.2.1, kcb hb hH.2.2.2⟩ (fun hH' => ?_)
          clear hH
          have hH := hH'
          clear hH' hK K
          try simp only [Act.put, List.setIfInBounds_toArray, List.set_cons_zero, List.set_cons_succ]
          refine wpAnyH_take (i := 8) (oi := ({ dst := some 33, op := Go.Op.move (Go.Operand.tmp 41), type := 79, pos := "proof.go:30", after := #[{ on := 7, ground := Go.Ground.data }], guard := none } : Oper)) (v := ?_) rfl (by kernel_rfl) (by kernel_rfl) (by kernel_rfl) (fun _ _ _ h => h) (Or.inl ⟨by rfl, ?_⟩) hH ?_
          rotate_left
          · intro w hSw; (try dsimp only at hSw); go_simp; try with_reducible rfl
          try simp only [Act.put, List.setIfInBounds_toArray, List.set_cons_zero, List.set_cons_succ]
          refine wpAnyH_take (i := 9) (oi := ({ dst := some 42, op := Go.Op.extract (Go.Operand.tmp 33) 0, type := 78, pos := "proof.go:30", after := #[{ on := 8, ground := Go.Ground.data }], guard := none } : Oper)) (v := ?_) rfl (by kernel_rfl) (by kernel_rfl) (by kernel_rfl) (fun _ _ _ h => h) (Or.inl ⟨by rfl, ?_⟩) hH ?_
          rotate_left
          · intro w hSw; (try dsimp only at hSw); go_simp; try with_reducible rfl
          try simp only [Act.put, List.setIfInBounds_toArray, List.set_cons_zero, List.set_cons_succ]
          refine wpAnyH_take (i := 10) (oi := ({ dst := some 43, op := Go.Op.extract (Go.Operand.tmp 33) 1, type := 78, pos := "proof.go:30", after := #[{ on := 8, ground := Go.Ground.data }, { on := 14, ground := Go.Ground.gcOnly Go.Departure.lateStores }], guard := none } : Oper)) (v := ?_) rfl (by kernel_rfl) (by kernel_rfl) (by kernel_rfl) (fun _ _ _ h => h) (Or.inl ⟨by rfl, ?_⟩) hH ?_
          rotate_left
          · intro w hSw; (try dsimp only at hSw); go_simp; try with_reducible rfl
          try simp only [Act.put, List.setIfInBounds_toArray, List.set_cons_zero, List.set_cons_succ]
          refine wpAnyH_take (i := 11) (oi := ({ dst := some 44, op := Go.Op.extract (Go.Operand.tmp 33) 2, type := 3, pos := "proof.go:30", after := #[{ on := 8, ground := Go.Ground.data }, { on := 15, ground := Go.Ground.gcOnly Go.Departure.lateStores }], guard := none } : Oper)) (v := ?_) rfl (by kernel_rfl) (by kernel_rfl) (by kernel_rfl) (fun _ _ _ h => h) (Or.inl ⟨by rfl, ?_⟩) hH ?_
          rotate_left
          · intro w hSw; (try dsimp only at hSw); go_simp; try with_reducible rfl
          try simp only [Act.put, List.setIfInBounds_toArray, List.set_cons_zero, List.set_cons_succ]
          have p50 : (w8).cell? ⟨w9.heap.size + 1, 0, none⟩ = some (.int .i64 0) := (by first | (go_cell; done) | exact z50 | exact cellUp z50)
          have f50 : (w8).frozen? ⟨w9.heap.size + 1, 0, none⟩ = false := (by first | (go_cell; done) | exact y50 | exact fzb (bl_alS _ _) y50 (ltb z50))
          have p51 : (w8).cell? ⟨w9.heap.size + 1, 1, none⟩ = some (.int .i64 0) := (by first | (go_cell; done) | exact z51 | exact cellUp z51)
          have f51 : (w8).frozen? ⟨w9.heap.size + 1, 1, none⟩ = false := (by first | (go_cell; done) | exact y51 | exact fzb (bl_alS _ _) y51 (ltb z51))
          have g5 : X.heap.size ≤ w9.heap.size + 1 := (by omega)
          have l5 := ltb p50
          have p60 : (w8).cell? ⟨w9.heap.size, 0, none⟩ = some (.int .i64 0) := (by first | (go_cell; done) | exact z60 | exact cellUp z60)
          have f60 : (w8).frozen? ⟨w9.heap.size, 0, none⟩ = false := (by first | (go_cell; done) | exact y60 | exact fzb (bl_alS _ _) y60 (ltb z60))
          have p61 : (w8).cell? ⟨w9.heap.size, 1, none⟩ = some (.int .i64 0) := (by first | (go_cell; done) | exact z61 | exact cellUp z61)
          have f61 : (w8).frozen? ⟨w9.heap.size, 1, none⟩ = false := (by first | (go_cell; done) | exact y61 | exact fzb (bl_alS _ _) y61 (ltb z61))
          have g6 : X.heap.size ≤ w9.heap.size := (by omega)
          have l6 := ltb p60
          generalize hY : (w8) = Y at hH p50 p51 p60 p61 f50 f51 f60 f61 l5 l6 ⊢
          clear hY
          refine wpAnyH_ready (rs := [14]) (by kernel_rfl) (by simp) ?_
          refine AllReadyH.cons (o := ({ dst := none, op := Go.Op.store 78 (Go.Operand.tmp 5) (Go.Operand.tmp 42), type := 0, pos := "proof.go:30", after := #[{ on := 12, ground := Go.Ground.data }, { on := 9, ground := Go.Ground.data }, { on := 7, ground := Go.Ground.chain }, { on := 0, ground := Go.Ground.phase }, { on := 1, ground := Go.Ground.phase }, { on := 2, ground := Go.Ground.phase }, { on := 3, ground := Go.Ground.phase }, { on := 4, ground := Go.Ground.phase }, { on := 5, ground := Go.Ground.phase }, { on := 6, ground := Go.Ground.phase }, { on := 7, ground := Go.Ground.phase }, { on := 8, ground := Go.Ground.phase }, { on := 9, ground := Go.Ground.phase }, { on := 10, ground := Go.Ground.textOnly Go.Departure.lateStores }, { on := 11, ground := Go.Ground.textOnly Go.Departure.lateStores }, { on := 12, ground := Go.Ground.phase }, { on := 13, ground := Go.Ground.phase }], guard := none } : Oper)) rfl (fun K hK => ?_) AllReadyH.nil
          go_simp
          refine hK.out _ _ ⟨bl_set (bl_set hH.1 g5) g5, cell_setO (cell_setO hH.2.1 (by omega)) (by omega), cell_setO (cell_setO hH.2.2.1 (by omega)) (by omega), cell_setO (cell_setO hH.2.2.2 (by omega)) (by omega)⟩ (fun hH' => ?_)
          clear hH
          have hH := hH'
          clear hH' hK K
          try simp only [Act.put, List.setIfInBounds_toArray, List.set_cons_zero, List.set_cons_succ]
          refine wpAnyH_ready (rs := [15]) (by kernel_rfl) (by simp) ?_
          refine AllReadyH.cons (o := ({ dst := none, op := Go.Op.store 78 (Go.Operand.tmp 6) (Go.Operand.tmp 43), type := 0, pos := "proof.go:30", after := #[{ on := 13, ground := Go.Ground.data }, { on := 10, ground := Go.Ground.data }, { on := 14, ground := Go.Ground.chain }, { on := 0, ground := Go.Ground.phase }, { on := 1, ground := Go.Ground.phase }, { on := 2, ground := Go.Ground.phase }, { on := 3, ground := Go.Ground.phase }, { on := 4, ground := Go.Ground.phase }, { on := 5, ground := Go.Ground.phase }, { on := 6, ground := Go.Ground.phase }, { on := 7, ground := Go.Ground.phase }, { on := 8, ground := Go.Ground.phase }, { on := 9, ground := Go.Ground.phase }, { on := 10, ground := Go.Ground.phase }, { on := 11, ground := Go.Ground.textOnly Go.Departure.lateStores }, { on := 12, ground := Go.Ground.phase }, { on := 13, ground := Go.Ground.phase }, { on := 14, ground := Go.Ground.phase }], guard := none } : Oper)) rfl (fun K hK => ?_) AllReadyH.nil
          go_simp
          refine hK.out _ _ ⟨bl_set (bl_set hH.1 g6) g6, cell_setO (cell_setO hH.2.1 (by omega)) (by omega), cell_setO (cell_setO hH.2.2.1 (by omega)) (by omega), cell_setO (cell_setO hH.2.2.2 (by omega)) (by omega)⟩ (fun hH' => ?_)
          clear hH
          have hH := hH'
          clear hH' hK K
          try simp only [Act.put, List.setIfInBounds_toArray, List.set_cons_zero, List.set_cons_succ]
          refine wpAnyH_take (i := 16) (oi := ({ dst := some 7, op := Go.Op.assign (Go.Operand.tmp 44), type := 3, pos := "proof.go:30", after := #[{ on := 11, ground := Go.Ground.data }, { on := 15, ground := Go.Ground.chain }, { on := 0, ground := Go.Ground.phase }, { on := 1, ground := Go.Ground.phase }, { on := 2, ground := Go.Ground.phase }, { on := 3, ground := Go.Ground.phase }, { on := 4, ground := Go.Ground.phase }, { on := 5, ground := Go.Ground.phase }, { on := 6, ground := Go.Ground.phase }, { on := 7, ground := Go.Ground.phase }, { on := 8, ground := Go.Ground.phase }, { on := 9, ground := Go.Ground.phase }, { on := 10, ground := Go.Ground.phase }, { on := 11, ground := Go.Ground.phase }, { on := 12, ground := Go.Ground.phase }, { on := 13, ground := Go.Ground.phase }, { on := 14, ground := Go.Ground.phase }, { on := 15, ground := Go.Ground.phase }], guard := none } : Oper)) (v := ?_) rfl (by kernel_rfl) (by kernel_rfl) (by kernel_rfl) (fun _ _ _ h => h) (Or.inl ⟨by rfl, ?_⟩) hH ?_
          rotate_left
          · intro w hSw; (try dsimp only at hSw); go_simp; try with_reducible rfl
          try simp only [Act.put, List.setIfInBounds_toArray, List.set_cons_zero, List.set_cons_succ]
          refine wpAnyH_done (by kernel_rfl) ?_ _
          refine NoPanic.normal ?_
          go_wp2_with fail
          go_meet
          refine ⟨w9.heap.size + 1, w9.heap.size, rfl, rfl, rfl, hH, g6, ?_, ?_, ?_, ?_⟩
          · exact put_0S (cell_setO (cell_setO p60 (by omega)) (by omega)) _ _
          · exact put_1S (cell_setO (cell_setO p60 (by omega)) (by omega)) (cell_setO (cell_setO p61 (by omega)) (by omega)) _ _
          · simpa using f60
          · simpa using f61
  case rest =>
    obtain ⟨g5, g6, rfl, rfl, rfl, ⟨BC, x0, x1, -⟩, hg6, q0, q1, fq0, fq1⟩ := hcut
    have HB0 := Lib.hid (BX.tr BC)
    clear BC
    have HG6 := Lib.hid (show w.heap.size ≤ g6 ∧ w.heap.size ≠ g6 ∧ g ≠ g6 from ⟨by omega, by omega, by omega⟩)
    have HXC := Lib.hid (show Bl w wc ∧ wc.cell? ⟨w.heap.size, 0, none⟩ = some (.slice A n c) ∧ wc.cell? ⟨w.heap.size, 1, none⟩ = some (.slice B m d) ∧ wc.cell? ⟨g6, 0, none⟩ = some (.int .i64 tp.1) ∧ wc.cell? ⟨g6, 1, none⟩ = some (.int .i64 tp.2) ∧ wc.frozen? ⟨g6, 0, none⟩ = false ∧ wc.frozen? ⟨g6, 1, none⟩ = false from ⟨HB0.out, x0, x1, q0, q1, fq0, fq1⟩)
    clear x0 x1 q0 q1 fq0 fq1 i1 i1' i2 i3 i4 i5 i7 i8 i9 i10 hg6
    go_wp2_with fail
    go_loopw [47, 8] (fun i s wr => ∃ k : Nat, ∃ p sm, k ≤ l ∧ i = .int .i64 k ∧ s = .int .i64 sm ∧ Hid (pvS R S m T tp k = some (p, sm)) ∧ Bl w wr ∧ wr.cell? ⟨w.heap.size, 0, none⟩ = some (.slice A n c) ∧ wr.cell? ⟨w.heap.size, 1, none⟩ = some (.slice B m d) ∧ wr.cell? ⟨g6, 0, none⟩ = some (.int .i64 p.1) ∧ wr.cell? ⟨g6, 1, none⟩ = some (.int .i64 p.2) ∧ wr.frozen? ⟨g6, 0, none⟩ = false ∧ wr.frozen? ⟨g6, 1, none⟩ = false) (fun i _ _ => l - (intOf i).toNat)
    case atStart => exact ⟨0, tp, 0, Nat.zero_le _, rfl, rfl, rfl, HXC.out⟩
    case round =>
      obtain ⟨k, p, sm, hk, rfl, rfl, HO, hZ, x0, x1, q0, q1, f0, f1⟩ := hrel
      have HZ := Lib.hid hZ
      have lx := ltb x0
      have lq := ltb q0
      by_cases hlt : k < l
      · have c1 := kcb hZ (HCL.out k hlt)
        have lc := ltb c1
        have HRT := Lib.hid (HRG.out k hlt)
        have HNX := Lib.hid (fun (h1 : mkB m (T k) = true) (h2 : (tkn S (T k).toNat).1.1 = p.1) => pvS_next HO.out h1 h2)
        have HBD := Lib.hid (fun (h : ¬ (mkB m (T k) = true ∧ (tkn S (T k).toNat).1.1 = p.1)) => HPN.out (pvS_stop (show k + 1 ≤ l by omega) (pvS_bad HO.out h)))
        obtain ⟨t, ht⟩ : ∃ t, t = T k := ⟨_, rfl⟩
        rw [← ht] at c1 HRT HNX HBD
        have HIM := Lib.hid (fun W => isMark_any A n c B m d t W HRT.out)
        clear ht hZ
        cases hq : mkB m t with
        | false =>
          have HN := Lib.hid (HBD.out (fun h => by rw [hq] at h; exact Bool.noConfusion h.1))
          rw [hq] at HIM
          clear hq
          go_wp2_with fail
          refine (HIM.out _).mono ?_
          rintro e1 w1 ⟨rfl, hb1⟩
          have HB1 := Lib.hid (HZ.out.tr hb1)
          clear hb1
          go_wp2_with fail
          go_ret
          exact ⟨ret_bool HN.out.symm, HB1.out⟩
        | true =>
          rw [hq] at HIM
          obtain ⟨k0, k1⟩ := mkB_iff.1 hq
          obtain ⟨kt, rfl⟩ : ∃ kt : Nat, t = (kt : Int) := ⟨t.toNat, by omega⟩
          rw [Int.toNat_natCast] at HNX HBD
          have hlk : kt < 2 * m := by omega
          have hsg := sgB_iff.1 (HVN.out.sg (kt / 2) (by omega))
          have HT2 := Lib.hid (fun (W : World) (hW : Bl w W) => taken_any A n c B m d S kt W (HSB.out.below hW) hlk (by have := HVN.out.m30; omega) ⟨by omega, by omega⟩)
          have HTK := Lib.hid (tkn_ok HVN.out hlk)
          have HPB := Lib.hid (pvS_bd HVN.out HP0.out HO.out)
          obtain ⟨fq, hfq⟩ : ∃ fq, fq = (tkn S kt).1 := ⟨_, rfl⟩
          obtain ⟨tq, htq⟩ : ∃ tq, tq = (tkn S kt).2.1 := ⟨_, rfl⟩
          obtain ⟨cq, hcq⟩ : ∃ cq, cq = (tkn S kt).2.2 := ⟨_, rfl⟩
          rw [← hfq, ← htq, ← hcq] at HT2 HTK HNX
          rw [← hfq] at HBD
          have HQ := Lib.hid hq
          clear hq k0 k1 hsg hfq htq hcq
          go_wp2_with fail
          refine (HIM.out _).mono ?_
          rintro e1 w1 ⟨rfl, hb1⟩
          have HB1 := Lib.hid (HZ.out.tr hb1)
          have x0 := kcb hb1 x0
          have x1 := kcb hb1 x1
          have q0 := kcb hb1 q0
          have q1 := kcb hb1 q1
          have f0 := fzb hb1 f0 lq
          have f1 := fzb hb1 f1 lq
          have lx := ltb x0
          clear hb1
          go_wp2_with fail
          refine (HT2.out _ HB1.out).mono ?_
          rintro e2 w2 ⟨rfl, hb2⟩
          have HB2 := Lib.hid (HB1.out.tr hb2)
          have lq1 := ltb q0
          have x0 := kcb hb2 x0
          have x1 := kcb hb2 x1
          have q0 := kcb hb2 q0
          have q1 := kcb hb2 q1
          have f0 := fzb hb2 f0 lq1
          have f1 := fzb hb2 f1 lq1
          have lx := ltb x0
          have lq := ltb q0
          clear hb2
          have lq2 : g6 < w2.heap.size + 1 := by omega
          have lq3 : g6 < w2.heap.size + 1 + 1 := by omega
          have lx2 : w.heap.size < w2.heap.size + 1 := by omega
          have lx3 : w.heap.size < w2.heap.size + 1 + 1 := by omega
          have le2 : w.heap.size ≤ w2.heap.size := by omega
          by_cases hcq : fq.1 = p.1
          rotate_left
          · have hcq' : (fq.1 != p.1) = true := by simp [hcq]
            have HN := Lib.hid (HBD.out (fun h => hcq h.2))
            clear hcq
            go_wp2_with fail
            go_ret
            exact ⟨ret_bool HN.out.symm, HB2.out.tr (Bl.tr (bl_alS _ _) (bl_alS _ _))⟩
          · have hcq' : (fq.1 != p.1) = false := by simp [hcq]
            have HN := Lib.hid (HNX.out HQ.out hcq)
            have HCQ := Lib.hid hcq
            clear hcq
            go_wp2_with fail
            obtain ⟨Y, hY⟩ : ∃ Y, Y = (w2.alloc (Obj.cells #[.int .i64 fq.1, .int .i64 fq.2] 78)).alloc (Obj.cells #[.int .i64 tq.1, .int .i64 tq.2] 78) := ⟨_, rfl⟩
            have BY : Bl w2 Y := by rw [hY]; exact Bl.tr (bl_alS _ _) (bl_alS _ _)
            have y0 : Y.cell? ⟨w2.heap.size + 1, 0, none⟩ = some (.int .i64 tq.1) := by rw [hY]; go_cell
            have y1 : Y.cell? ⟨w2.heap.size + 1, 1, none⟩ = some (.int .i64 tq.2) := by rw [hY]; go_cell
            rw [← hY]
            clear hY
            have x0 := kcb BY x0
            have x1 := kcb BY x1
            have f0 := fzb BY f0 lq
            have f1 := fzb BY f1 lq
            have q0 := kcb BY q0
            have q1 := kcb BY q1
            have HB3 := Lib.hid (HB2.out.tr BY)
            clear BY lq2 lq3 lx2 lx3 le2 lq lx hcq'
            have hrr := HVN.out.ra p.1.toNat (by have := HPB.out.1.1; omega)
            have hcc := crr_bd hrr (dt := max p.2 fq.2 - min p.2 fq.2) (by have := HPB.out.1.2; have := HTK.out.1.2; omega)
            have hce : crb R p fq = crr (R p.1.toNat) (max p.2 fq.2 - min p.2 fq.2) := rfl
            have HCB := carryBetween_any A n c R p fq Y (HSA.out.below HB3.out) (by have := HVN.out.n8; omega) HPB.out.1.1 HVN.out.ra HPB.out.1.2 HTK.out.1.2
            obtain ⟨cb, hcb⟩ : ∃ cb, cb = crb R p fq := ⟨_, rfl⟩
            have hcq1 := HTK.out.2.2
            have hsm := HPB.out.2
            have v1 : IntKind.i64.wrap (cb + cq) = cb + cq := IntWalk.i64_in _ (by omega)
            have v2 : IntKind.i64.wrap (sm + (cb + cq)) = sm + (cb + cq) := IntWalk.i64_in _ (by omega)
            rw [← hcb] at HCB HN
            have hlq := ltb q0
            clear hrr hcc hce hcb hcq1 hsm
            refine HCB.mono ?_
            rintro e3 w3 ⟨rfl, hb3⟩
            have HB4 := Lib.hid (HB3.out.tr hb3)
            have x0 := kcb hb3 x0
            have x1 := kcb hb3 x1
            have f0 := fzb hb3 f0 hlq
            have f1 := fzb hb3 f1 hlq
            have q0 := kcb hb3 q0
            have q1 := kcb hb3 q1
            have y0 := kcb hb3 y0
            have y1 := kcb hb3 y1
            have lx := ltb x0
            have lq := ltb q0
            have ly := ltb y0
            clear hb3 HCB hlq
            go_wp2_with fail
            go_roundw
            case rel => exact ⟨k + 1, tq, sm + (cb + cq), by omega, by go_num, rfl, HN.out, bl_set (bl_set HB4.out HG6.out.1) HG6.out.1, cell_setO (cell_setO x0 HG6.out.2.1) HG6.out.2.1, cell_setO (cell_setO x1 HG6.out.2.1) HG6.out.2.1, put_0S q0 _ _, put_1S q0 q1 _ _, by simpa using f0, by simpa using f1⟩
            case measure => simp [RowKit.intOf]; omega
      · obtain rfl : k = l := by omega
        have HV2 := Lib.hid (HPV.out p sm HO.out)
        go_wp2_with fail
        go_ret
        exact ⟨ret_bool HV2.out.symm, HZ.out⟩
end Go.Proofs.Ytennmdlajealpaa
