/-
  Package sight: whether a list proves a contradiction.
-/
import Derived.Test.YtennmdlajealpaaQB
import Derived.BigQuiet
import Derived.Deep.QuietTactic
import Derived.Deep.RegionHeld3
namespace Go.Proofs.Ytennmdlajealpaa
open Go.RowKit Go.Maps
set_option linter.unusedSimpArgs false
set_option linter.unusedVariables false

/-- Where the first k marks of a list lead from a point, and at what cost. -/
def pvS (R : Nat → Int) (S : Nat → Sgt) (m : Nat) (T : Nat → Int) (p0 : Spt) : Nat → Option (Spt × Int)
  | 0 => some (p0, 0)
  | k + 1 => match pvS R S m T p0 k with
    | none => none
    | some u => if mkB m (T k) = true ∧ (tkn S (T k).toNat).1.1 = u.1.1 then some ((tkn S (T k).toNat).2.1, u.2 + (crb R u.1 (tkn S (T k).toNat).1 + (tkn S (T k).toNat).2.2)) else none
theorem pvS_stop {R : Nat → Int} {S : Nat → Sgt} {m : Nat} {T : Nat → Int} {p0 : Spt} {k n : Nat} (hk : k ≤ n) (h : pvS R S m T p0 k = none) : pvS R S m T p0 n = none := by
  induction n with
  | zero => obtain rfl : k = 0 := by omega
            exact h
  | succ n ih =>
    by_cases e : k = n + 1
    · subst e; exact h
    · rw [pvS, ih (by omega)]
theorem pvS_next {R : Nat → Int} {S : Nat → Sgt} {m : Nat} {T : Nat → Int} {p0 p : Spt} {s : Int} {k : Nat} (h : pvS R S m T p0 k = some (p, s)) (hm : mkB m (T k) = true) (hc : (tkn S (T k).toNat).1.1 = p.1) :
    pvS R S m T p0 (k + 1) = some ((tkn S (T k).toNat).2.1, s + (crb R p (tkn S (T k).toNat).1 + (tkn S (T k).toNat).2.2)) := by
  rw [pvS, h]; exact if_pos ⟨hm, hc⟩
theorem pvS_bad {R : Nat → Int} {S : Nat → Sgt} {m : Nat} {T : Nat → Int} {p0 p : Spt} {s : Int} {k : Nat} (h : pvS R S m T p0 k = some (p, s)) (hm : ¬ (mkB m (T k) = true ∧ (tkn S (T k).toNat).1.1 = p.1)) : pvS R S m T p0 (k + 1) = none := by
  rw [pvS, h]; exact if_neg hm
/-- Whether a list is a proof. -/
def prvV (R : Nat → Int) (S : Nat → Sgt) (m : Nat) (T : Nat → Int) (n : Nat) : Bool :=
  decide (1 ≤ n) && mkB m (T (n - 1)) && (match pvS R S m T (tkn S (T (n - 1)).toNat).2.1 n with | none => false | some u => decide (u.2 < 0))
theorem prvV_none {R : Nat → Int} {S : Nat → Sgt} {m : Nat} {T : Nat → Int} {n : Nat} (h : pvS R S m T (tkn S (T (n - 1)).toNat).2.1 n = none) : prvV R S m T n = false := by
  rw [prvV, h, Bool.and_false]
theorem prvV_some {R : Nat → Int} {S : Nat → Sgt} {m : Nat} {T : Nat → Int} {n : Nat} {p : Spt} {s : Int} (h1 : 1 ≤ n) (h2 : mkB m (T (n - 1)) = true) (h : pvS R S m T (tkn S (T (n - 1)).toNat).2.1 n = some (p, s)) : prvV R S m T n = decide (s < 0) := by
  rw [prvV, h, h2, decide_eq_true h1]; rfl
/-- The first k marks are a way. -/
theorem pvS_way {R : Nat → Int} {S : Nat → Sgt} {m : Nat} (hR : ∀ k, k < 2 * m → 0 ≤ R (tkn S k).1.1.toNat) {T : Nat → Int} {p0 p : Spt} {s : Int} {k : Nat} (h : pvS R S m T p0 k = some (p, s)) : Way R S m p0 p s ∧ (1 ≤ k → mkB m (T (k - 1)) = true ∧ p = (tkn S (T (k - 1)).toNat).2.1) := by
  induction k generalizing p s with
  | zero =>
    simp only [pvS, Option.some.injEq, Prod.mk.injEq] at h
    obtain ⟨rfl, rfl⟩ := h
    exact ⟨.nil _, fun h => absurd h (by omega)⟩
  | succ k ih =>
    rw [pvS] at h
    split at h
    · cases h
    · rename_i u hu
      split at h
      · rename_i hc
        obtain ⟨hm, he⟩ := hc
        simp only [Option.some.injEq, Prod.mk.injEq] at h
        obtain ⟨rfl, rfl⟩ := h
        obtain ⟨k0, k1⟩ := mkB_iff.1 hm
        have hlt : (T k).toNat < 2 * m := by omega
        have h1 := (ih hu).1.car (tkn S (T k).toNat).1 he.symm (by rw [← he]; exact hR _ hlt)
        exact ⟨(h1.sgt _ hlt).cast (by omega), fun _ => ⟨hm, rfl⟩⟩
      · cases h
/-- A proof shows a contradiction. -/
theorem prvV_not {R : Nat → Int} {S : Nat → Sgt} {m : Nat} (hR : ∀ k, k < 2 * m → 0 ≤ R (tkn S k).1.1.toNat) {T : Nat → Int} {n : Nat} (h : prvV R S m T n = true) : ¬ NoC R S m := fun hN => by
  simp only [prvV, Bool.and_eq_true, decide_eq_true_eq] at h
  obtain ⟨⟨h1, h2⟩, h3⟩ := h
  split at h3
  · cases h3
  · rename_i u hu
    have h3 := of_decide_eq_true h3
    obtain ⟨g1, g2⟩ := pvS_way hR (p := u.1) (s := u.2) hu
    rw [(g2 h1).2] at g1
    have := hN _ _ g1
    omega
/-- What the sum may be. -/
theorem pvS_bd {R : Nat → Int} {n m : Nat} {S : Nat → Sgt} (hv : VN R n S m) {T : Nat → Int} {p0 p : Spt} {s : Int} {k : Nat} (h0 : PtB n p0) (h : pvS R S m T p0 k = some (p, s)) : PtB n p ∧ -((k : Int) * 2000000000) ≤ s ∧ s ≤ (k : Int) * 2000000000 := by
  induction k generalizing p s with
  | zero =>
    simp only [pvS, Option.some.injEq, Prod.mk.injEq] at h
    obtain ⟨rfl, rfl⟩ := h
    exact ⟨h0, by omega, by omega⟩
  | succ k ih =>
    rw [pvS] at h
    split at h
    · cases h
    · rename_i u hu
      split at h
      · rename_i hc
        obtain ⟨hm, he⟩ := hc
        simp only [Option.some.injEq, Prod.mk.injEq] at h
        obtain ⟨rfl, rfl⟩ := h
        obtain ⟨k0, k1⟩ := mkB_iff.1 hm
        obtain ⟨a1, a2, a3⟩ := ih hu
        obtain ⟨b1, b2, b3, b4⟩ := tkn_ok hv (k := (T k).toNat) (by omega)
        have hr := hv.ra u.1.1.toNat (by have := a1.1; omega)
        have hx := crr_bd hr (dt := max u.1.2 (tkn S (T k).toNat).1.2 - min u.1.2 (tkn S (T k).toNat).1.2) (by have := a1.2; have := b1.2; omega)
        have hy : crb R u.1 (tkn S (T k).toNat).1 = crr (R u.1.1.toNat) (max u.1.2 (tkn S (T k).toNat).1.2 - min u.1.2 (tkn S (T k).toNat).1.2) := rfl
        refine ⟨b2, ?_, ?_⟩ <;> rw [hy] <;> omega
      · cases h
theorem put_0S {X : World} {b : Nat} {x : Value} (c0 : X.cell? ⟨b, 0, none⟩ = some x) (u v : Value) : ((X.setCell ⟨b, 0, none⟩ u).setCell ⟨b, 1, none⟩ v).cell? ⟨b, 0, none⟩ = some u := by go_cell
theorem put_1S {X : World} {b : Nat} {x y : Value} (c0 : X.cell? ⟨b, 0, none⟩ = some x) (c1 : X.cell? ⟨b, 1, none⟩ = some y) (u v : Value) : ((X.setCell ⟨b, 0, none⟩ u).setCell ⟨b, 1, none⟩ v).cell? ⟨b, 1, none⟩ = some v := by go_cell
theorem bl_alS (w : World) (o : Obj) : Bl w (w.alloc o) := by go_grown
theorem box_kS (w : World) (A : Option Addr) (n c : Nat) (B : Option Addr) (m d : Nat) : Bl w (w.alloc (Obj.cells #[.slice A n c, .slice B m d] 25)) ∧ (w.alloc (Obj.cells #[.slice A n c, .slice B m d] 25)).cell? ⟨w.heap.size, 0, none⟩ = some (.slice A n c) ∧ (w.alloc (Obj.cells #[.slice A n c, .slice B m d] 25)).cell? ⟨w.heap.size, 1, none⟩ = some (.slice B m d) := ⟨by go_grown, by go_cell, by go_cell⟩
set_option maxRecDepth 100000 in
set_option maxHeartbeats 6400000 in
theorem proves_bad (A : Option Addr) (n c : Nat) (R : Nat → Int) (B : Option Addr) (m d : Nat) (S : Nat → Sgt) (L : Option Addr) (l cl : Nat) (T : Nat → Int) (w : World) (hA : Sl w A n R) (hB : Sgl w B m S) (hL : Sl w L l T) (hn : n ≤ maxLen) (hm : m ≤ maxLen) (hv : vnB R n S m = false) :
    Calls Try.prog 22 #[encN A n c B m d, .slice L l cl] w fun e w' => e = .returned (.bool (vnB R n S m && prvV R S m T l)) ∧ Bl w w' := by
  have HV := Lib.hid (fun (W : World) (hW : Bl w W) => validN_any A n c R B m d S W (hA.below hW) (hB.below hW) hn hm)
  clear hn hm
  rw [hv] at HV
  rw [hv, Bool.false_and]
  clear hv hA hB hL
  go_enter Try.func22, Try.ntmps22
  go_wp2_with fail
  obtain ⟨BX, x0, x1⟩ := box_kS w A n c B m d
  obtain ⟨X, hX⟩ : ∃ X, X = w.alloc (Obj.cells #[.slice A n c, .slice B m d] 25) := ⟨_, rfl⟩
  rw [← hX] at BX x0 x1
  rw [← hX]
  clear hX
  have lX := ltb x0
  refine wp_region_noPanic ?_
  refine wp_region_held_drew (S := fun w' => Bl X w' ∧ w'.cell? ⟨w.heap.size, 0, none⟩ = some (.slice A n c) ∧ w'.cell? ⟨w.heap.size, 1, none⟩ = some (.slice B m d)) (by kernel_rfl) (⟨bl_drS _, kcb (bl_drS _) x0, kcb (bl_drS _) x1⟩) (fun hH => ?_)
  refine wpAnyH_take (i := 0) (oi := ({ dst := some 14, op := Go.Op.load 25 (Go.Operand.tmp 2), type := 25, pos := "proof.go:27", after := #[], guard := none } : Oper)) (v := ?_) rfl (by kernel_rfl) (by kernel_rfl) (by kernel_rfl) (fun _ _ _ h => h) (Or.inl ⟨by rfl, ?_⟩) hH ?_
  rotate_left
  · intro w hSw; (try dsimp only at hSw); go_simp; try with_reducible rfl
  try simp only [Act.put, List.setIfInBounds_toArray, List.set_cons_zero, List.set_cons_succ]
  refine wpAnyH_ready (rs := [1]) (by kernel_rfl) (by simp) ?_
  refine AllReadyH.cons (o := ({ dst := some 15, op := Go.Op.call { callee := Go.Callee.value (Go.Operand.func 17), args := #[Go.Operand.tmp 14], argTypes := #[25] }, type := 4, pos := "proof.go:27", after := #[{ on := 0, ground := Go.Ground.data }], guard := none } : Oper)) rfl (fun K hK => ?_) AllReadyH.nil
  go_simp
  go_at_call 17
  refine (HV.out _ (BX.tr hH.1)).mono ?_
  rintro e9 w9 ⟨rfl, hb⟩
  refine hK.out _ _ ⟨hH.1.tr hb, kcb hb hH.2.1, kcb hb hH.2.2⟩ (fun hH' => ?_)
  clear hH
  have hH := hH'
  clear hH' hK K
  try simp only [Act.put, List.setIfInBounds_toArray, List.set_cons_zero, List.set_cons_succ]
  refine wpAnyH_take (i := 2) (oi := ({ dst := some 16, op := Go.Op.unOp Go.UnOp.not 4 (Go.Operand.tmp 15), type := 4, pos := "proof.go:27", after := #[{ on := 1, ground := Go.Ground.data }], guard := none } : Oper)) (v := ?_) rfl (by kernel_rfl) (by kernel_rfl) (by kernel_rfl) (fun _ _ _ h => h) (Or.inl ⟨by rfl, ?_⟩) hH ?_
  rotate_left
  · intro w hSw; (try dsimp only at hSw); go_simp; try with_reducible rfl
  try simp only [Act.put, List.setIfInBounds_toArray, List.set_cons_zero, List.set_cons_succ]
  refine wpAnyH_take (i := 3) (oi := ({ dst := some 17, op := Go.Op.move (Go.Operand.tmp 16), type := 4, pos := "proof.go:27", after := #[{ on := 2, ground := Go.Ground.data }, { on := 1, ground := Go.Ground.chain }], guard := none } : Oper)) (v := ?_) rfl (by kernel_rfl) (by kernel_rfl) (by kernel_rfl) (fun _ _ _ h => h) (Or.inl ⟨by rfl, ?_⟩) hH ?_
  rotate_left
  · intro w hSw; (try dsimp only at hSw); go_simp; try with_reducible rfl
  try simp only [Act.put, List.setIfInBounds_toArray, List.set_cons_zero, List.set_cons_succ]
  refine wpAnyH_take (i := 4) (oi := ({ dst := some 18, op := Go.Op.move (Go.Operand.tmp 1), type := 22, pos := "proof.go:27", after := #[{ on := 3, ground := Go.Ground.guard }], guard := some (3, false) } : Oper)) (v := undef) rfl (by kernel_rfl) (by kernel_rfl) (by kernel_rfl) (fun _ _ _ h => h) (Or.inr ⟨by rfl, rfl⟩) hH ?_
  try simp only [Act.put, List.setIfInBounds_toArray, List.set_cons_zero, List.set_cons_succ]
  refine wpAnyH_take (i := 5) (oi := ({ dst := some 19, op := Go.Op.call { callee := Go.Callee.builtin Go.Builtin.len, args := #[Go.Operand.tmp 18], argTypes := #[22] }, type := 3, pos := "proof.go:27", after := #[{ on := 4, ground := Go.Ground.data }, { on := 3, ground := Go.Ground.guard }], guard := some (3, false) } : Oper)) (v := undef) rfl (by kernel_rfl) (by kernel_rfl) (by kernel_rfl) (fun _ _ _ h => h) (Or.inr ⟨by rfl, rfl⟩) hH ?_
  try simp only [Act.put, List.setIfInBounds_toArray, List.set_cons_zero, List.set_cons_succ]
  refine wpAnyH_take (i := 6) (oi := ({ dst := some 20, op := Go.Op.binOp Go.BinOp.eql 3 (Go.Operand.tmp 19) (Go.Operand.const (Go.Value.int Go.IntKind.i64 0)) 3, type := 4, pos := "proof.go:27", after := #[{ on := 5, ground := Go.Ground.data }, { on := 3, ground := Go.Ground.guard }], guard := some (3, false) } : Oper)) (v := undef) rfl (by kernel_rfl) (by kernel_rfl) (by kernel_rfl) (fun _ _ _ h => h) (Or.inr ⟨by rfl, rfl⟩) hH ?_
  try simp only [Act.put, List.setIfInBounds_toArray, List.set_cons_zero, List.set_cons_succ]
  refine wpAnyH_take (i := 7) (oi := ({ dst := some 21, op := Go.Op.pick (Go.Operand.tmp 17) (Go.Operand.const (Go.Value.bool true)) (Go.Operand.tmp 20), type := 4, pos := "proof.go:27", after := #[{ on := 3, ground := Go.Ground.data }, { on := 6, ground := Go.Ground.data }], guard := none } : Oper)) (v := ?_) rfl (by kernel_rfl) (by kernel_rfl) (by kernel_rfl) (fun _ _ _ h => h) (Or.inl ⟨by rfl, ?_⟩) hH ?_
  rotate_left
  · intro w hSw; (try dsimp only at hSw); go_simp; try with_reducible rfl
  try simp only [Act.put, List.setIfInBounds_toArray, List.set_cons_zero, List.set_cons_succ]
  refine wpAnyH_take (i := 8) (oi := ({ dst := some 22, op := Go.Op.move (Go.Operand.tmp 21), type := 4, pos := "proof.go:27", after := #[{ on := 7, ground := Go.Ground.data }, { on := 3, ground := Go.Ground.chain }], guard := none } : Oper)) (v := ?_) rfl (by kernel_rfl) (by kernel_rfl) (by kernel_rfl) (fun _ _ _ h => h) (Or.inl ⟨by rfl, ?_⟩) hH ?_
  rotate_left
  · intro w hSw; (try dsimp only at hSw); go_simp; try with_reducible rfl
  try simp only [Act.put, List.setIfInBounds_toArray, List.set_cons_zero, List.set_cons_succ]
  refine wpAnyH_take (i := 9) (oi := ({ dst := some 23, op := Go.Op.load 25 (Go.Operand.tmp 2), type := 25, pos := "proof.go:27", after := #[{ on := 8, ground := Go.Ground.guard }], guard := some (8, false) } : Oper)) (v := undef) rfl (by kernel_rfl) (by kernel_rfl) (by kernel_rfl) (fun _ _ _ h => h) (Or.inr ⟨by rfl, rfl⟩) hH ?_
  try simp only [Act.put, List.setIfInBounds_toArray, List.set_cons_zero, List.set_cons_succ]
  refine wpAnyH_take (i := 10) (oi := ({ dst := some 24, op := Go.Op.move (Go.Operand.tmp 1), type := 22, pos := "proof.go:27", after := #[{ on := 8, ground := Go.Ground.guard }], guard := some (8, false) } : Oper)) (v := undef) rfl (by kernel_rfl) (by kernel_rfl) (by kernel_rfl) (fun _ _ _ h => h) (Or.inr ⟨by rfl, rfl⟩) hH ?_
  try simp only [Act.put, List.setIfInBounds_toArray, List.set_cons_zero, List.set_cons_succ]
  refine wpAnyH_take (i := 11) (oi := ({ dst := some 25, op := Go.Op.move (Go.Operand.tmp 1), type := 22, pos := "proof.go:27", after := #[{ on := 8, ground := Go.Ground.guard }], guard := some (8, false) } : Oper)) (v := undef) rfl (by kernel_rfl) (by kernel_rfl) (by kernel_rfl) (fun _ _ _ h => h) (Or.inr ⟨by rfl, rfl⟩) hH ?_
  try simp only [Act.put, List.setIfInBounds_toArray, List.set_cons_zero, List.set_cons_succ]
  refine wpAnyH_take (i := 12) (oi := ({ dst := some 26, op := Go.Op.call { callee := Go.Callee.builtin Go.Builtin.len, args := #[Go.Operand.tmp 25], argTypes := #[22] }, type := 3, pos := "proof.go:27", after := #[{ on := 11, ground := Go.Ground.data }, { on := 8, ground := Go.Ground.guard }], guard := some (8, false) } : Oper)) (v := undef) rfl (by kernel_rfl) (by kernel_rfl) (by kernel_rfl) (fun _ _ _ h => h) (Or.inr ⟨by rfl, rfl⟩) hH ?_
  try simp only [Act.put, List.setIfInBounds_toArray, List.set_cons_zero, List.set_cons_succ]
  refine wpAnyH_take (i := 13) (oi := ({ dst := some 27, op := Go.Op.binOp Go.BinOp.sub 3 (Go.Operand.tmp 26) (Go.Operand.const (Go.Value.int Go.IntKind.i64 1)) 3, type := 3, pos := "proof.go:27", after := #[{ on := 12, ground := Go.Ground.data }, { on := 8, ground := Go.Ground.guard }], guard := some (8, false) } : Oper)) (v := undef) rfl (by kernel_rfl) (by kernel_rfl) (by kernel_rfl) (fun _ _ _ h => h) (Or.inr ⟨by rfl, rfl⟩) hH ?_
  try simp only [Act.put, List.setIfInBounds_toArray, List.set_cons_zero, List.set_cons_succ]
  refine wpAnyH_take (i := 14) (oi := ({ dst := some 28, op := Go.Op.indexAddr 22 (Go.Operand.tmp 24) (Go.Operand.tmp 27), type := 0, pos := "proof.go:27", after := #[{ on := 10, ground := Go.Ground.data }, { on := 13, ground := Go.Ground.data }, { on := 8, ground := Go.Ground.guard }], guard := some (8, false) } : Oper)) (v := undef) rfl (by kernel_rfl) (by kernel_rfl) (by kernel_rfl) (fun _ _ _ h => h) (Or.inr ⟨by rfl, rfl⟩) hH ?_
  try simp only [Act.put, List.setIfInBounds_toArray, List.set_cons_zero, List.set_cons_succ]
  refine wpAnyH_take (i := 15) (oi := ({ dst := some 29, op := Go.Op.load 3 (Go.Operand.tmp 28), type := 3, pos := "proof.go:27", after := #[{ on := 14, ground := Go.Ground.data }, { on := 8, ground := Go.Ground.guard }], guard := some (8, false) } : Oper)) (v := undef) rfl (by kernel_rfl) (by kernel_rfl) (by kernel_rfl) (fun _ _ _ h => h) (Or.inr ⟨by rfl, rfl⟩) hH ?_
  try simp only [Act.put, List.setIfInBounds_toArray, List.set_cons_zero, List.set_cons_succ]
  refine wpAnyH_ready (rs := [16]) (by kernel_rfl) (by simp) ?_
  refine AllReadyH.cons (o := ({ dst := some 30, op := Go.Op.call { callee := Go.Callee.value (Go.Operand.func 66), args := #[Go.Operand.tmp 23, Go.Operand.tmp 29], argTypes := #[25, 3] }, type := 4, pos := "proof.go:27", after := #[{ on := 9, ground := Go.Ground.data }, { on := 15, ground := Go.Ground.data }, { on := 8, ground := Go.Ground.chain }, { on := 8, ground := Go.Ground.guard }], guard := some (8, false) } : Oper)) rfl (fun K hK => ?_) AllReadyH.nil
  refine iteInduction (motive := fun p => p) (fun h => absurd (show false = true from h) Bool.false_ne_true) (fun _ => ?_)
  refine hK.out _ _ hH (fun hH' => ?_)
  clear hH' hK K
  try simp only [Act.put, List.setIfInBounds_toArray, List.set_cons_zero, List.set_cons_succ]
  refine wpAnyH_take (i := 17) (oi := ({ dst := some 31, op := Go.Op.unOp Go.UnOp.not 4 (Go.Operand.tmp 30), type := 4, pos := "proof.go:27", after := #[{ on := 16, ground := Go.Ground.data }, { on := 8, ground := Go.Ground.guard }], guard := some (8, false) } : Oper)) (v := undef) rfl (by kernel_rfl) (by kernel_rfl) (by kernel_rfl) (fun _ _ _ h => h) (Or.inr ⟨by rfl, rfl⟩) hH ?_
  try simp only [Act.put, List.setIfInBounds_toArray, List.set_cons_zero, List.set_cons_succ]
  refine wpAnyH_take (i := 18) (oi := ({ dst := some 32, op := Go.Op.pick (Go.Operand.tmp 22) (Go.Operand.const (Go.Value.bool true)) (Go.Operand.tmp 31), type := 4, pos := "proof.go:27", after := #[{ on := 8, ground := Go.Ground.data }, { on := 17, ground := Go.Ground.data }], guard := none } : Oper)) (v := ?_) rfl (by kernel_rfl) (by kernel_rfl) (by kernel_rfl) (fun _ _ _ h => h) (Or.inl ⟨by rfl, ?_⟩) hH ?_
  rotate_left
  · intro w hSw; (try dsimp only at hSw); go_simp; try with_reducible rfl
  try simp only [Act.put, List.setIfInBounds_toArray, List.set_cons_zero, List.set_cons_succ]
  refine wpAnyH_done (by kernel_rfl) ?_ _
  refine NoPanic.normal ?_
  go_wp2_with fail
  go_ret
  exact ⟨rfl, BX.tr hH.1⟩
set_option maxRecDepth 100000 in
set_option maxHeartbeats 6400000 in
theorem proves_none (A : Option Addr) (n c : Nat) (R : Nat → Int) (B : Option Addr) (m d : Nat) (S : Nat → Sgt) (L : Option Addr) (l cl : Nat) (T : Nat → Int) (w : World) (hA : Sl w A n R) (hB : Sgl w B m S) (hL : Sl w L l T) (hn : n ≤ maxLen) (hm : m ≤ maxLen) (hv : vnB R n S m = true) (h0 : l = 0) :
    Calls Try.prog 22 #[encN A n c B m d, .slice L l cl] w fun e w' => e = .returned (.bool (vnB R n S m && prvV R S m T l)) ∧ Bl w w' := by
  have HV := Lib.hid (fun (W : World) (hW : Bl w W) => validN_any A n c R B m d S W (hA.below hW) (hB.below hW) hn hm)
  clear hn hm
  have HF := Lib.hid (show prvV R S m T l = false by rw [h0]; rfl)
  rw [hv] at HV
  rw [hv, Bool.true_and, HF.out]
  subst h0
  clear hv hA hB hL
  go_enter Try.func22, Try.ntmps22
  go_wp2_with fail
  obtain ⟨BX, x0, x1⟩ := box_kS w A n c B m d
  obtain ⟨X, hX⟩ : ∃ X, X = w.alloc (Obj.cells #[.slice A n c, .slice B m d] 25) := ⟨_, rfl⟩
  rw [← hX] at BX x0 x1
  rw [← hX]
  clear hX
  have lX := ltb x0
  refine wp_region_noPanic ?_
  refine wp_region_held_drew (S := fun w' => Bl X w' ∧ w'.cell? ⟨w.heap.size, 0, none⟩ = some (.slice A n c) ∧ w'.cell? ⟨w.heap.size, 1, none⟩ = some (.slice B m d)) (by kernel_rfl) (⟨bl_drS _, kcb (bl_drS _) x0, kcb (bl_drS _) x1⟩) (fun hH => ?_)
  refine wpAnyH_take (i := 0) (oi := ({ dst := some 14, op := Go.Op.load 25 (Go.Operand.tmp 2), type := 25, pos := "proof.go:27", after := #[], guard := none } : Oper)) (v := ?_) rfl (by kernel_rfl) (by kernel_rfl) (by kernel_rfl) (fun _ _ _ h => h) (Or.inl ⟨by rfl, ?_⟩) hH ?_
  rotate_left
  · intro w hSw; (try dsimp only at hSw); go_simp; try with_reducible rfl
  try simp only [Act.put, List.setIfInBounds_toArray, List.set_cons_zero, List.set_cons_succ]
  refine wpAnyH_ready (rs := [1]) (by kernel_rfl) (by simp) ?_
  refine AllReadyH.cons (o := ({ dst := some 15, op := Go.Op.call { callee := Go.Callee.value (Go.Operand.func 17), args := #[Go.Operand.tmp 14], argTypes := #[25] }, type := 4, pos := "proof.go:27", after := #[{ on := 0, ground := Go.Ground.data }], guard := none } : Oper)) rfl (fun K hK => ?_) AllReadyH.nil
  go_simp
  go_at_call 17
  refine (HV.out _ (BX.tr hH.1)).mono ?_
  rintro e9 w9 ⟨rfl, hb⟩
  refine hK.out _ _ ⟨hH.1.tr hb, kcb hb hH.2.1, kcb hb hH.2.2⟩ (fun hH' => ?_)
  clear hH
  have hH := hH'
  clear hH' hK K
  try simp only [Act.put, List.setIfInBounds_toArray, List.set_cons_zero, List.set_cons_succ]
  refine wpAnyH_take (i := 2) (oi := ({ dst := some 16, op := Go.Op.unOp Go.UnOp.not 4 (Go.Operand.tmp 15), type := 4, pos := "proof.go:27", after := #[{ on := 1, ground := Go.Ground.data }], guard := none } : Oper)) (v := ?_) rfl (by kernel_rfl) (by kernel_rfl) (by kernel_rfl) (fun _ _ _ h => h) (Or.inl ⟨by rfl, ?_⟩) hH ?_
  rotate_left
  · intro w hSw; (try dsimp only at hSw); go_simp; try with_reducible rfl
  try simp only [Act.put, List.setIfInBounds_toArray, List.set_cons_zero, List.set_cons_succ]
  refine wpAnyH_take (i := 3) (oi := ({ dst := some 17, op := Go.Op.move (Go.Operand.tmp 16), type := 4, pos := "proof.go:27", after := #[{ on := 2, ground := Go.Ground.data }, { on := 1, ground := Go.Ground.chain }], guard := none } : Oper)) (v := ?_) rfl (by kernel_rfl) (by kernel_rfl) (by kernel_rfl) (fun _ _ _ h => h) (Or.inl ⟨by rfl, ?_⟩) hH ?_
  rotate_left
  · intro w hSw; (try dsimp only at hSw); go_simp; try with_reducible rfl
  try simp only [Act.put, List.setIfInBounds_toArray, List.set_cons_zero, List.set_cons_succ]
  refine wpAnyH_take (i := 4) (oi := ({ dst := some 18, op := Go.Op.move (Go.Operand.tmp 1), type := 22, pos := "proof.go:27", after := #[{ on := 3, ground := Go.Ground.guard }], guard := some (3, false) } : Oper)) (v := ?_) rfl (by kernel_rfl) (by kernel_rfl) (by kernel_rfl) (fun _ _ _ h => h) (Or.inl ⟨by rfl, ?_⟩) hH ?_
  rotate_left
  · intro w hSw; (try dsimp only at hSw); go_simp; try with_reducible rfl
  try simp only [Act.put, List.setIfInBounds_toArray, List.set_cons_zero, List.set_cons_succ]
  refine wpAnyH_take (i := 5) (oi := ({ dst := some 19, op := Go.Op.call { callee := Go.Callee.builtin Go.Builtin.len, args := #[Go.Operand.tmp 18], argTypes := #[22] }, type := 3, pos := "proof.go:27", after := #[{ on := 4, ground := Go.Ground.data }, { on := 3, ground := Go.Ground.guard }], guard := some (3, false) } : Oper)) (v := ?_) rfl (by kernel_rfl) (by kernel_rfl) (by kernel_rfl) (fun _ _ _ h => h) (Or.inl ⟨by rfl, ?_⟩) hH ?_
  rotate_left
  · intro w hSw; (try dsimp only at hSw); go_simp; try with_reducible rfl
  try simp only [Act.put, List.setIfInBounds_toArray, List.set_cons_zero, List.set_cons_succ]
  refine wpAnyH_take (i := 6) (oi := ({ dst := some 20, op := Go.Op.binOp Go.BinOp.eql 3 (Go.Operand.tmp 19) (Go.Operand.const (Go.Value.int Go.IntKind.i64 0)) 3, type := 4, pos := "proof.go:27", after := #[{ on := 5, ground := Go.Ground.data }, { on := 3, ground := Go.Ground.guard }], guard := some (3, false) } : Oper)) (v := ?_) rfl (by kernel_rfl) (by kernel_rfl) (by kernel_rfl) (fun _ _ _ h => h) (Or.inl ⟨by rfl, ?_⟩) hH ?_
  rotate_left
  · intro w hSw; (try dsimp only at hSw); go_simp; try with_reducible rfl
  try simp only [Act.put, List.setIfInBounds_toArray, List.set_cons_zero, List.set_cons_succ]
  refine wpAnyH_take (i := 7) (oi := ({ dst := some 21, op := Go.Op.pick (Go.Operand.tmp 17) (Go.Operand.const (Go.Value.bool true)) (Go.Operand.tmp 20), type := 4, pos := "proof.go:27", after := #[{ on := 3, ground := Go.Ground.data }, { on := 6, ground := Go.Ground.data }], guard := none } : Oper)) (v := ?_) rfl (by kernel_rfl) (by kernel_rfl) (by kernel_rfl) (fun _ _ _ h => h) (Or.inl ⟨by rfl, ?_⟩) hH ?_
  rotate_left
  · intro w hSw; (try dsimp only at hSw); go_simp; try with_reducible rfl
  try simp only [Act.put, List.setIfInBounds_toArray, List.set_cons_zero, List.set_cons_succ]
  refine wpAnyH_take (i := 8) (oi := ({ dst := some 22, op := Go.Op.move (Go.Operand.tmp 21), type := 4, pos := "proof.go:27", after := #[{ on := 7, ground := Go.Ground.data }, { on := 3, ground := Go.Ground.chain }], guard := none } : Oper)) (v := ?_) rfl (by kernel_rfl) (by kernel_rfl) (by kernel_rfl) (fun _ _ _ h => h) (Or.inl ⟨by rfl, ?_⟩) hH ?_
  rotate_left
  · intro w hSw; (try dsimp only at hSw); go_simp; try with_reducible rfl
  try simp only [Act.put, List.setIfInBounds_toArray, List.set_cons_zero, List.set_cons_succ]
  refine wpAnyH_take (i := 9) (oi := ({ dst := some 23, op := Go.Op.load 25 (Go.Operand.tmp 2), type := 25, pos := "proof.go:27", after := #[{ on := 8, ground := Go.Ground.guard }], guard := some (8, false) } : Oper)) (v := undef) rfl (by kernel_rfl) (by kernel_rfl) (by kernel_rfl) (fun _ _ _ h => h) (Or.inr ⟨by rfl, rfl⟩) hH ?_
  try simp only [Act.put, List.setIfInBounds_toArray, List.set_cons_zero, List.set_cons_succ]
  refine wpAnyH_take (i := 10) (oi := ({ dst := some 24, op := Go.Op.move (Go.Operand.tmp 1), type := 22, pos := "proof.go:27", after := #[{ on := 8, ground := Go.Ground.guard }], guard := some (8, false) } : Oper)) (v := undef) rfl (by kernel_rfl) (by kernel_rfl) (by kernel_rfl) (fun _ _ _ h => h) (Or.inr ⟨by rfl, rfl⟩) hH ?_
  try simp only [Act.put, List.setIfInBounds_toArray, List.set_cons_zero, List.set_cons_succ]
  refine wpAnyH_take (i := 11) (oi := ({ dst := some 25, op := Go.Op.move (Go.Operand.tmp 1), type := 22, pos := "proof.go:27", after := #[{ on := 8, ground := Go.Ground.guard }], guard := some (8, false) } : Oper)) (v := undef) rfl (by kernel_rfl) (by kernel_rfl) (by kernel_rfl) (fun _ _ _ h => h) (Or.inr ⟨by rfl, rfl⟩) hH ?_
  try simp only [Act.put, List.setIfInBounds_toArray, List.set_cons_zero, List.set_cons_succ]
  refine wpAnyH_take (i := 12) (oi := ({ dst := some 26, op := Go.Op.call { callee := Go.Callee.builtin Go.Builtin.len, args := #[Go.Operand.tmp 25], argTypes := #[22] }, type := 3, pos := "proof.go:27", after := #[{ on := 11, ground := Go.Ground.data }, { on := 8, ground := Go.Ground.guard }], guard := some (8, false) } : Oper)) (v := undef) rfl (by kernel_rfl) (by kernel_rfl) (by kernel_rfl) (fun _ _ _ h => h) (Or.inr ⟨by rfl, rfl⟩) hH ?_
  try simp only [Act.put, List.setIfInBounds_toArray, List.set_cons_zero, List.set_cons_succ]
  refine wpAnyH_take (i := 13) (oi := ({ dst := some 27, op := Go.Op.binOp Go.BinOp.sub 3 (Go.Operand.tmp 26) (Go.Operand.const (Go.Value.int Go.IntKind.i64 1)) 3, type := 3, pos := "proof.go:27", after := #[{ on := 12, ground := Go.Ground.data }, { on := 8, ground := Go.Ground.guard }], guard := some (8, false) } : Oper)) (v := undef) rfl (by kernel_rfl) (by kernel_rfl) (by kernel_rfl) (fun _ _ _ h => h) (Or.inr ⟨by rfl, rfl⟩) hH ?_
  try simp only [Act.put, List.setIfInBounds_toArray, List.set_cons_zero, List.set_cons_succ]
  refine wpAnyH_take (i := 14) (oi := ({ dst := some 28, op := Go.Op.indexAddr 22 (Go.Operand.tmp 24) (Go.Operand.tmp 27), type := 0, pos := "proof.go:27", after := #[{ on := 10, ground := Go.Ground.data }, { on := 13, ground := Go.Ground.data }, { on := 8, ground := Go.Ground.guard }], guard := some (8, false) } : Oper)) (v := undef) rfl (by kernel_rfl) (by kernel_rfl) (by kernel_rfl) (fun _ _ _ h => h) (Or.inr ⟨by rfl, rfl⟩) hH ?_
  try simp only [Act.put, List.setIfInBounds_toArray, List.set_cons_zero, List.set_cons_succ]
  refine wpAnyH_take (i := 15) (oi := ({ dst := some 29, op := Go.Op.load 3 (Go.Operand.tmp 28), type := 3, pos := "proof.go:27", after := #[{ on := 14, ground := Go.Ground.data }, { on := 8, ground := Go.Ground.guard }], guard := some (8, false) } : Oper)) (v := undef) rfl (by kernel_rfl) (by kernel_rfl) (by kernel_rfl) (fun _ _ _ h => h) (Or.inr ⟨by rfl, rfl⟩) hH ?_
  try simp only [Act.put, List.setIfInBounds_toArray, List.set_cons_zero, List.set_cons_succ]
  refine wpAnyH_ready (rs := [16]) (by kernel_rfl) (by simp) ?_
  refine AllReadyH.cons (o := ({ dst := some 30, op := Go.Op.call { callee := Go.Callee.value (Go.Operand.func 66), args := #[Go.Operand.tmp 23, Go.Operand.tmp 29], argTypes := #[25, 3] }, type := 4, pos := "proof.go:27", after := #[{ on := 9, ground := Go.Ground.data }, { on := 15, ground := Go.Ground.data }, { on := 8, ground := Go.Ground.chain }, { on := 8, ground := Go.Ground.guard }], guard := some (8, false) } : Oper)) rfl (fun K hK => ?_) AllReadyH.nil
  refine iteInduction (motive := fun p => p) (fun h => absurd (show false = true from h) Bool.false_ne_true) (fun _ => ?_)
  refine hK.out _ _ hH (fun hH' => ?_)
  clear hH' hK K
  try simp only [Act.put, List.setIfInBounds_toArray, List.set_cons_zero, List.set_cons_succ]
  refine wpAnyH_take (i := 17) (oi := ({ dst := some 31, op := Go.Op.unOp Go.UnOp.not 4 (Go.Operand.tmp 30), type := 4, pos := "proof.go:27", after := #[{ on := 16, ground := Go.Ground.data }, { on := 8, ground := Go.Ground.guard }], guard := some (8, false) } : Oper)) (v := undef) rfl (by kernel_rfl) (by kernel_rfl) (by kernel_rfl) (fun _ _ _ h => h) (Or.inr ⟨by rfl, rfl⟩) hH ?_
  try simp only [Act.put, List.setIfInBounds_toArray, List.set_cons_zero, List.set_cons_succ]
  refine wpAnyH_take (i := 18) (oi := ({ dst := some 32, op := Go.Op.pick (Go.Operand.tmp 22) (Go.Operand.const (Go.Value.bool true)) (Go.Operand.tmp 31), type := 4, pos := "proof.go:27", after := #[{ on := 8, ground := Go.Ground.data }, { on := 17, ground := Go.Ground.data }], guard := none } : Oper)) (v := ?_) rfl (by kernel_rfl) (by kernel_rfl) (by kernel_rfl) (fun _ _ _ h => h) (Or.inl ⟨by rfl, ?_⟩) hH ?_
  rotate_left
  · intro w hSw; (try dsimp only at hSw); go_simp; try with_reducible rfl
  try simp only [Act.put, List.setIfInBounds_toArray, List.set_cons_zero, List.set_cons_succ]
  refine wpAnyH_done (by kernel_rfl) ?_ _
  refine NoPanic.normal ?_
  go_wp2_with fail
  go_ret
  exact ⟨rfl, BX.tr hH.1⟩
set_option maxRecDepth 100000 in
set_option maxHeartbeats 6400000 in
theorem proves_last (A : Option Addr) (n c : Nat) (R : Nat → Int) (B : Option Addr) (m d : Nat) (S : Nat → Sgt) (L : Option Addr) (l cl : Nat) (T : Nat → Int) (w : World) (hA : Sl w A n R) (hB : Sgl w B m S) (hL : Sl w L l T) (hn : n ≤ maxLen) (hm : m ≤ maxLen) (hv : vnB R n S m = true) (h0 : 1 ≤ l) (hl2 : l ≤ maxLen) (hr : rngS (T (l - 1))) (hk : mkB m (T (l - 1)) = false) :
    Calls Try.prog 22 #[encN A n c B m d, .slice L l cl] w fun e w' => e = .returned (.bool (vnB R n S m && prvV R S m T l)) ∧ Bl w w' := by
  have HV := Lib.hid (fun (W : World) (hW : Bl w W) => validN_any A n c R B m d S W (hA.below hW) (hB.below hW) hn hm)
  clear hn hm
  have HF := Lib.hid (show prvV R S m T l = false by rw [prvV, hk, Bool.and_false, Bool.false_and])
  rw [hv] at HV
  rw [hv, Bool.true_and, HF.out]
  clear hv hA hB
  obtain ⟨g, off, rfl, hg, hc⟩ := hL (by omega)
  have hl := hc (l - 1) (by omega)
  obtain ⟨j, hj⟩ : ∃ j, j = l - 1 := ⟨_, rfl⟩
  rw [← hj] at hl
  have i1 : IntKind.i64.wrap ((l : Int) - 1) = (l : Int) - 1 := IntWalk.i64_in _ (by unfold maxLen at hl2; omega)
  have i1' : wrap64 ((l : Int) - 1) = (l : Int) - 1 := IntWalk.wrap64_in _ (by unfold maxLen at hl2; omega)
  have i2 : (0 : Int) ≤ (l : Int) - 1 := by omega
  have i3 : (l : Int) - 1 < (l : Int) := by omega
  have i4 : ((l : Int) - 1).toNat = j := by omega
  have i5 : (1 : Int) ≤ (l : Int) := by omega
  have i6 : 0 < l := by omega
  have i7 : ((l : Int) == 0) = false := by simp; omega
  have i8 : j < l := by omega
  have i9 : ¬ (l : Int) = 0 := by omega
  have i10 : ¬ l = 0 := by omega
  rw [← hj] at hr hk
  obtain ⟨v, hv⟩ : ∃ v, v = T j := ⟨_, rfl⟩
  rw [← hv] at hl hr hk
  clear hc hj hv
  have HM := Lib.hid hk
  have HR := Lib.hid hr
  have BL := ltb hl
  clear hk hr
  go_enter Try.func22, Try.ntmps22
  go_wp2_with fail
  obtain ⟨BX, x0, x1⟩ := box_kS w A n c B m d
  obtain ⟨X, hX⟩ : ∃ X, X = w.alloc (Obj.cells #[.slice A n c, .slice B m d] 25) := ⟨_, rfl⟩
  rw [← hX] at BX x0 x1
  rw [← hX]
  clear hX
  have lX := ltb x0
  have hl := kcb BX hl
  refine wp_region_noPanic ?_
  refine wp_region_held_drew (S := fun w' => Bl X w' ∧ w'.cell? ⟨w.heap.size, 0, none⟩ = some (.slice A n c) ∧ w'.cell? ⟨w.heap.size, 1, none⟩ = some (.slice B m d) ∧ w'.cell? ⟨g, off + j, none⟩ = some (.int .i64 (v))) (by kernel_rfl) (⟨bl_drS _, kcb (bl_drS _) x0, kcb (bl_drS _) x1, kcb (bl_drS _) hl⟩) (fun hH => ?_)
  refine wpAnyH_take (i := 0) (oi := ({ dst := some 14, op := Go.Op.load 25 (Go.Operand.tmp 2), type := 25, pos := "proof.go:27", after := #[], guard := none } : Oper)) (v := ?_) rfl (by kernel_rfl) (by kernel_rfl) (by kernel_rfl) (fun _ _ _ h => h) (Or.inl ⟨by rfl, ?_⟩) hH ?_
  rotate_left
  · intro w hSw; (try dsimp only at hSw); go_simp; try with_reducible rfl
  try simp only [Act.put, List.setIfInBounds_toArray, List.set_cons_zero, List.set_cons_succ]
  refine wpAnyH_ready (rs := [1]) (by kernel_rfl) (by simp) ?_
  refine AllReadyH.cons (o := ({ dst := some 15, op := Go.Op.call { callee := Go.Callee.value (Go.Operand.func 17), args := #[Go.Operand.tmp 14], argTypes := #[25] }, type := 4, pos := "proof.go:27", after := #[{ on := 0, ground := Go.Ground.data }], guard := none } : Oper)) rfl (fun K hK => ?_) AllReadyH.nil
  go_simp
  go_at_call 17
  refine (HV.out _ (BX.tr hH.1)).mono ?_
  rintro e9 w9 ⟨rfl, hb⟩
  refine hK.out _ _ ⟨hH.1.tr hb, kcb hb hH.2.1, kcb hb hH.2.2.1, kcb hb hH.2.2.2⟩ (fun hH' => ?_)
  clear hH
  have hH := hH'
  clear hH' hK K
  try simp only [Act.put, List.setIfInBounds_toArray, List.set_cons_zero, List.set_cons_succ]
  refine wpAnyH_take (i := 2) (oi := ({ dst := some 16, op := Go.Op.unOp Go.UnOp.not 4 (Go.Operand.tmp 15), type := 4, pos := "proof.go:27", after := #[{ on := 1, ground := Go.Ground.data }], guard := none } : Oper)) (v := ?_) rfl (by kernel_rfl) (by kernel_rfl) (by kernel_rfl) (fun _ _ _ h => h) (Or.inl ⟨by rfl, ?_⟩) hH ?_
  rotate_left
  · intro w hSw; (try dsimp only at hSw); go_simp; try with_reducible rfl
  try simp only [Act.put, List.setIfInBounds_toArray, List.set_cons_zero, List.set_cons_succ]
  refine wpAnyH_take (i := 3) (oi := ({ dst := some 17, op := Go.Op.move (Go.Operand.tmp 16), type := 4, pos := "proof.go:27", after := #[{ on := 2, ground := Go.Ground.data }, { on := 1, ground := Go.Ground.chain }], guard := none } : Oper)) (v := ?_) rfl (by kernel_rfl) (by kernel_rfl) (by kernel_rfl) (fun _ _ _ h => h) (Or.inl ⟨by rfl, ?_⟩) hH ?_
  rotate_left
  · intro w hSw; (try dsimp only at hSw); go_simp; try with_reducible rfl
  try simp only [Act.put, List.setIfInBounds_toArray, List.set_cons_zero, List.set_cons_succ]
  refine wpAnyH_take (i := 4) (oi := ({ dst := some 18, op := Go.Op.move (Go.Operand.tmp 1), type := 22, pos := "proof.go:27", after := #[{ on := 3, ground := Go.Ground.guard }], guard := some (3, false) } : Oper)) (v := ?_) rfl (by kernel_rfl) (by kernel_rfl) (by kernel_rfl) (fun _ _ _ h => h) (Or.inl ⟨by rfl, ?_⟩) hH ?_
  rotate_left
  · intro w hSw; (try dsimp only at hSw); go_simp; try with_reducible rfl
  try simp only [Act.put, List.setIfInBounds_toArray, List.set_cons_zero, List.set_cons_succ]
  refine wpAnyH_take (i := 5) (oi := ({ dst := some 19, op := Go.Op.call { callee := Go.Callee.builtin Go.Builtin.len, args := #[Go.Operand.tmp 18], argTypes := #[22] }, type := 3, pos := "proof.go:27", after := #[{ on := 4, ground := Go.Ground.data }, { on := 3, ground := Go.Ground.guard }], guard := some (3, false) } : Oper)) (v := ?_) rfl (by kernel_rfl) (by kernel_rfl) (by kernel_rfl) (fun _ _ _ h => h) (Or.inl ⟨by rfl, ?_⟩) hH ?_
  rotate_left
  · intro w hSw; (try dsimp only at hSw); go_simp; try with_reducible rfl
  try simp only [Act.put, List.setIfInBounds_toArray, List.set_cons_zero, List.set_cons_succ]
  refine wpAnyH_take (i := 6) (oi := ({ dst := some 20, op := Go.Op.binOp Go.BinOp.eql 3 (Go.Operand.tmp 19) (Go.Operand.const (Go.Value.int Go.IntKind.i64 0)) 3, type := 4, pos := "proof.go:27", after := #[{ on := 5, ground := Go.Ground.data }, { on := 3, ground := Go.Ground.guard }], guard := some (3, false) } : Oper)) (v := ?_) rfl (by kernel_rfl) (by kernel_rfl) (by kernel_rfl) (fun _ _ _ h => h) (Or.inl ⟨by rfl, ?_⟩) hH ?_
  rotate_left
  · intro w hSw; (try dsimp only at hSw); go_simp; try with_reducible rfl
  try simp only [Act.put, List.setIfInBounds_toArray, List.set_cons_zero, List.set_cons_succ]
  refine wpAnyH_take (i := 7) (oi := ({ dst := some 21, op := Go.Op.pick (Go.Operand.tmp 17) (Go.Operand.const (Go.Value.bool true)) (Go.Operand.tmp 20), type := 4, pos := "proof.go:27", after := #[{ on := 3, ground := Go.Ground.data }, { on := 6, ground := Go.Ground.data }], guard := none } : Oper)) (v := ?_) rfl (by kernel_rfl) (by kernel_rfl) (by kernel_rfl) (fun _ _ _ h => h) (Or.inl ⟨by rfl, ?_⟩) hH ?_
  rotate_left
  · intro w hSw; (try dsimp only at hSw); go_simp; try with_reducible rfl
  try simp only [Act.put, List.setIfInBounds_toArray, List.set_cons_zero, List.set_cons_succ]
  refine wpAnyH_take (i := 8) (oi := ({ dst := some 22, op := Go.Op.move (Go.Operand.tmp 21), type := 4, pos := "proof.go:27", after := #[{ on := 7, ground := Go.Ground.data }, { on := 3, ground := Go.Ground.chain }], guard := none } : Oper)) (v := ?_) rfl (by kernel_rfl) (by kernel_rfl) (by kernel_rfl) (fun _ _ _ h => h) (Or.inl ⟨by rfl, ?_⟩) hH ?_
  rotate_left
  · intro w hSw; (try dsimp only at hSw); go_simp; try with_reducible rfl
  try simp only [Act.put, List.setIfInBounds_toArray, List.set_cons_zero, List.set_cons_succ]
  refine wpAnyH_take (i := 9) (oi := ({ dst := some 23, op := Go.Op.load 25 (Go.Operand.tmp 2), type := 25, pos := "proof.go:27", after := #[{ on := 8, ground := Go.Ground.guard }], guard := some (8, false) } : Oper)) (v := ?_) rfl (by kernel_rfl) (by kernel_rfl) (by kernel_rfl) (fun _ _ _ h => h) (Or.inl ⟨by rfl, ?_⟩) hH ?_
  rotate_left
  · intro w hSw; (try dsimp only at hSw); go_simp; try with_reducible rfl
  try simp only [Act.put, List.setIfInBounds_toArray, List.set_cons_zero, List.set_cons_succ]
  refine wpAnyH_take (i := 10) (oi := ({ dst := some 24, op := Go.Op.move (Go.Operand.tmp 1), type := 22, pos := "proof.go:27", after := #[{ on := 8, ground := Go.Ground.guard }], guard := some (8, false) } : Oper)) (v := ?_) rfl (by kernel_rfl) (by kernel_rfl) (by kernel_rfl) (fun _ _ _ h => h) (Or.inl ⟨by rfl, ?_⟩) hH ?_
  rotate_left
  · intro w hSw; (try dsimp only at hSw); go_simp; try with_reducible rfl
  try simp only [Act.put, List.setIfInBounds_toArray, List.set_cons_zero, List.set_cons_succ]
  refine wpAnyH_take (i := 11) (oi := ({ dst := some 25, op := Go.Op.move (Go.Operand.tmp 1), type := 22, pos := "proof.go:27", after := #[{ on := 8, ground := Go.Ground.guard }], guard := some (8, false) } : Oper)) (v := ?_) rfl (by kernel_rfl) (by kernel_rfl) (by kernel_rfl) (fun _ _ _ h => h) (Or.inl ⟨by rfl, ?_⟩) hH ?_
  rotate_left
  · intro w hSw; (try dsimp only at hSw); go_simp; try with_reducible rfl
  try simp only [Act.put, List.setIfInBounds_toArray, List.set_cons_zero, List.set_cons_succ]
  refine wpAnyH_take (i := 12) (oi := ({ dst := some 26, op := Go.Op.call { callee := Go.Callee.builtin Go.Builtin.len, args := #[Go.Operand.tmp 25], argTypes := #[22] }, type := 3, pos := "proof.go:27", after := #[{ on := 11, ground := Go.Ground.data }, { on := 8, ground := Go.Ground.guard }], guard := some (8, false) } : Oper)) (v := ?_) rfl (by kernel_rfl) (by kernel_rfl) (by kernel_rfl) (fun _ _ _ h => h) (Or.inl ⟨by rfl, ?_⟩) hH ?_
  rotate_left
  · intro w hSw; (try dsimp only at hSw); go_simp; try with_reducible rfl
  try simp only [Act.put, List.setIfInBounds_toArray, List.set_cons_zero, List.set_cons_succ]
  refine wpAnyH_take (i := 13) (oi := ({ dst := some 27, op := Go.Op.binOp Go.BinOp.sub 3 (Go.Operand.tmp 26) (Go.Operand.const (Go.Value.int Go.IntKind.i64 1)) 3, type := 3, pos := "proof.go:27", after := #[{ on := 12, ground := Go.Ground.data }, { on := 8, ground := Go.Ground.guard }], guard := some (8, false) } : Oper)) (v := ?_) rfl (by kernel_rfl) (by kernel_rfl) (by kernel_rfl) (fun _ _ _ h => h) (Or.inl ⟨by rfl, ?_⟩) hH ?_
  rotate_left
  · intro w hSw; (try dsimp only at hSw); go_simp; try with_reducible rfl
  try simp only [Act.put, List.setIfInBounds_toArray, List.set_cons_zero, List.set_cons_succ]
  refine wpAnyH_take (i := 14) (oi := ({ dst := some 28, op := Go.Op.indexAddr 22 (Go.Operand.tmp 24) (Go.Operand.tmp 27), type := 0, pos := "proof.go:27", after := #[{ on := 10, ground := Go.Ground.data }, { on := 13, ground := Go.Ground.data }, { on := 8, ground := Go.Ground.guard }], guard := some (8, false) } : Oper)) (v := ?_) rfl (by kernel_rfl) (by kernel_rfl) (by kernel_rfl) (fun _ _ _ h => h) (Or.inl ⟨by rfl, ?_⟩) hH ?_
  rotate_left
  · intro w hSw; (try dsimp only at hSw); go_simp; try with_reducible rfl
  try simp only [Act.put, List.setIfInBounds_toArray, List.set_cons_zero, List.set_cons_succ]
  refine wpAnyH_take (i := 15) (oi := ({ dst := some 29, op := Go.Op.load 3 (Go.Operand.tmp 28), type := 3, pos := "proof.go:27", after := #[{ on := 14, ground := Go.Ground.data }, { on := 8, ground := Go.Ground.guard }], guard := some (8, false) } : Oper)) (v := ?_) rfl (by kernel_rfl) (by kernel_rfl) (by kernel_rfl) (fun _ _ _ h => h) (Or.inl ⟨by rfl, ?_⟩) hH ?_
  rotate_left
  · intro w hSw; (try dsimp only at hSw); go_simp; try with_reducible rfl
  try simp only [Act.put, List.setIfInBounds_toArray, List.set_cons_zero, List.set_cons_succ]
  refine wpAnyH_ready (rs := [16]) (by kernel_rfl) (by simp) ?_
  refine AllReadyH.cons (o := ({ dst := some 30, op := Go.Op.call { callee := Go.Callee.value (Go.Operand.func 66), args := #[Go.Operand.tmp 23, Go.Operand.tmp 29], argTypes := #[25, 3] }, type := 4, pos := "proof.go:27", after := #[{ on := 9, ground := Go.Ground.data }, { on := 15, ground := Go.Ground.data }, { on := 8, ground := Go.Ground.chain }, { on := 8, ground := Go.Ground.guard }], guard := some (8, false) } : Oper)) rfl (fun K hK => ?_) AllReadyH.nil
  go_simp
  go_at_call 66
  refine (isMark_any A n c B m d v _ HR.out).mono ?_
  rintro e9 w9 ⟨rfl, hb⟩
  rw [HM.out]
  refine hK.out _ _ ⟨hH.1.tr hb, kcb hb hH.2.1, kcb hb hH.2.2.1, kcb hb hH.2.2.2⟩ (fun hH' => ?_)
  clear hH
  have hH := hH'
  clear hH' hK K
  try simp only [Act.put, List.setIfInBounds_toArray, List.set_cons_zero, List.set_cons_succ]
  refine wpAnyH_take (i := 17) (oi := ({ dst := some 31, op := Go.Op.unOp Go.UnOp.not 4 (Go.Operand.tmp 30), type := 4, pos := "proof.go:27", after := #[{ on := 16, ground := Go.Ground.data }, { on := 8, ground := Go.Ground.guard }], guard := some (8, false) } : Oper)) (v := ?_) rfl (by kernel_rfl) (by kernel_rfl) (by kernel_rfl) (fun _ _ _ h => h) (Or.inl ⟨by rfl, ?_⟩) hH ?_
  rotate_left
  · intro w hSw; (try dsimp only at hSw); go_simp; try with_reducible rfl
  try simp only [Act.put, List.setIfInBounds_toArray, List.set_cons_zero, List.set_cons_succ]
  refine wpAnyH_take (i := 18) (oi := ({ dst := some 32, op := Go.Op.pick (Go.Operand.tmp 22) (Go.Operand.const (Go.Value.bool true)) (Go.Operand.tmp 31), type := 4, pos := "proof.go:27", after := #[{ on := 8, ground := Go.Ground.data }, { on := 17, ground := Go.Ground.data }], guard := none } : Oper)) (v := ?_) rfl (by kernel_rfl) (by kernel_rfl) (by kernel_rfl) (fun _ _ _ h => h) (Or.inl ⟨by rfl, ?_⟩) hH ?_
  rotate_left
  · intro w hSw; (try dsimp only at hSw); go_simp; try with_reducible rfl
  try simp only [Act.put, List.setIfInBounds_toArray, List.set_cons_zero, List.set_cons_succ]
  refine wpAnyH_done (by kernel_rfl) ?_ _
  refine NoPanic.normal ?_
  go_wp2_with fail
  go_ret
  exact ⟨rfl, BX.tr hH.1⟩
end Go.Proofs.Ytennmdlajealpaa
