/-
  Package sight: a net without a sight.
-/
import Derived.Test.YtennmdlajealpaaUG
import Derived.Deep.AppendSrc
import Derived.Deep.Upon
import Derived.Lib.SliceRun
namespace Go.Proofs.Ytennmdlajealpaa
open Go.RowKit Go.Maps
set_option linter.unusedSimpArgs false
set_option linter.unusedVariables false

/-- A net's sights without one. -/
def remS (S : Nat → Sgt) (i j : Nat) : Sgt := if j < i then S j else S (j + 1)
/-- A step of a region that is an append, when what it does is known. -/
theorem step_runU {P : Program} {ops : Array Oper} {o : Oper} {a : Act} {w w' : World} {K : Act → World → Prop} {Q : Exit → Act → World → Prop} {E : Prop} {v' : Value} (hgd : o.guard = none) (s x : Operand) (t : TypeId)
    (ho : o.op = .call { callee := .builtin .append, args := #[s, x], argTypes := #[t, t] }) (v y : Value) (hs : a.eval s = v) (hx : a.eval x = y)
    (hrun : (Builtin.append_ #[t, t] o.type #[v, y]).run P w = .ok v' w') (h : K (a.put o.dst v') w') :
    if Region.wanted o (yielded ops a.tmps) = true then Oper.wp P o a w K Q else E := by
  have hw : Region.wanted o (yielded ops a.tmps) = true := by simp [Region.wanted, hgd]
  rw [if_pos hw]
  unfold Oper.wp execOp
  simp only [ho, resolve, invoke, builtin, Sem.run_bind, Sem.run_pure, Result.andThen_ok, List.map_toArray, List.map_cons, List.map_nil, hs, hx, hrun]
  exact h
def zer5 : List Value := [.int .i64 0, .int .i64 0, .int .i64 0, .int .i64 0, .int .i64 0]
theorem run_clear5 (w : World) (ty : TypeId) (b o c : Nat) (hc : ∀ j, j < 5 → (w.cell? ⟨b, o + j, none⟩).isSome = true) (hf : ∀ j, j < 5 → w.frozen? ⟨b, o + j, none⟩ = false) :
    (Builtin.clear_ #[23] ty #[.slice (some ⟨b, o, none⟩) 1 c]).run Try.prog w = .ok (.tuple #[]) (w.setCells b o zer5) := by
  have hv : ∀ w, (zeroValue 52).run Try.prog w = .ok (.agg #[.int .i64 0, .int .i64 0, .int .i64 0, .int .i64 0, .int .i64 0]) w := fun w => by kernel_rfl
  have hzc : (Builtin.zeroCells (Value.agg #[.int .i64 0, .int .i64 0, .int .i64 0, .int .i64 0, .int .i64 0]).cells 1).toList = zer5 := by kernel_rfl
  have hst := run_storeCells_cells (P := Try.prog) b o zer5 0 w (by simpa [zer5] using hc) (by simpa [zer5] using hf) (by intro v hv'; simp [zer5] at hv'; rw [hv']; rfl)
  simp only [Nat.add_zero] at hst
  simp [Builtin.clear_, run_underlying Try.underlying23, hv, hzc, hst]
theorem grown_setCellsU (g : Nat) : ∀ (vs : List Value) (o : Nat) (w : World), w.grownBy (w.setCells g o vs) (some g)
  | [], _, _ => ⟨rfl, rfl, rfl, Nat.le_refl _, fun _ _ _ => rfl⟩
  | v :: r, o, w => (grown_setS w g o v).trans (grown_setCellsU g r (o + 1) _)
theorem size_setCellsU (b : Nat) : ∀ (vs : List Value) (o : Nat) (w : World), (w.setCells b o vs).heap.size = w.heap.size
  | [], _, _ => rfl
  | v :: r, o, w => by rw [World.setCells, size_setCellsU b r]; simp
theorem cellsG_some (x : Sgt) {t : Nat} (ht : t < 5) : ∃ v, (cellsG x)[t]? = some v := by
  have h5 : t = 0 ∨ t = 1 ∨ t = 2 ∨ t = 3 ∨ t = 4 := by omega
  rcases h5 with rfl | rfl | rfl | rfl | rfl <;> exact ⟨_, rfl⟩
theorem del_read {W0 : World} {g m i j l : Nat} {S : Nat → Sgt} (hj : j = i + 1) (hl : m = l + 1) (hi : j ≤ m) (hc : ∀ q t, q < m → t < 5 → W0.cell? ⟨g, q * 5 + t, none⟩ = (cellsG (S q))[t]?) (hlt : g < W0.heap.size) :
    Sgl ((W0.setCells g (0 + i * 5) (sgC (fun q => S (j + q)) (m - j))).setCells g (l * 5) zer5) (some ⟨g, 0, none⟩) l (remS S i) := fun h0 => by
  have key : ∀ q t, q < l → t < 5 → ((W0.setCells g (0 + i * 5) (sgC (fun q => S (j + q)) (m - j))).setCells g (l * 5) zer5).cell? ⟨g, 0 + q * 5 + t, none⟩ = (cellsG (remS S i q))[t]? := by
    intro q t hq ht
    rw [World.cell?_setCells_out _ _ _ _ _ (fun _ _ => Or.inl (by simp only; omega))]
    by_cases hqi : q < i
    · rw [World.cell?_setCells_out _ _ _ _ _ (fun _ _ => Or.inl (by simp only; omega)), show 0 + q * 5 + t = q * 5 + t by omega, hc q t (by omega) ht]
      simp [remS, hqi]
    · have hlen := sgC_len (fun q => S (j + q)) (m - j)
      have hin := World.cell?_setCells_in g (sgC (fun q => S (j + q)) (m - j)) (0 + i * 5) W0 (fun r hr => by
        rw [show 0 + i * 5 + r = (i + r / 5) * 5 + r % 5 by omega, hc _ _ (by omega) (by omega)]
        obtain ⟨v, hv⟩ := cellsG_some (S (i + r / 5)) (t := r % 5) (by omega)
        rw [hv]; rfl) ((q - i) * 5 + t) (by omega)
      rw [show 0 + i * 5 + ((q - i) * 5 + t) = 0 + q * 5 + t by omega] at hin
      rw [hin, ← List.getElem?_eq_getElem, sgC_at _ (by omega) ht]
      simp only [remS, if_neg hqi]
      rw [show j + (q - i) = q + 1 by omega]
  refine ⟨g, 0, rfl, by rw [size_setCellsU, size_setCellsU]; exact hlt, fun q hq => ?_⟩
  exact ⟨key q 0 hq (by omega), key q 1 hq (by omega), key q 2 hq (by omega), key q 3 hq (by omega), key q 4 hq (by omega)⟩
set_option maxRecDepth 100000 in
set_option maxHeartbeats 6400000 in
theorem delete_any (g cap m i j l base : Nat) (S : Nat → Sgt) (w : World) (h : w.ownsRow base 52 5 (.slice (some ⟨g, 0, none⟩) m cap) m (sgC S m)) (hj : j = i + 1) (hl : m = l + 1) (hi : j ≤ m) (hm : m ≤ 1000) :
    Calls Try.prog 91 #[.slice (some ⟨g, 0, none⟩) m cap, .int .i64 (i : Int), .int .i64 (j : Int)] w fun e w' => e = .returned (.slice (some ⟨g, 0, none⟩) l cap) ∧ Sgl w' (some ⟨g, 0, none⟩) l (remS S i) ∧ w.grownBy w' (some g) := by
  obtain ⟨i0, hi0, hz0, hz1, hz2⟩ := info_partsU sgt_info
  have hcap : m ≤ cap ∧ cap ≤ maxLen ∧ g < w.heap.size := by
    rcases h.2 with ⟨e, _⟩ | ⟨g1, cap1, cur, e, hb, hg, h1, h2, _⟩
    · cases e
    · cases e
      exact ⟨h1, h2, (Array.getElem?_eq_some_iff.1 hg).1⟩
  obtain ⟨p1, p2, p3⟩ := hcap
  unfold maxLen at p2
  have q1 : ((i : Int) == (j : Int)) = false := by simp; omega
  have HJ := Lib.hid (And.intro hj hl)
  have q2 : i ≤ j := by omega
  have q4 : ¬ m = i := by omega
  have q5 : ¬ cap = l := by omega
  have q6 : i ≤ cap := by omega
  have q7 : j ≤ cap := by omega
  have q8 : l ≤ cap := by omega
  have hcell : ∀ q t, q < m → t < 5 → w.drew.cell? ⟨g, q * 5 + t, none⟩ = (cellsG (S q))[t]? := fun q t hq ht => by
    have e : w.drew.cell? ⟨g, q * 5 + t, none⟩ = w.cell? ⟨g, q * 5 + t, none⟩ := rfl
    rw [e, h.cellAt (q * 5 + t) (by omega), sgC_at S hq ht]
  have hfz : ∀ o, w.drew.frozen? ⟨g, o, none⟩ = false := fun o => h.frozenAt o
  have HD := Lib.hid (del_read (W0 := w.drew) hj hl hi hcell p3)
  obtain ⟨W1, hW1⟩ : ∃ W1, W1 = w.drew.setCells g (0 + i * 5) (sgC (fun q => S (j + q)) (m - j)) := ⟨_, rfl⟩
  have hsz : W1.heap.size = w.heap.size := by rw [hW1]; exact size_setCellsU _ _ _ _
  have hcl : ∀ ty, (Builtin.clear_ #[23] ty #[.slice (some ⟨g, l * 5, none⟩) (m - l) (cap - l)]).run Try.prog W1 = .ok (.tuple #[]) (W1.setCells g (l * 5) zer5) := fun ty => by
    rw [show m - l = 1 by omega]
    refine run_clear5 W1 ty g (l * 5) _ (fun t ht => ?_) (fun t ht => ?_)
    · rw [hW1]
      refine World.isSome_setCells g _ _ _ _ ?_
      rw [hcell l t (by omega) ht]
      obtain ⟨v, hv⟩ := cellsG_some (S l) ht
      rw [hv]; rfl
    · rw [hW1, World.frozen?_setCells]; exact hfz _
  have HG := Lib.hid (show w.grownBy (W1.setCells g (l * 5) zer5) (some g) from by
    have g0 : w.grownBy w.drew (some g) := ⟨rfl, rfl, rfl, Nat.le_refl _, fun _ _ _ => rfl⟩
    rw [hW1]
    exact (g0.trans (grown_setCellsU g _ _ _)).trans (grown_setCellsU g _ _ _))
  have HDD := Lib.hid (show Sgl (W1.setCells g (l * 5) zer5) (some ⟨g, 0, none⟩) l (remS S i) by rw [hW1]; exact HD.out)
  have hap : ∀ (x : Value), x = .slice (some ⟨g, j * 5, none⟩) (m - j) (cap - j) ∨ (j = m ∧ ∃ a' c', x = .slice (some a') 0 c') → ∀ ty, (Builtin.append_ #[23, 23] ty #[.slice (some ⟨g, 0, none⟩) i cap, x]).run Try.prog w.drew = .ok (.slice (some ⟨g, 0, none⟩) l cap) W1 := by
    intro x hx ty
    rcases hx with rfl | ⟨hjm, a', c', rfl⟩
    · have hs : Src Try.prog i0.size 23 (.slice (some ⟨g, j * 5, none⟩) (m - j) (cap - j)) (m - j) (sgC (fun q => S (j + q)) (m - j)) w.drew := by
        rw [hz1]
        refine Src.ofSlice w.drew Try.underlying23 _ _ _ _ (sgC_len _ _) (fun r u hu => ?_) (sgC_one _ _)
        have hr : r < (m - j) * 5 := by have := (List.getElem?_eq_some_iff.1 hu).1; rwa [sgC_len] at this
        have e5 := sgC_at (fun q => S (j + q)) (n := m - j) (j := r / 5) (i := r % 5) (by omega) (by omega)
        rw [show r / 5 * 5 + r % 5 = r by omega, hu] at e5
        rw [show (⟨g, j * 5, none⟩ : Addr).add r = ⟨g, (j + r / 5) * 5 + r % 5, none⟩ by unfold Addr.add; split <;> simp_all <;> omega, hcell _ _ (by omega) (by omega)]
        exact e5.symm
      have h1 := run_append_room_src (P := Try.prog) w.drew 23 23 ty 52 i0 Try.underlying23 hi0 g 0 i cap _ (m - j) _ hs (by omega) (fun r hr => ?_) (fun r _ => hfz _)
      · rw [hz1, ← hW1, show i + (m - j) = l by omega] at h1
        exact h1
      · rw [hz1]
        rw [sgC_len] at hr
        rw [show 0 + i * 5 + r = (i + r / 5) * 5 + r % 5 by omega, hcell _ _ (by omega) (by omega)]
        obtain ⟨v, hv⟩ := cellsG_some (S (i + r / 5)) (t := r % 5) (by omega)
        rw [hv]; rfl
    · have hs : Src Try.prog i0.size 23 (.slice (some a') 0 c') 0 [] w.drew := Src.ofSlice w.drew Try.underlying23 _ _ _ _ (by simp) (fun r u hu => by simp at hu) (fun u hu => by cases hu)
      have h1 := run_append_nothing (P := Try.prog) w.drew 23 23 ty 52 i0 Try.underlying23 hi0 (some ⟨g, 0, none⟩) i cap (by omega) _ hs
      have e : W1 = w.drew := by rw [hW1, show m - j = 0 by omega]; rfl
      rw [e, show l = i by omega]
      exact h1
  have HAP := Lib.hid hap
  clear hap hcell hfz hi0 hz0 hz1 hz2 hW1
  have q3 : l ≤ m := by omega
  have H := Lib.hid h
  clear hj hl h
  by_cases hcj : cap = j
  · have hjm : j = m := by omega
    subst cap
    subst m
    go_enter Try.func91, Try.ntmps91
    go_wp2_with fail
    refine wp_region_noPanic ?_
    refine wp_region_held_drew (S := fun _ => True) (by kernel_rfl) (trivial) (fun hH => ?_)
    refine wpAnyH_take (i := 0) (oi := ({ dst := some 20, op := Go.Op.move (Go.Operand.tmp 0), type := 23, pos := "slices.go:232", after := #[], guard := none } : Oper)) (v := ?_) rfl (by kernel_rfl) (by kernel_rfl) (by kernel_rfl) (fun _ _ _ h => h) (Or.inl ⟨by rfl, ?_⟩) hH ?_
    rotate_left
    · intro w hSw; (try dsimp only at hSw); go_simp; try with_reducible rfl
    try simp only [Act.put, List.setIfInBounds_toArray, List.set_cons_zero, List.set_cons_succ]
    refine wpAnyH_take (i := 1) (oi := ({ dst := some 21, op := Go.Op.move (Go.Operand.tmp 1), type := 3, pos := "slices.go:232", after := #[], guard := none } : Oper)) (v := ?_) rfl (by kernel_rfl) (by kernel_rfl) (by kernel_rfl) (fun _ _ _ h => h) (Or.inl ⟨by rfl, ?_⟩) hH ?_
    rotate_left
    · intro w hSw; (try dsimp only at hSw); go_simp; try with_reducible rfl
    try simp only [Act.put, List.setIfInBounds_toArray, List.set_cons_zero, List.set_cons_succ]
    refine wpAnyH_take (i := 2) (oi := ({ dst := some 22, op := Go.Op.slice 23 (Go.Operand.tmp 20) none (some (Go.Operand.tmp 21)) none, type := 23, pos := "slices.go:232", after := #[{ on := 0, ground := Go.Ground.data }, { on := 1, ground := Go.Ground.data }], guard := none } : Oper)) (v := ?_) rfl (by kernel_rfl) (by kernel_rfl) (by kernel_rfl) (fun _ _ _ h => h) (Or.inl ⟨by rfl, ?_⟩) hH ?_
    rotate_left
    · intro w hSw; (try dsimp only at hSw); go_simp; try with_reducible rfl
    try simp only [Act.put, List.setIfInBounds_toArray, List.set_cons_zero, List.set_cons_succ]
    refine wpAnyH_take (i := 3) (oi := ({ dst := some 23, op := Go.Op.move (Go.Operand.tmp 0), type := 23, pos := "slices.go:232", after := #[], guard := none } : Oper)) (v := ?_) rfl (by kernel_rfl) (by kernel_rfl) (by kernel_rfl) (fun _ _ _ h => h) (Or.inl ⟨by rfl, ?_⟩) hH ?_
    rotate_left
    · intro w hSw; (try dsimp only at hSw); go_simp; try with_reducible rfl
    try simp only [Act.put, List.setIfInBounds_toArray, List.set_cons_zero, List.set_cons_succ]
    refine wpAnyH_take (i := 4) (oi := ({ dst := some 24, op := Go.Op.move (Go.Operand.tmp 2), type := 3, pos := "slices.go:232", after := #[], guard := none } : Oper)) (v := ?_) rfl (by kernel_rfl) (by kernel_rfl) (by kernel_rfl) (fun _ _ _ h => h) (Or.inl ⟨by rfl, ?_⟩) hH ?_
    rotate_left
    · intro w hSw; (try dsimp only at hSw); go_simp; try with_reducible rfl
    try simp only [Act.put, List.setIfInBounds_toArray, List.set_cons_zero, List.set_cons_succ]
    refine wpAnyH_take (i := 5) (oi := ({ dst := some 25, op := Go.Op.slice 23 (Go.Operand.tmp 23) (some (Go.Operand.tmp 24)) none none, type := 23, pos := "slices.go:232", after := #[{ on := 3, ground := Go.Ground.data }, { on := 4, ground := Go.Ground.data }], guard := none } : Oper)) (v := ?_) rfl (by kernel_rfl) (by kernel_rfl) (by kernel_rfl) (fun _ _ _ h => h) (Or.inl ⟨by rfl, ?_⟩) hH ?_
    rotate_left
    · intro w hSw; (try dsimp only at hSw); go_simp; try with_reducible rfl
    try simp only [Act.put, List.setIfInBounds_toArray, List.set_cons_zero, List.set_cons_succ]
    refine wpAnyH_ready (rs := [6]) (by kernel_rfl) (by simp) ?_
    refine AllReadyH.cons (o := ({ dst := some 26, op := Go.Op.call { callee := Go.Callee.builtin Go.Builtin.append, args := #[Go.Operand.tmp 22, Go.Operand.tmp 25], argTypes := #[23, 23] }, type := 23, pos := "slices.go:232", after := #[{ on := 2, ground := Go.Ground.data }, { on := 5, ground := Go.Ground.data }], guard := none } : Oper)) rfl (fun K hK => ?_) AllReadyH.nil
    refine step_runU rfl _ _ _ rfl _ _ rfl rfl (HAP.out _ (.inr ⟨by trivial, _, _, rfl⟩) _) ?_
    refine hK.out _ _ trivial (fun hH' => ?_)
    clear hH
    have hH := hH'
    clear hH' hK K
    try simp only [Act.put, List.setIfInBounds_toArray, List.set_cons_zero, List.set_cons_succ]
    refine wpAnyH_take (i := 7) (oi := ({ dst := some 0, op := Go.Op.assign (Go.Operand.tmp 26), type := 23, pos := "slices.go:232", after := #[{ on := 6, ground := Go.Ground.data }, { on := 6, ground := Go.Ground.chain }, { on := 0, ground := Go.Ground.phase }, { on := 1, ground := Go.Ground.phase }, { on := 2, ground := Go.Ground.phase }, { on := 3, ground := Go.Ground.phase }, { on := 4, ground := Go.Ground.phase }, { on := 5, ground := Go.Ground.phase }, { on := 6, ground := Go.Ground.phase }], guard := none } : Oper)) (v := ?_) rfl (by kernel_rfl) (by kernel_rfl) (by kernel_rfl) (fun _ _ _ h => h) (Or.inl ⟨by rfl, ?_⟩) hH ?_
    rotate_left
    · intro w hSw; (try dsimp only at hSw); go_simp; try with_reducible rfl
    try simp only [Act.put, List.setIfInBounds_toArray, List.set_cons_zero, List.set_cons_succ]
    refine wpAnyH_done (by kernel_rfl) ?_ _
    refine NoPanic.normal ?_
    go_wp2_with fail
    go_ret
    exact ⟨rfl, HDD.out, HG.out⟩
  · skip
    go_enter Try.func91, Try.ntmps91
    go_wp2_with fail
    refine wp_region_noPanic ?_
    refine wp_region_held_drew (S := fun _ => True) (by kernel_rfl) (trivial) (fun hH => ?_)
    refine wpAnyH_take (i := 0) (oi := ({ dst := some 20, op := Go.Op.move (Go.Operand.tmp 0), type := 23, pos := "slices.go:232", after := #[], guard := none } : Oper)) (v := ?_) rfl (by kernel_rfl) (by kernel_rfl) (by kernel_rfl) (fun _ _ _ h => h) (Or.inl ⟨by rfl, ?_⟩) hH ?_
    rotate_left
    · intro w hSw; (try dsimp only at hSw); go_simp; try with_reducible rfl
    try simp only [Act.put, List.setIfInBounds_toArray, List.set_cons_zero, List.set_cons_succ]
    refine wpAnyH_take (i := 1) (oi := ({ dst := some 21, op := Go.Op.move (Go.Operand.tmp 1), type := 3, pos := "slices.go:232", after := #[], guard := none } : Oper)) (v := ?_) rfl (by kernel_rfl) (by kernel_rfl) (by kernel_rfl) (fun _ _ _ h => h) (Or.inl ⟨by rfl, ?_⟩) hH ?_
    rotate_left
    · intro w hSw; (try dsimp only at hSw); go_simp; try with_reducible rfl
    try simp only [Act.put, List.setIfInBounds_toArray, List.set_cons_zero, List.set_cons_succ]
    refine wpAnyH_take (i := 2) (oi := ({ dst := some 22, op := Go.Op.slice 23 (Go.Operand.tmp 20) none (some (Go.Operand.tmp 21)) none, type := 23, pos := "slices.go:232", after := #[{ on := 0, ground := Go.Ground.data }, { on := 1, ground := Go.Ground.data }], guard := none } : Oper)) (v := ?_) rfl (by kernel_rfl) (by kernel_rfl) (by kernel_rfl) (fun _ _ _ h => h) (Or.inl ⟨by rfl, ?_⟩) hH ?_
    rotate_left
    · intro w hSw; (try dsimp only at hSw); go_simp; try with_reducible rfl
    try simp only [Act.put, List.setIfInBounds_toArray, List.set_cons_zero, List.set_cons_succ]
    refine wpAnyH_take (i := 3) (oi := ({ dst := some 23, op := Go.Op.move (Go.Operand.tmp 0), type := 23, pos := "slices.go:232", after := #[], guard := none } : Oper)) (v := ?_) rfl (by kernel_rfl) (by kernel_rfl) (by kernel_rfl) (fun _ _ _ h => h) (Or.inl ⟨by rfl, ?_⟩) hH ?_
    rotate_left
    · intro w hSw; (try dsimp only at hSw); go_simp; try with_reducible rfl
    try simp only [Act.put, List.setIfInBounds_toArray, List.set_cons_zero, List.set_cons_succ]
    refine wpAnyH_take (i := 4) (oi := ({ dst := some 24, op := Go.Op.move (Go.Operand.tmp 2), type := 3, pos := "slices.go:232", after := #[], guard := none } : Oper)) (v := ?_) rfl (by kernel_rfl) (by kernel_rfl) (by kernel_rfl) (fun _ _ _ h => h) (Or.inl ⟨by rfl, ?_⟩) hH ?_
    rotate_left
    · intro w hSw; (try dsimp only at hSw); go_simp; try with_reducible rfl
    try simp only [Act.put, List.setIfInBounds_toArray, List.set_cons_zero, List.set_cons_succ]
    refine wpAnyH_take (i := 5) (oi := ({ dst := some 25, op := Go.Op.slice 23 (Go.Operand.tmp 23) (some (Go.Operand.tmp 24)) none none, type := 23, pos := "slices.go:232", after := #[{ on := 3, ground := Go.Ground.data }, { on := 4, ground := Go.Ground.data }], guard := none } : Oper)) (v := ?_) rfl (by kernel_rfl) (by kernel_rfl) (by kernel_rfl) (fun _ _ _ h => h) (Or.inl ⟨by rfl, ?_⟩) hH ?_
    rotate_left
    · intro w hSw; (try dsimp only at hSw); go_simp; try with_reducible rfl
    try simp only [Act.put, List.setIfInBounds_toArray, List.set_cons_zero, List.set_cons_succ]
    refine wpAnyH_ready (rs := [6]) (by kernel_rfl) (by simp) ?_
    refine AllReadyH.cons (o := ({ dst := some 26, op := Go.Op.call { callee := Go.Callee.builtin Go.Builtin.append, args := #[Go.Operand.tmp 22, Go.Operand.tmp 25], argTypes := #[23, 23] }, type := 23, pos := "slices.go:232", after := #[{ on := 2, ground := Go.Ground.data }, { on := 5, ground := Go.Ground.data }], guard := none } : Oper)) rfl (fun K hK => ?_) AllReadyH.nil
    refine step_runU rfl _ _ _ rfl _ _ rfl rfl (HAP.out _ (.inl rfl) _) ?_
    refine hK.out _ _ trivial (fun hH' => ?_)
    clear hH
    have hH := hH'
    clear hH' hK K
    try simp only [Act.put, List.setIfInBounds_toArray, List.set_cons_zero, List.set_cons_succ]
    refine wpAnyH_take (i := 7) (oi := ({ dst := some 0, op := Go.Op.assign (Go.Operand.tmp 26), type := 23, pos := "slices.go:232", after := #[{ on := 6, ground := Go.Ground.data }, { on := 6, ground := Go.Ground.chain }, { on := 0, ground := Go.Ground.phase }, { on := 1, ground := Go.Ground.phase }, { on := 2, ground := Go.Ground.phase }, { on := 3, ground := Go.Ground.phase }, { on := 4, ground := Go.Ground.phase }, { on := 5, ground := Go.Ground.phase }, { on := 6, ground := Go.Ground.phase }], guard := none } : Oper)) (v := ?_) rfl (by kernel_rfl) (by kernel_rfl) (by kernel_rfl) (fun _ _ _ h => h) (Or.inl ⟨by rfl, ?_⟩) hH ?_
    rotate_left
    · intro w hSw; (try dsimp only at hSw); go_simp; try with_reducible rfl
    try simp only [Act.put, List.setIfInBounds_toArray, List.set_cons_zero, List.set_cons_succ]
    refine wpAnyH_done (by kernel_rfl) ?_ _
    refine NoPanic.normal ?_
    go_wp2_with fail
    go_ret
    exact ⟨rfl, HDD.out, HG.out⟩
end Go.Proofs.Ytennmdlajealpaa
