/-
  ends: the least and the greatest of what an iterator gives.
-/
import Derived.Test.YtbhdoafcjfcgfaaRD
import Derived.RegionIn
import Derived.Shelf.RegionOpen
namespace Go.Proofs.Ytbhdoafcjfcgfaa
open Go.RowKit Go.Shelf
set_option linter.unusedSimpArgs false
set_option linter.unusedVariables false
attribute [local go_sem] Oper.semAt_some

theorem boxed3_own (b0 b1 b2 : Nat) : Own (fun (pre : List Ib) W => Boxed W b0 3 (.int .i64 (mnL pre)) ∧ Boxed W b1 3 (.int .i64 (mxL pre)) ∧ Boxed W b2 4 (.bool pre.isEmpty)) :=
  fun s X Y row hs hg hr => ⟨boxed_own b0 3 (fun _ => _) s X Y row hs.1 hg hr, boxed_own b1 3 (fun _ => _) s X Y row hs.2.1 hg hr, boxed_own b2 4 (fun _ => _) s X Y row hs.2.2 hg hr⟩

/-- The world behind a round: the boxes of ends. -/
theorem ends_step {W X : World} {n₀ b0 b1 b2 : Nat} {v : List Ib → World → Prop} {B : Nat} {mn mx a0 a1 : Int} {t : Value} (h0 : n₀ ≤ b0) (h1 : n₀ ≤ b1) (e01 : b0 ≠ b1) (e02 : b0 ≠ b2) (e12 : b1 ≠ b2)
    (hX : KeepsOthers W X ∧ Below n₀ W X) (v0 : Boxed X b0 3 (.int .i64 a0)) (v1 : Boxed X b1 3 (.int .i64 a1)) (v2 : Boxed X b2 4 t) :
    KeepsFrom B W ((X.setCell ⟨b0, 0, none⟩ (.int .i64 mn)).setCell ⟨b1, 0, none⟩ (.int .i64 mx)).drew ∧ Below n₀ W ((X.setCell ⟨b0, 0, none⟩ (.int .i64 mn)).setCell ⟨b1, 0, none⟩ (.int .i64 mx)).drew ∧
      (Boxed ((X.setCell ⟨b0, 0, none⟩ (.int .i64 mn)).setCell ⟨b1, 0, none⟩ (.int .i64 mx)).drew b0 3 (.int .i64 mn) ∧ Boxed ((X.setCell ⟨b0, 0, none⟩ (.int .i64 mn)).setCell ⟨b1, 0, none⟩ (.int .i64 mx)).drew b1 3 (.int .i64 mx) ∧
        Boxed ((X.setCell ⟨b0, 0, none⟩ (.int .i64 mn)).setCell ⟨b1, 0, none⟩ (.int .i64 mx)).drew b2 4 t) :=
  ⟨(((hX.1.trans (KeepsOthers.setCell _ _ _)).trans (KeepsOthers.setCell _ _ _)).trans (KeepsOthers.drew _)).from B,
    ((hX.2.setCell (p := ⟨b0, 0, none⟩) h0 _).setCell (p := ⟨b1, 0, none⟩) h1 _).drew,
    (v0.set _).other e01 _, ((v1.other (Ne.symm e01) _).set _), (v2.other (Ne.symm e02) _).other (Ne.symm e12) _⟩

set_option maxRecDepth 100000 in
set_option maxHeartbeats 4000000 in
theorem ends_any {gf : Nat} {lb : Array Value} {f : Nat → Int} {k : Nat} (w : World) (hit : ItI gf lb f k w) :
    Calls Try.prog 46 #[.func (.func gf) #[] lb] w fun e w' => e = .returned (.tuple #[.int .i64 (enF f k).1, .int .i64 (enF f k).2]) ∧ Bl w w' := by
  obtain ⟨hent, hmax, hbd, hseq⟩ := hit
  refine (callsIn_wide (n := 3)).1 ?_
  refine callsIn_of_wp_marks Try.func46 rfl trivial ?_ rfl
  simp only [Try.ntmps46, List.size_toArray, List.length_cons, List.length_nil, Nat.reduceAdd, Nat.reduceSub, Array.replicate_succ, Array.replicate_zero, List.push_toArray, List.append_toArray, List.nil_append, List.cons_append]
  gi_wp2
  have b0 := ((Boxed.new w 3 (.int .i64 0)).alloc (.cells #[.int .i64 0] 3)).alloc (.cells #[.bool true] 4)
  have b1 := (Boxed.new (w.alloc (.cells #[.int .i64 0] 3)) 3 (.int .i64 0)).alloc (.cells #[.bool true] 4)
  have b2 := Boxed.new ((w.alloc (.cells #[.int .i64 0] 3)).alloc (.cells #[.int .i64 0] 3)) 4 (.bool true)
  simp only [World.size_alloc] at b1 b2
  have hB0 : Below w.heap.size w (((w.alloc (.cells #[.int .i64 0] 3)).alloc (.cells #[.int .i64 0] 3)).alloc (.cells #[.bool true] 4)) := (((Below.refl _ w).alloc (Nat.le_refl _) _).alloc (by simp) _).alloc (by simp; omega) _
  refine wpIn_rangeFunc_ownG rfl (by decide) (gf := gf) (lb := lb) rfl trivial hent hseq belowK_t (belowK_b (by simp; omega)) hB0 (fun _ => rfl)
    (fun pre W => (Boxed W w.heap.size 3 (.int .i64 (mnL pre)) ∧ Boxed W (w.heap.size + 1) 3 (.int .i64 (mxL pre)) ∧ Boxed W (w.heap.size + 1 + 1) 4 (.bool pre.isEmpty)) ∧ Below w.heap.size w W)
    (fun _ _ _ => False)
    (OwnFrom.and (Own.from (boxed3_own _ _ _) _) (ownFrom_below (Nat.le_refl _) (by simp; omega)))
    (fun _ _ _ _ _ hs _ _ => hs)
    ⟨⟨b0, b1, b2⟩, hB0⟩
    (fun x => { tmps := #[.func (.func gf) #[] lb, undef, .pointer (some ⟨w.heap.size, 0, none⟩), .pointer (some ⟨w.heap.size + 1, 0, none⟩), .pointer (some ⟨w.heap.size + 1 + 1, 0, none⟩), .int .i64 x.1, .func (.func gf) #[] lb, .int .i64 x.1, undef, undef, undef, undef, undef, undef, undef, undef, undef, undef, undef], defers := [] }) ?assign ?body ?done ?stop
  case assign =>
    intro l x W K hK
    simp only [encI]
    gi_wp2
    exact hK
  case body =>
    rintro l pre x W ⟨⟨v0, v1, v2⟩, hB⟩ hlt
    have c0 := v0.cell
    have c1 := v1.cell
    have c2 := v2.cell
    have f0 := v0.frozen
    have f1 := v1.frozen
    have f2 := v2.frozen
    have l0 := v0.lt
    have l1 := v1.lt
    have l2 := v2.lt
    cases pre with
    | nil =>
      simp only [List.isEmpty_nil] at c2
      gi_wp2
      have hmix : Try.prog.follows .mixedOrders = true := by kernel_rfl
      have F1 := ends_step (W := W) (n₀ := w.heap.size) (b0 := w.heap.size) (b1 := w.heap.size + 1) (b2 := w.heap.size + 1 + 1) (B := (((w.alloc (.cells #[.int .i64 0] 3)).alloc (.cells #[.int .i64 0] 3)).alloc (.cells #[.bool true] 4)).heap.size) (mn := x.1) (mx := x.1) (v := fun _ _ => True) (Nat.le_refl _) (by omega) (by omega) (by omega) (by omega)
        ⟨((KeepsOthers.setCell W ⟨w.heap.size, 0, none⟩ (.int .i64 x.1)).trans (KeepsOthers.setCell _ ⟨w.heap.size + 1, 0, none⟩ (.int .i64 x.1))).trans (KeepsOthers.setCell _ ⟨w.heap.size + 1 + 1, 0, none⟩ (.bool false)),
          (((Below.refl w.heap.size W).setCell (p := ⟨w.heap.size, 0, none⟩) (Nat.le_refl _) _).setCell (p := ⟨w.heap.size + 1, 0, none⟩) (by simp) _).setCell (p := ⟨w.heap.size + 1 + 1, 0, none⟩) (by simp; omega) _⟩
        (((v0.set _).other (by omega) _).other (by omega) _) (((v1.other (by omega) _).set _).other (by omega) _) (((v2.other (by omega) _).other (by omega) _).set _)
      have HF := Lib.hid F1
      clear F1 v0 v1 v2
      gi_region_with_o (fail)
      all_goals exact ⟨HF.out.1, HF.out.2.1, HF.out.2.2, hB.trans HF.out.2.1⟩
    | cons y ys =>
      have hm := mnL_snoc (y :: ys) x (by simp)
      have hx := mxL_snoc (y :: ys) x (by simp)
      generalize mnL (y :: ys) = mn at *
      generalize mxL (y :: ys) = mx at *
      simp only [List.isEmpty_cons] at c2
      gi_wp2
      have hmix : Try.prog.follows .mixedOrders = true := by kernel_rfl
      have F1 := ends_step (W := W) (X := W) (n₀ := w.heap.size) (b0 := w.heap.size) (b1 := w.heap.size + 1) (b2 := w.heap.size + 1 + 1) (B := (((w.alloc (.cells #[.int .i64 0] 3)).alloc (.cells #[.int .i64 0] 3)).alloc (.cells #[.bool true] 4)).heap.size) (mn := min mn x.1) (mx := max mx x.1) (v := fun _ _ => True) (Nat.le_refl _) (by omega) (by omega) (by omega) (by omega)
        ⟨KeepsOthers.refl _, Below.refl _ _⟩ v0 v1 v2
      rw [← hm, ← hx] at F1
      have HF := Lib.hid F1
      clear F1 v0 v1 v2
      rw [hm, hx] at HF
      gi_region_with_o (fail)
      all_goals exact ⟨HF.out.1, HF.out.2.1, by rw [hm, hx]; exact HF.out.2.2, hB.trans HF.out.2.1⟩
  case done =>
    rintro D ys W hD rfl ⟨⟨v0, v1, v2⟩, hB⟩ hK
    have c0 := v0.cell
    have c1 := v1.cell
    have f0 := v0.frozen
    have f1 := v1.frozen
    have l0 := v0.lt
    have l1 := v1.lt
    gi_wp2
    gi_region
    gi_wp2
    have hk2 : KeepsOthers W ((W.setCell ⟨w.heap.size, 0, none⟩ (.int .i64 (mnL (upI f k)))).setCell ⟨w.heap.size + 1, 0, none⟩ (.int .i64 (mxL (upI f k)))).drew := ((KeepsOthers.setCell _ _ _).trans (KeepsOthers.setCell _ _ _)).trans (KeepsOthers.drew _)
    have hB2 : Below w.heap.size w ((W.setCell ⟨w.heap.size, 0, none⟩ (.int .i64 (mnL (upI f k)))).setCell ⟨w.heap.size + 1, 0, none⟩ (.int .i64 (mxL (upI f k)))).drew := ((hB.setCell (p := ⟨w.heap.size, 0, none⟩) (Nat.le_refl _) _).setCell (p := ⟨w.heap.size + 1, 0, none⟩) (by simp) _).drew
    have g0 : Boxed ((W.setCell ⟨w.heap.size, 0, none⟩ (.int .i64 (mnL (upI f k)))).setCell ⟨w.heap.size + 1, 0, none⟩ (.int .i64 (mxL (upI f k)))).drew w.heap.size 3 (.int .i64 (mnL (upI f k))) := (v0.set _).other (by omega) _
    have g1 : Boxed ((W.setCell ⟨w.heap.size, 0, none⟩ (.int .i64 (mnL (upI f k)))).setCell ⟨w.heap.size + 1, 0, none⟩ (.int .i64 (mxL (upI f k)))).drew (w.heap.size + 1) 3 (.int .i64 (mxL (upI f k))) := (v1.other (by omega) _).set _
    obtain ⟨X, hX⟩ : ∃ X, X = ((W.setCell ⟨w.heap.size, 0, none⟩ (.int .i64 (mnL (upI f k)))).setCell ⟨w.heap.size + 1, 0, none⟩ (.int .i64 (mxL (upI f k)))).drew := ⟨_, rfl⟩
    rw [← hX] at hk2 hB2 g0 g1
    (try rw [← hX])
    have hKX := hk2.same D _ hK rfl
    have dlt : w.heap.size + 1 < D := by simp at hD; omega
    have k0 := (g0.kept (grownBy_putObj' X D (.deferred none)) (by simp; omega)).cell
    have k1 := (g1.kept (grownBy_putObj' X D (.deferred none)) (by simp; omega)).cell
    have e := enL_up hbd
    have e0 := (Prod.mk.inj e).1
    have e1 := (Prod.mk.inj e).2
    refine ⟨by simp, .inl ⟨_, _, rfl, run_takeDeferred hKX, ?_⟩⟩
    refine ⟨.tuple #[.int .i64 (mnL (upI f k)), .int .i64 (mxL (upI f k))], by simp [results, Try.results46, go_sem, k0, k1], by rw [← e], hB2.trans (belowK_b (w := w) (Nat.le_refl _) X D _ _ (by omega) hKX rfl rfl)⟩
  case stop =>
    rintro D c pre W _ _ h _
    exact h.elim
end Go.Proofs.Ytbhdoafcjfcgfaa
