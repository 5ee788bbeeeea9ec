/-
  The document's example of package flag: awake.
-/
import Derived.Test.YtdikflklkmfcfaaFW
namespace Go.Proofs.Ytdikflklkmfcfaa
open Go.RowKit Go.Shelf
set_option linter.unusedSimpArgs false
set_option linter.unusedVariables false

theorem sl_block {W : World} {b : Nat} {l : List Nat} {t : TypeId} (h : W.heap[b]? = some (.cells (inN l).toArray t (0, 0))) : Sl W (some ⟨b, 0, none⟩) l.length (gI l) := fun hn =>
  ⟨b, 0, rfl, (Array.getElem?_eq_some_iff.1 h).1, fun j hj => by
    rw [cell_of_row W b (0 + j) _ _ _ h, Nat.zero_add]
    simpa using inN_at hj⟩
theorem bl_dN (w : World) (n : Nat) : Bl w (w.drewN n) := ⟨rfl, rfl, rfl, Nat.le_refl _, fun _ _ => rfl⟩
theorem gI_eqTo (l : List Nat) (n : Nat) : eqTo (gI l) (gI l) n = true := eqTo_same _ _
theorem sIB_same {n : Nat} {f g : Nat → Int} (h : ∀ j, j < n → f j = g j) : sIB n f n g = true := by
  unfold sIB
  rw [decide_eq_true rfl, Bool.true_and]
  induction n with
  | zero => rfl
  | succ n ih => rw [eqTo, ih (fun j hj => h j (by omega)), decide_eq_true (h n (by omega))]; rfl
theorem ex_hoist : hstL 4 (gI [1, 2, 1, 1]) 8191 = [[1, 2, 10, 12]] := by decide +kernel
theorem ex_valid : vdB 4 (gI [1, 2, 1, 1]) = true := by decide +kernel
theorem ex_hvalid : vhB 4 (gI [1, 2, 10, 12]) = true := by decide +kernel
theorem ex_means : dgs (gI [1, 2, 10, 12]) 4 = [1, 2, 1, 1] := by decide +kernel
set_option maxRecDepth 100000 in
set_option maxHeartbeats 4000000 in
theorem awake7_any (w : World) : Calls Try.prog 5 #[] w fun e w' => e = .returned (.bool true) ∧ Bl w w' := by
  have L1 : ∀ W : World, Sl (W.alloc (.cells #[.int .i64 1, .int .i64 2, .int .i64 1, .int .i64 1] 3)) (some ⟨W.heap.size, 0, none⟩) 4 (gI [1, 2, 1, 1]) := fun W => sl_block (l := [1, 2, 1, 1]) (heap_alloc_new _ _)
  have L2 : ∀ W : World, Sl (W.alloc (.cells #[.int .i64 1, .int .i64 2, .int .i64 10, .int .i64 12] 3)) (some ⟨W.heap.size, 0, none⟩) 4 (gI [1, 2, 10, 12]) := fun W => sl_block (l := [1, 2, 10, 12]) (heap_alloc_new _ _)
  have H1 := Lib.hid L1
  have H2 := Lib.hid L2
  clear L1 L2
  go_enter Try.func5, Try.ntmps5
  go_wp2_with fail
  refine (hoist_yes _ 4 4 (gI [1, 2, 1, 1]) _ (by decide) (H1.out _) ex_valid).mono ?_
  rintro e w1 ⟨hb1, ⟨ht, rfl⟩ | ⟨h, r, g1, cp1, ht, rfl, ho1⟩⟩
  · rw [ex_hoist] at ht; cases ht
  · rw [ex_hoist] at ht
    injection ht with e1 e2
    subst e1 e2
    have B1 : Bl w w1 := Below.trans (by go_grown) (hb1.mono (by simp))
    have O1 := Lib.hid ho1
    clear hb1 ho1
    go_wp2_with fail
    refine (means7_yes _ 4 4 (gI [1, 2, 10, 12]) _ (by decide) (H2.out _) ex_hvalid).mono ?_
    rintro e w2 ⟨v2, rfl, ho2, hb2⟩
    rw [ex_means] at ho2
    have B2 : Bl w1 w2 := Below.trans (by go_grown) (hb2.mono (by simp))
    have B02 := Bl.tr B1 B2
    obtain ⟨_, A2, cp2, rfl, _, hm2, hs2⟩ := own_sl7 ho2
    obtain ⟨_, A1, cp1', e1, _, hm1, hs1⟩ := own_sl7 O1.out
    injection e1 with e11 _ e12
    subst e11 e12
    have S1 := Lib.hid (hs1.below B2)
    have S2 := Lib.hid hs2
    clear hb2 ho2 hs1 hs2
    have l4 : ([1, 2, 10, 12] : List Nat).length = 4 := rfl
    rw [l4] at S1
    go_wp2_with fail
    refine (sameInts7_any _ 4 _ (gI [1, 2, 10, 12]) _ 4 4 (gI [1, 2, 10, 12]) _ (by decide) (by decide) (S1.out.below (by go_grown)) (H2.out _)).mono ?_
    rintro e w3 ⟨rfl, N3, rfl⟩
    rw [sIB_same (fun j _ => rfl)]
    go_wp2_with fail
    have z3 : ((w2.alloc (.cells #[.int .i64 1, .int .i64 2, .int .i64 10, .int .i64 12] 3)).drewN N3).heap.size = w2.heap.size + 1 := by simp
    have S3 := H1.out ((w2.alloc (.cells #[.int .i64 1, .int .i64 2, .int .i64 10, .int .i64 12] 3)).drewN N3)
    rw [z3] at S3
    have Z1 : Bl w2 (w2.alloc (.cells #[.int .i64 1, .int .i64 2, .int .i64 10, .int .i64 12] 3)) := by go_grown
    have Z3 := Lib.hid (show Bl w2 (((w2.alloc (.cells #[.int .i64 1, .int .i64 2, .int .i64 10, .int .i64 12] 3)).drewN N3).alloc (.cells #[.int .i64 1, .int .i64 2, .int .i64 1, .int .i64 1] 3)) from Bl.tr (Bl.tr Z1 (bl_dN _ N3)) (by go_grown))
    clear Z1
    refine (sameInts7_any _ 4 _ (gI [1, 2, 1, 1]) _ 4 4 (gI [1, 2, 1, 1]) _ (by decide) (by decide) (S2.out.below Z3.out) S3).mono ?_
    rintro e w4 ⟨rfl, N4, rfl⟩
    rw [sIB_same (fun j _ => rfl)]
    go_wp2_with fail
    go_ret
    exact ⟨rfl, Bl.tr B02 (Bl.tr Z3.out (bl_dN _ _))⟩
end Go.Proofs.Ytdikflklkmfcfaa
