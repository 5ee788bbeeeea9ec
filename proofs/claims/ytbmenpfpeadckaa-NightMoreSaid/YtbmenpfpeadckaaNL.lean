/-
  The law's sanity check of package night.
-/
import Derived.Test.YtbmenpfpeadckaaNK
namespace Go.Proofs.Ytbmenpfpeadckaa
open Go.RowKit
set_option linter.unusedSimpArgs false
set_option linter.unusedVariables false

theorem sIB_sameN (n : Nat) (f : Nat → Int) : sIB n f n f = true := by simp [sIB, eqTo_same]
theorem sl_two {w : World} {b : Nat} {x y : Int} (h0 : w.cell? ⟨b, 0, none⟩ = some (.int .i64 x)) (h1 : w.cell? ⟨b, 1, none⟩ = some (.int .i64 y)) : Sl w (some ⟨b, 0, none⟩) 2 (fun j => [x, y].getD j 0) := fun _ =>
  ⟨b, 0, rfl, ltb h0, fun j hj => by
    rcases (show j = 0 ∨ j = 1 by omega) with rfl | rfl
    · exact h0
    · exact h1⟩
theorem sl_oneN {w : World} {b : Nat} {x : Int} (h0 : w.cell? ⟨b, 0, none⟩ = some (.int .i64 x)) : Sl w (some ⟨b, 0, none⟩) 1 (fun j => [x].getD j 0) := fun _ =>
  ⟨b, 0, rfl, ltb h0, fun j hj => by
    obtain rfl : j = 0 := by omega
    exact h0⟩
theorem ex_chl (w : World) : Chl (w.alloc (.cells #[.string ⟨#[97]⟩, .int .i64 0, .int .i64 100, .int .i64 0, .int .i64 5, .string ⟨#[98]⟩, .int .i64 90, .int .i64 150, .int .i64 0, .int .i64 9, .string ⟨#[99]⟩, .int .i64 160, .int .i64 200, .int .i64 30000, .int .i64 6] 56)) (some ⟨w.heap.size, 0, none⟩) 3 exL := fun _ =>
  ⟨w.heap.size, 0, rfl, by simp, fun j hj => by
    rcases (show j = 0 ∨ j = 1 ∨ j = 2 by omega) with rfl | rfl | rfl
    · refine ⟨?_, ?_, ?_, ?_, ?_⟩ <;> simp [exL]
    · refine ⟨?_, ?_, ?_, ?_, ?_⟩ <;> simp [exL]
    · refine ⟨?_, ?_, ?_, ?_, ?_⟩ <;> simp [exL]⟩
theorem ex_size (j : Nat) : (exL j).nm.size ≤ maxLen := by
  unfold exL
  split
  · decide
  · split <;> decide
theorem no_spl (w : World) : Spl w none 0 noS := fun h => absurd h (by omega)
set_option maxRecDepth 100000 in
set_option maxHeartbeats 3200000 in
theorem awakeN_any (w : World) : Calls Try.prog 9 #[] w fun e w' => e = .returned (.bool true) ∧ Bl w w' := by
  have HX := Lib.hid (ex_chl w)
  go_enter Try.func9, Try.ntmps9
  go_wp2_with fail
  obtain ⟨W, hW⟩ : ∃ W, W = w.alloc (.cells #[.string ⟨#[97]⟩, .int .i64 0, .int .i64 100, .int .i64 0, .int .i64 5, .string ⟨#[98]⟩, .int .i64 90, .int .i64 150, .int .i64 0, .int .i64 9, .string ⟨#[99]⟩, .int .i64 160, .int .i64 200, .int .i64 30000, .int .i64 6] 56) := ⟨_, rfl⟩
  rw [← hW] at HX
  have BW : Bl w W := by rw [hW]; go_grown
  rw [← hW]
  clear hW
  refine (best_any (some ⟨w.heap.size, 0, none⟩) 3 3 exL none 0 0 noS 0 _ HX.out (fun j _ => ex_size j) (Nat.le_refl _) (by decide) (no_spl _) (by decide)).mono ?_
  rintro e1 w1 ⟨hb1, ⟨hne, _⟩ | ⟨_, v, rfl, hv⟩⟩
  · exact absurd ex_chk0 hne
  rw [ex_best0] at hv
  obtain ⟨A1, c1, rfl, -, -, hs1, -⟩ := hv
  have H1 := Lib.hid (show Sl w1 A1 2 (fun j => [(1 : Int), 2].getD j 0) from hs1)
  have B1 := Lib.hid (BW.tr hb1)
  have HX1 := Lib.hid (HX.out.below hb1)
  clear hs1 hb1
  go_wp2_with fail
  refine (best_any (some ⟨w.heap.size, 0, none⟩) 3 3 exL none 0 0 noS 1 _ HX1.out (fun j _ => ex_size j) (Nat.le_refl _) (by decide) (no_spl _) (by decide)).mono ?_
  rintro e2 w2 ⟨hb2, ⟨hne, _⟩ | ⟨_, v, rfl, hv⟩⟩
  · exact absurd ex_chk1 hne
  rw [ex_best1] at hv
  obtain ⟨A2, c2, rfl, -, -, hs2, -⟩ := hv
  have H2 := Lib.hid (show Sl w2 A2 1 (fun j => [(1 : Int)].getD j 0) from hs2)
  have B2 := Lib.hid (B1.out.tr hb2)
  have H1 := Lib.hid (H1.out.below hb2)
  have z2 := B2.out.size
  clear hs2 hb2
  go_wp2_with fail
  obtain ⟨W3, hW3⟩ : ∃ W3, W3 = w2.alloc (.cells #[.int .i64 1, .int .i64 2] 3) := ⟨_, rfl⟩
  have B3 := Lib.hid (show Bl w2 W3 by rw [hW3]; go_grown)
  have HS3 := Lib.hid (show Sl W3 (some ⟨w2.heap.size, 0, none⟩) 2 (fun j => [(1 : Int), 2].getD j 0) by rw [hW3]; exact sl_two (by simp) (by simp))
  have z3 : W3.heap.size = w2.heap.size + 1 := by rw [hW3]; simp
  rw [← hW3]
  clear hW3
  refine (sameIntsN_any A1 2 c1 (fun j => [(1 : Int), 2].getD j 0) (some ⟨w2.heap.size, 0, none⟩) 2 2 (fun j => [(1 : Int), 2].getD j 0) W3 (by decide) (by decide) (H1.out.below B3.out) HS3.out).mono ?_
  rintro e3 w3 ⟨rfl, N3, hw3⟩
  have B4 := Lib.hid (show Bl w2 w3 by rw [hw3]; exact B3.out.tr (bl_dnN _ N3))
  clear hw3
  rw [sIB_sameN]
  go_wp2_with fail
  obtain ⟨W4, hW4⟩ : ∃ W4, W4 = w3.alloc (.cells #[.int .i64 1] 3) := ⟨_, rfl⟩
  have B5 := Lib.hid (show Bl w3 W4 by rw [hW4]; go_grown)
  have HS4 := Lib.hid (show Sl W4 (some ⟨w3.heap.size, 0, none⟩) 1 (fun j => [(1 : Int)].getD j 0) by rw [hW4]; exact sl_oneN (by simp))
  rw [← hW4]
  clear hW4
  refine (sameIntsN_any A2 1 c2 (fun j => [(1 : Int)].getD j 0) (some ⟨w3.heap.size, 0, none⟩) 1 1 (fun j => [(1 : Int)].getD j 0) W4 (by decide) (by decide) (H2.out.below (B4.out.tr B5.out)) HS4.out).mono ?_
  rintro e4 w4 ⟨rfl, N4, hw4⟩
  have B6 := Lib.hid (show Bl w4 w4 from Bl.rf _)
  have B7 := Lib.hid (show Bl w2 w4 by rw [hw4]; exact (B4.out.tr B5.out).tr (bl_dnN _ N4))
  clear hw4
  rw [sIB_sameN]
  go_wp2_with fail
  go_ret
  exact ⟨rfl, B2.out.tr B7.out⟩
end Go.Proofs.Ytbmenpfpeadckaa
