/-
  The laws' sanity check of package ledger; fit, small.
-/
import Derived.Test.YtbmenpfpeadckaaLH
namespace Go.Proofs.Ytbmenpfpeadckaa
open Go.RowKit Go.Maps
set_option linter.unusedSimpArgs false
set_option linter.unusedVariables false

def exE (j : Nat) : En := if j = 0 then ⟨5, false, 100⟩ else if j = 1 then ⟨5, true, 180⟩ else if j = 2 then ⟨6, false, 90⟩ else ⟨5, true, 170⟩
theorem ex_el (w : World) : El (w.alloc (.cells #[.int .i64 5, .bool false, .int .i64 100, .int .i64 5, .bool true, .int .i64 180, .int .i64 6, .bool false, .int .i64 90, .int .i64 5, .bool true, .int .i64 170] 78)) (some ⟨w.heap.size, 0, none⟩) 4 exE := fun _ =>
  ⟨w.heap.size, 0, rfl, by simp, fun j hj => by
    rcases (show j = 0 ∨ j = 1 ∨ j = 2 ∨ j = 3 by omega) with rfl | rfl | rfl | rfl
    · refine ⟨?_, ?_, ?_⟩ <;> simp [exE]
    · refine ⟨?_, ?_, ?_⟩ <;> simp [exE]
    · refine ⟨?_, ?_, ?_⟩ <;> simp [exE]
    · refine ⟨?_, ?_, ?_⟩ <;> simp [exE]⟩
theorem ex_valid : vlB exE 4 = true := by decide
theorem ex_off : offP exE 4 5 = (70, 0) := by decide
theorem ex_cor : corF exE 4 = [3] := by decide
theorem sl_oneL {w : World} {b : Nat} {x : Int} (h0 : w.cell? ⟨b, 0, none⟩ = some (.int .i64 x)) : Sl w (some ⟨b, 0, none⟩) 1 (fun j => [x].getD j 0) := fun _ =>
  ⟨b, 0, rfl, ltb h0, fun j hj => by
    obtain rfl : j = 0 := by omega
    exact h0⟩
set_option maxRecDepth 100000 in
set_option maxHeartbeats 3200000 in
theorem awakeL_any (w : World) : Calls Try.prog 22 #[] w fun e w' => e = .returned (.bool true) ∧ Bl w w' := by
  have HX := Lib.hid (ex_el w)
  go_enter Try.func22, Try.ntmps22
  go_wp2_with fail
  obtain ⟨W, hW⟩ : ∃ W, W = w.alloc (.cells #[.int .i64 5, .bool false, .int .i64 100, .int .i64 5, .bool true, .int .i64 180, .int .i64 6, .bool false, .int .i64 90, .int .i64 5, .bool true, .int .i64 170] 78) := ⟨_, rfl⟩
  rw [← hW] at HX
  have BW : Bl w W := by rw [hW]; go_grown
  rw [← hW]
  clear hW
  refine (offOf_any (some ⟨w.heap.size, 0, none⟩) 4 4 exE 5 _ HX.out (by decide) (by unfold rng; omega)).mono ?_
  rintro e1 w1 ⟨rfl, hb1⟩
  rw [ex_off]
  have B1 := Lib.hid (BW.tr hb1)
  have HX1 := Lib.hid (HX.out.below hb1)
  clear hb1
  go_wp2_with fail
  refine (corrections_any (some ⟨w.heap.size, 0, none⟩) 4 4 exE _ HX1.out (by decide)).mono ?_
  rintro e2 w2 ⟨hb2, ⟨hne, _⟩ | ⟨_, v, rfl, hv⟩⟩
  · rw [ex_valid] at hne; cases hne
  rw [ex_cor] at hv
  obtain ⟨A2, c2, rfl, -, -, hs2, -⟩ := hv
  have H2 := Lib.hid (show Sl w2 A2 1 (fun j => [(3 : Int)].getD j 0) from hs2)
  have B2 := Lib.hid (B1.out.tr hb2)
  clear hs2 hb2
  go_wp2_with fail
  obtain ⟨W4, hW4⟩ : ∃ W4, W4 = w2.alloc (.cells #[.int .i64 3] 3) := ⟨_, rfl⟩
  have B5 := Lib.hid (show Bl w2 W4 by rw [hW4]; go_grown)
  have HS4 := Lib.hid (show Sl W4 (some ⟨w2.heap.size, 0, none⟩) 1 (fun j => [(3 : Int)].getD j 0) by rw [hW4]; exact sl_oneL (by simp))
  rw [← hW4]
  clear hW4
  refine (sameIntsN_any A2 1 c2 (fun j => [(3 : Int)].getD j 0) (some ⟨w2.heap.size, 0, none⟩) 1 1 (fun j => [(3 : Int)].getD j 0) W4 (by decide) (by decide) (H2.out.below B5.out) HS4.out).mono ?_
  rintro e4 w4 ⟨rfl, N4, hw4⟩
  have B7 := Lib.hid (show Bl w2 w4 by rw [hw4]; exact (B5.out).tr (bl_dn _ N4))
  clear hw4
  rw [sIB_sameN]
  go_wp2_with fail
  go_ret
  exact ⟨rfl, B2.out.tr B7.out⟩
/-- Some bool. -/
def IsB (e : Ending) : Prop := ∃ x, e = .returned (.bool x)
theorem IsB.mk (x : Bool) : IsB (.returned (.bool x)) := ⟨x, rfl⟩
set_option maxHeartbeats 800000 in
theorem small_any (A : Option Addr) (n c : Nat) (w : World) (hn : n ≤ maxLen) : Calls Try.prog 21 #[.slice A n c] w fun e w' => e = .returned (.bool (decide ((n : Int) ≤ 30))) ∧ w' = w := by
  unfold maxLen at hn
  go_enter Try.func21, Try.ntmps21
  go_wp2_with fail
  go_ret
  exact ⟨rfl, rfl⟩
end Go.Proofs.Ytbmenpfpeadckaa
