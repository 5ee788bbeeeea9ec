/-
  The law's sanity check, and which boxes it looks at.
-/
import Derived.Test.YtbhdoafcjfcgfaaRI
namespace Go.Proofs.Ytbhdoafcjfcgfaa
open Go.RowKit
set_option linter.unusedSimpArgs false
set_option linter.unusedVariables false

def exErr (j : Nat) : Int := if j ≤ 7 then 7 * j else 49 + 8 * ((j : Int) - 7)
def exName : ByteArray := ⟨#[97]⟩
theorem ex_vb : vbB exName 15 exErr = true := by decide
theorem ex_tr : trR exName 15 exErr = .tuple #[.agg #[.string exName, .int .i64 49, .int .i64 56, .int .i64 7, .int .i64 21], .int .i64 0] := by
  rw [trR_ok ex_vb (by decide)]
  rfl
theorem ex_arc : arF 4000 = .tuple #[.int .i64 60, .int .i64 0, .int .i64 0] := by
  rw [arF_yes (by decide)]
  rfl
theorem ex_cells : ∀ j : Nat, j < 15 → ([.int .i64 0, .int .i64 7, .int .i64 14, .int .i64 21, .int .i64 28, .int .i64 35, .int .i64 42, .int .i64 49, .int .i64 57, .int .i64 65, .int .i64 73, .int .i64 81, .int .i64 89, .int .i64 97, .int .i64 105] : List Value)[j]? = some (.int .i64 (exErr j)) := by
  intro j hj
  have : j = 0 ∨ j = 1 ∨ j = 2 ∨ j = 3 ∨ j = 4 ∨ j = 5 ∨ j = 6 ∨ j = 7 ∨ j = 8 ∨ j = 9 ∨ j = 10 ∨ j = 11 ∨ j = 12 ∨ j = 13 ∨ j = 14 := by omega
  rcases this with rfl | rfl | rfl | rfl | rfl | rfl | rfl | rfl | rfl | rfl | rfl | rfl | rfl | rfl | rfl <;> rfl
theorem ex_sl (w : World) : Sl (w.alloc (.cells #[.int .i64 0, .int .i64 7, .int .i64 14, .int .i64 21, .int .i64 28, .int .i64 35, .int .i64 42, .int .i64 49, .int .i64 57, .int .i64 65, .int .i64 73, .int .i64 81, .int .i64 89, .int .i64 97, .int .i64 105] 3)) (some ⟨w.heap.size, 0, none⟩) 15 exErr := fun _ => by
  refine ⟨w.heap.size, 0, rfl, by simp, fun j hj => ?_⟩
  have h := World.alloc_heap_new w (.cells #[.int .i64 0, .int .i64 7, .int .i64 14, .int .i64 21, .int .i64 28, .int .i64 35, .int .i64 42, .int .i64 49, .int .i64 57, .int .i64 65, .int .i64 73, .int .i64 81, .int .i64 89, .int .i64 97, .int .i64 105] 3)
  rw [Nat.zero_add]
  rw [World.cell?, h]
  exact (Array.getElem?_toList (i := j)).symm.trans (ex_cells j hj)

set_option maxRecDepth 100000 in
set_option maxHeartbeats 3200000 in
theorem awakeR_any (w : World) : Calls Try.prog 8 #[] w fun e w' => e = .returned (.bool true) ∧ Bl w w' := by
  have HS := Lib.hid (ex_sl w)
  go_enter Try.func8, Try.ntmps8
  go_wp2_with fail
  refine (trial_any exName _ 15 15 exErr _ (by decide) HS.out (by decide) (by decide)).mono ?_
  rintro e w1 ⟨rfl, hb⟩
  rw [ex_tr]
  have B1 : Bl w w1 := Below.trans (by go_grown) (hb.mono (by (try simp only [World.size_alloc, World.size_setCell]); omega))
  clear hb
  have z1 := B1.size
  go_wp2_with fail
  refine (arc_any _ _).mono ?_
  rintro e w2 ⟨rfl, hb⟩
  rw [ex_arc]
  have y0 := kcb hb (b := w1.heap.size) (o := 0) (v := .string exName) (by go_cell)
  have y1 := kcb hb (b := w1.heap.size) (o := 1) (v := .int .i64 49) (by go_cell)
  have y2 := kcb hb (b := w1.heap.size) (o := 2) (v := .int .i64 56) (by go_cell)
  have y3 := kcb hb (b := w1.heap.size) (o := 3) (v := .int .i64 7) (by go_cell)
  have y4 := kcb hb (b := w1.heap.size) (o := 4) (v := .int .i64 21) (by go_cell)
  have B2 : Bl w w2 := Below.trans B1 (Below.trans (by go_grown) (hb.mono (by (try simp only [World.size_alloc, World.size_setCell]); omega)))
  clear hb
  have e1 : exName.toList = [97] := by rw [ByteArray.toList_eq]; rfl
  go_wp2_with fail
  go_ret
  exact ⟨rfl, B2⟩
end Go.Proofs.Ytbhdoafcjfcgfaa
