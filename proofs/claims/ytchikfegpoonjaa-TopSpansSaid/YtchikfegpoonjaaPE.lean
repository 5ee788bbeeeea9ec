/-
  Package sight and its reference: sights and nets that are valid.
-/
import Derived.Test.YtchikfegpoonjaaPD
namespace Go.Proofs.Ytchikfegpoonjaa
open Go.RowKit
set_option linter.unusedSimpArgs false
set_option linter.unusedVariables false

set_option maxRecDepth 100000 in
set_option maxHeartbeats 3200000 in
theorem rvalidSight2_any (x : Sgt) (n : Nat) (w : World) : Calls Try.prog 17 #[encG x, .int .i64 (n : Int)] w fun e w' => e = .returned (.bool (sgB n x)) ∧ Bl w w' := by
  obtain ⟨g, hg⟩ : ∃ g, inB x.tm 0 1000000000000 = g := ⟨_, rfl⟩
  have HG := Lib.hid hg
  clear hg
  cases g with
  | false =>
    have HF := Lib.hid (show sgB n x = false by simp [sgB, HG.out])
    go_enter Try.func17, Try.ntmps17
    go_wp2_with fail
    refine (within2_any _ _ _ _).mono ?_
    rintro e1 w1 ⟨rfl, hb⟩
    rw [HG.out]
    have B1 : Bl w w1 := Bl.tr (by go_grown) hb
    go_wp2_with fail
    go_ret
    exact ⟨ret_bool HF.out.symm, B1⟩
  | true =>
    have HV := Lib.hid (show sgB n x = (decide (0 ≤ x.ca) && decide (x.ca < (n : Int)) && decide (0 ≤ x.cb) && decide (x.cb < (n : Int)) && decide (x.ca ≠ x.cb) && decide (-86400000 ≤ x.lo) && decide (x.lo ≤ x.hi) && decide (x.hi ≤ 86400000)) by simp only [sgB, clB, HG.out, Bool.true_and, Bool.and_assoc])
    by_cases c0 : 0 ≤ x.ca
    rotate_left
    · have HF := Lib.hid (show sgB n x = false by rw [HV.out]; simp [c0])
      go_enter Try.func17, Try.ntmps17
      go_wp2_with fail
      refine (within2_any _ _ _ _).mono ?_
      rintro e1 w1 ⟨rfl, hb⟩
      rw [HG.out]
      have x0 := kcb hb (b := w.heap.size) (o := 0) (v := .int .i64 x.tm) (by go_cell)
      have x1 := kcb hb (b := w.heap.size) (o := 1) (v := .int .i64 x.ca) (by go_cell)
      have x2 := kcb hb (b := w.heap.size) (o := 2) (v := .int .i64 x.cb) (by go_cell)
      have x3 := kcb hb (b := w.heap.size) (o := 3) (v := .int .i64 x.lo) (by go_cell)
      have x4 := kcb hb (b := w.heap.size) (o := 4) (v := .int .i64 x.hi) (by go_cell)
      have l1 := ltb x0
      have B1 : Bl w w1 := Bl.tr (by go_grown) hb
      clear hb
      go_wp2_with fail
      go_ret
      exact ⟨ret_bool (by first | exact HF.out.symm | (rw [HF.out]; simp; omega)), B1⟩
    by_cases c1 : x.ca < (n : Int)
    rotate_left
    · have HF := Lib.hid (show sgB n x = false by rw [HV.out]; simp [c1])
      go_enter Try.func17, Try.ntmps17
      go_wp2_with fail
      refine (within2_any _ _ _ _).mono ?_
      rintro e1 w1 ⟨rfl, hb⟩
      rw [HG.out]
      have x0 := kcb hb (b := w.heap.size) (o := 0) (v := .int .i64 x.tm) (by go_cell)
      have x1 := kcb hb (b := w.heap.size) (o := 1) (v := .int .i64 x.ca) (by go_cell)
      have x2 := kcb hb (b := w.heap.size) (o := 2) (v := .int .i64 x.cb) (by go_cell)
      have x3 := kcb hb (b := w.heap.size) (o := 3) (v := .int .i64 x.lo) (by go_cell)
      have x4 := kcb hb (b := w.heap.size) (o := 4) (v := .int .i64 x.hi) (by go_cell)
      have l1 := ltb x0
      have B1 : Bl w w1 := Bl.tr (by go_grown) hb
      clear hb
      go_wp2_with fail
      go_ret
      exact ⟨ret_bool (by first | exact HF.out.symm | (rw [HF.out]; simp; omega)), B1⟩
    by_cases c2 : 0 ≤ x.cb
    rotate_left
    · have HF := Lib.hid (show sgB n x = false by rw [HV.out]; simp [c2])
      go_enter Try.func17, Try.ntmps17
      go_wp2_with fail
      refine (within2_any _ _ _ _).mono ?_
      rintro e1 w1 ⟨rfl, hb⟩
      rw [HG.out]
      have x0 := kcb hb (b := w.heap.size) (o := 0) (v := .int .i64 x.tm) (by go_cell)
      have x1 := kcb hb (b := w.heap.size) (o := 1) (v := .int .i64 x.ca) (by go_cell)
      have x2 := kcb hb (b := w.heap.size) (o := 2) (v := .int .i64 x.cb) (by go_cell)
      have x3 := kcb hb (b := w.heap.size) (o := 3) (v := .int .i64 x.lo) (by go_cell)
      have x4 := kcb hb (b := w.heap.size) (o := 4) (v := .int .i64 x.hi) (by go_cell)
      have l1 := ltb x0
      have B1 : Bl w w1 := Bl.tr (by go_grown) hb
      clear hb
      go_wp2_with fail
      go_ret
      exact ⟨ret_bool (by first | exact HF.out.symm | (rw [HF.out]; simp; omega)), B1⟩
    by_cases c3 : x.cb < (n : Int)
    rotate_left
    · have HF := Lib.hid (show sgB n x = false by rw [HV.out]; simp [c3])
      go_enter Try.func17, Try.ntmps17
      go_wp2_with fail
      refine (within2_any _ _ _ _).mono ?_
      rintro e1 w1 ⟨rfl, hb⟩
      rw [HG.out]
      have x0 := kcb hb (b := w.heap.size) (o := 0) (v := .int .i64 x.tm) (by go_cell)
      have x1 := kcb hb (b := w.heap.size) (o := 1) (v := .int .i64 x.ca) (by go_cell)
      have x2 := kcb hb (b := w.heap.size) (o := 2) (v := .int .i64 x.cb) (by go_cell)
      have x3 := kcb hb (b := w.heap.size) (o := 3) (v := .int .i64 x.lo) (by go_cell)
      have x4 := kcb hb (b := w.heap.size) (o := 4) (v := .int .i64 x.hi) (by go_cell)
      have l1 := ltb x0
      have B1 : Bl w w1 := Bl.tr (by go_grown) hb
      clear hb
      go_wp2_with fail
      go_ret
      exact ⟨ret_bool (by first | exact HF.out.symm | (rw [HF.out]; simp; omega)), B1⟩
    by_cases c4 : x.ca ≠ x.cb
    rotate_left
    · have HF := Lib.hid (show sgB n x = false by rw [HV.out]; simp [c4])
      have c4 : x.ca = x.cb := Classical.byContradiction c4
      have c4' : (x.ca != x.cb) = false := by simp [c4]
      clear c4
      go_enter Try.func17, Try.ntmps17
      go_wp2_with fail
      refine (within2_any _ _ _ _).mono ?_
      rintro e1 w1 ⟨rfl, hb⟩
      rw [HG.out]
      have x0 := kcb hb (b := w.heap.size) (o := 0) (v := .int .i64 x.tm) (by go_cell)
      have x1 := kcb hb (b := w.heap.size) (o := 1) (v := .int .i64 x.ca) (by go_cell)
      have x2 := kcb hb (b := w.heap.size) (o := 2) (v := .int .i64 x.cb) (by go_cell)
      have x3 := kcb hb (b := w.heap.size) (o := 3) (v := .int .i64 x.lo) (by go_cell)
      have x4 := kcb hb (b := w.heap.size) (o := 4) (v := .int .i64 x.hi) (by go_cell)
      have l1 := ltb x0
      have B1 : Bl w w1 := Bl.tr (by go_grown) hb
      clear hb
      go_wp2_with fail
      go_ret
      exact ⟨ret_bool (by first | exact HF.out.symm | (rw [HF.out]; simp; omega)), B1⟩
    have c4' : (x.ca != x.cb) = true := by simp [c4]
    by_cases c5 : -86400000 ≤ x.lo
    rotate_left
    · have HF := Lib.hid (show sgB n x = false by rw [HV.out]; simp [c5])
      go_enter Try.func17, Try.ntmps17
      go_wp2_with fail
      refine (within2_any _ _ _ _).mono ?_
      rintro e1 w1 ⟨rfl, hb⟩
      rw [HG.out]
      have x0 := kcb hb (b := w.heap.size) (o := 0) (v := .int .i64 x.tm) (by go_cell)
      have x1 := kcb hb (b := w.heap.size) (o := 1) (v := .int .i64 x.ca) (by go_cell)
      have x2 := kcb hb (b := w.heap.size) (o := 2) (v := .int .i64 x.cb) (by go_cell)
      have x3 := kcb hb (b := w.heap.size) (o := 3) (v := .int .i64 x.lo) (by go_cell)
      have x4 := kcb hb (b := w.heap.size) (o := 4) (v := .int .i64 x.hi) (by go_cell)
      have l1 := ltb x0
      have B1 : Bl w w1 := Bl.tr (by go_grown) hb
      clear hb
      go_wp2_with fail
      go_ret
      exact ⟨ret_bool (by first | exact HF.out.symm | (rw [HF.out]; simp; omega)), B1⟩
    by_cases c6 : x.lo ≤ x.hi
    rotate_left
    · have HF := Lib.hid (show sgB n x = false by rw [HV.out]; simp [c6])
      go_enter Try.func17, Try.ntmps17
      go_wp2_with fail
      refine (within2_any _ _ _ _).mono ?_
      rintro e1 w1 ⟨rfl, hb⟩
      rw [HG.out]
      have x0 := kcb hb (b := w.heap.size) (o := 0) (v := .int .i64 x.tm) (by go_cell)
      have x1 := kcb hb (b := w.heap.size) (o := 1) (v := .int .i64 x.ca) (by go_cell)
      have x2 := kcb hb (b := w.heap.size) (o := 2) (v := .int .i64 x.cb) (by go_cell)
      have x3 := kcb hb (b := w.heap.size) (o := 3) (v := .int .i64 x.lo) (by go_cell)
      have x4 := kcb hb (b := w.heap.size) (o := 4) (v := .int .i64 x.hi) (by go_cell)
      have l1 := ltb x0
      have B1 : Bl w w1 := Bl.tr (by go_grown) hb
      clear hb
      go_wp2_with fail
      go_ret
      exact ⟨ret_bool (by first | exact HF.out.symm | (rw [HF.out]; simp; omega)), B1⟩
    by_cases c7 : x.hi ≤ 86400000
    rotate_left
    · have HF := Lib.hid (show sgB n x = false by rw [HV.out]; simp [c7])
      go_enter Try.func17, Try.ntmps17
      go_wp2_with fail
      refine (within2_any _ _ _ _).mono ?_
      rintro e1 w1 ⟨rfl, hb⟩
      rw [HG.out]
      have x0 := kcb hb (b := w.heap.size) (o := 0) (v := .int .i64 x.tm) (by go_cell)
      have x1 := kcb hb (b := w.heap.size) (o := 1) (v := .int .i64 x.ca) (by go_cell)
      have x2 := kcb hb (b := w.heap.size) (o := 2) (v := .int .i64 x.cb) (by go_cell)
      have x3 := kcb hb (b := w.heap.size) (o := 3) (v := .int .i64 x.lo) (by go_cell)
      have x4 := kcb hb (b := w.heap.size) (o := 4) (v := .int .i64 x.hi) (by go_cell)
      have l1 := ltb x0
      have B1 : Bl w w1 := Bl.tr (by go_grown) hb
      clear hb
      go_wp2_with fail
      go_ret
      exact ⟨ret_bool (by first | exact HF.out.symm | (rw [HF.out]; simp; omega)), B1⟩
    have HF := Lib.hid (show sgB n x = true by rw [HV.out]; simp [c0, c1, c2, c3, c4, c5, c6, c7])
    go_enter Try.func17, Try.ntmps17
    go_wp2_with fail
    refine (within2_any _ _ _ _).mono ?_
    rintro e1 w1 ⟨rfl, hb⟩
    rw [HG.out]
    have x0 := kcb hb (b := w.heap.size) (o := 0) (v := .int .i64 x.tm) (by go_cell)
    have x1 := kcb hb (b := w.heap.size) (o := 1) (v := .int .i64 x.ca) (by go_cell)
    have x2 := kcb hb (b := w.heap.size) (o := 2) (v := .int .i64 x.cb) (by go_cell)
    have x3 := kcb hb (b := w.heap.size) (o := 3) (v := .int .i64 x.lo) (by go_cell)
    have x4 := kcb hb (b := w.heap.size) (o := 4) (v := .int .i64 x.hi) (by go_cell)
    have l1 := ltb x0
    have B1 : Bl w w1 := Bl.tr (by go_grown) hb
    clear hb
    go_wp2_with fail
    go_ret
    exact ⟨ret_bool (by first | exact HF.out.symm | (rw [HF.out]; simp; omega)), B1⟩
theorem slS_cell {w : World} {A : Option Addr} {n : Nat} {f : Nat → Int} (h : Sl w A n f) (hn : 0 < n) : ∃ b off, A = some ⟨b, off, none⟩ ∧ w.cell? ⟨b, off, none⟩ = some (.int .i64 (f 0)) := by
  obtain ⟨b, off, e, _, hc⟩ := h hn
  exact ⟨b, off, e, by simpa using hc 0 hn⟩
end Go.Proofs.Ytchikfegpoonjaa
