/-
  Contracts of package ball and of its reference: words of verdicts, and how often each is there.
-/
import Derived.Test.YtajlfflbphbjnaaDoorBTA
import Derived.Test.YtajlfflbphbjnaaDoorSI
import Derived.Lib.LaidU8
namespace Go.Proofs.YtajlfflbphbjnaaDoor
open Go.RowKit
set_option linter.unusedSimpArgs false
set_option linter.unusedVariables false

def wdL : List (List UInt8) := [[103, 111, 111, 100], [119, 114, 111, 110, 103], [102, 97, 108, 115, 101], [97, 103, 97, 105, 110], [116, 111, 108, 100], [115, 105, 108, 101, 110, 116]]
def wdB (i : Nat) : ByteArray := ⟨(wdL.getD i []).toArray⟩
/-- The variable that holds the words holds them. -/
structure Wd (W : World) : Prop where
  c0 : W.cell? ⟨0, 0, none⟩ = some (.string ⟨#[103, 111, 111, 100]⟩)
  c1 : W.cell? ⟨0, 1, none⟩ = some (.string ⟨#[119, 114, 111, 110, 103]⟩)
  c2 : W.cell? ⟨0, 2, none⟩ = some (.string ⟨#[102, 97, 108, 115, 101]⟩)
  c3 : W.cell? ⟨0, 3, none⟩ = some (.string ⟨#[97, 103, 97, 105, 110]⟩)
  c4 : W.cell? ⟨0, 4, none⟩ = some (.string ⟨#[116, 111, 108, 100]⟩)
  c5 : W.cell? ⟨0, 5, none⟩ = some (.string ⟨#[115, 105, 108, 101, 110, 116]⟩)
theorem Wd.below {W W' : World} (h : Wd W) (hb : Bl W W') : Wd W' := ⟨kcb hb h.c0, kcb hb h.c1, kcb hb h.c2, kcb hb h.c3, kcb hb h.c4, kcb hb h.c5⟩
def wordR (v : Int) : ByteArray := if v = 0 then ⟨#[103, 111, 111, 100]⟩ else if v = 1 then ⟨#[119, 114, 111, 110, 103]⟩ else if v = 2 then ⟨#[102, 97, 108, 115, 101]⟩ else if v = 3 then ⟨#[97, 103, 97, 105, 110]⟩ else if v = 4 then ⟨#[116, 111, 108, 100]⟩ else if v = 5 then ⟨#[115, 105, 108, 101, 110, 116]⟩ else ⟨#[]⟩
theorem wordR_no {v : Int} (h : ¬ (0 ≤ v ∧ v ≤ 5)) : wordR v = ⟨#[]⟩ := by
  unfold wordR
  rw [if_neg (by omega)]
  rw [if_neg (by omega)]
  rw [if_neg (by omega)]
  rw [if_neg (by omega)]
  rw [if_neg (by omega)]
  rw [if_neg (by omega)]
set_option maxHeartbeats 400000 in
theorem isVerdict_any (v : Int) (w : World) : Calls Tryd.prog 15 #[.int .i64 v] w fun e w' => e = .returned (.bool (decide (0 ≤ v ∧ v ≤ 5))) ∧ w = w' := by
  go_enter Tryd.func15, Tryd.ntmps15
  go_wp2
  all_goals (go_ret; exact ⟨ret_bool (by first | rfl | (rw [Bool.eq_iff_iff]; simp; omega) | (simp; omega)), rfl⟩)
set_option maxHeartbeats 400000 in
theorem rfault_any (v : Int) (w : World) : Calls Tryd.prog 8 #[.int .i64 v] w fun e w' => e = .returned (.bool (decide (fltF v))) ∧ w = w' := by
  go_enter Tryd.func8, Tryd.ntmps8
  go_wp2
  all_goals (go_ret; exact ⟨ret_bool (by rw [Bool.eq_iff_iff, decide_eq_true_eq (p := fltF v)]; first | (simp [fltF] at *; done) | (simp [fltF] at *; omega)), rfl⟩)
theorem wIdx0 (w : World) : (Instr.index 49 (.agg #[.string ⟨#[103, 111, 111, 100]⟩, .string ⟨#[119, 114, 111, 110, 103]⟩, .string ⟨#[102, 97, 108, 115, 101]⟩, .string ⟨#[97, 103, 97, 105, 110]⟩, .string ⟨#[116, 111, 108, 100]⟩, .string ⟨#[115, 105, 108, 101, 110, 116]⟩]) (.int .i64 0)).run Tryd.prog w = .ok (.string ⟨#[103, 111, 111, 100]⟩) w := by kernel_rfl
theorem wIdx1 (w : World) : (Instr.index 49 (.agg #[.string ⟨#[103, 111, 111, 100]⟩, .string ⟨#[119, 114, 111, 110, 103]⟩, .string ⟨#[102, 97, 108, 115, 101]⟩, .string ⟨#[97, 103, 97, 105, 110]⟩, .string ⟨#[116, 111, 108, 100]⟩, .string ⟨#[115, 105, 108, 101, 110, 116]⟩]) (.int .i64 1)).run Tryd.prog w = .ok (.string ⟨#[119, 114, 111, 110, 103]⟩) w := by kernel_rfl
theorem wIdx2 (w : World) : (Instr.index 49 (.agg #[.string ⟨#[103, 111, 111, 100]⟩, .string ⟨#[119, 114, 111, 110, 103]⟩, .string ⟨#[102, 97, 108, 115, 101]⟩, .string ⟨#[97, 103, 97, 105, 110]⟩, .string ⟨#[116, 111, 108, 100]⟩, .string ⟨#[115, 105, 108, 101, 110, 116]⟩]) (.int .i64 2)).run Tryd.prog w = .ok (.string ⟨#[102, 97, 108, 115, 101]⟩) w := by kernel_rfl
theorem wIdx3 (w : World) : (Instr.index 49 (.agg #[.string ⟨#[103, 111, 111, 100]⟩, .string ⟨#[119, 114, 111, 110, 103]⟩, .string ⟨#[102, 97, 108, 115, 101]⟩, .string ⟨#[97, 103, 97, 105, 110]⟩, .string ⟨#[116, 111, 108, 100]⟩, .string ⟨#[115, 105, 108, 101, 110, 116]⟩]) (.int .i64 3)).run Tryd.prog w = .ok (.string ⟨#[97, 103, 97, 105, 110]⟩) w := by kernel_rfl
theorem wIdx4 (w : World) : (Instr.index 49 (.agg #[.string ⟨#[103, 111, 111, 100]⟩, .string ⟨#[119, 114, 111, 110, 103]⟩, .string ⟨#[102, 97, 108, 115, 101]⟩, .string ⟨#[97, 103, 97, 105, 110]⟩, .string ⟨#[116, 111, 108, 100]⟩, .string ⟨#[115, 105, 108, 101, 110, 116]⟩]) (.int .i64 4)).run Tryd.prog w = .ok (.string ⟨#[116, 111, 108, 100]⟩) w := by kernel_rfl
theorem wIdx5 (w : World) : (Instr.index 49 (.agg #[.string ⟨#[103, 111, 111, 100]⟩, .string ⟨#[119, 114, 111, 110, 103]⟩, .string ⟨#[102, 97, 108, 115, 101]⟩, .string ⟨#[97, 103, 97, 105, 110]⟩, .string ⟨#[116, 111, 108, 100]⟩, .string ⟨#[115, 105, 108, 101, 110, 116]⟩]) (.int .i64 5)).run Tryd.prog w = .ok (.string ⟨#[115, 105, 108, 101, 110, 116]⟩) w := by kernel_rfl
set_option maxRecDepth 100000 in
set_option maxHeartbeats 3200000 in
theorem word_any (v : Int) (w : World) (hW : Wd w) : Calls Tryd.prog 9 #[.int .i64 v] w fun e w' => e = .returned (.string (wordR v)) ∧ w = w' := by
  by_cases h : 0 ≤ v ∧ v ≤ 5
  · rcases (show v = 0 ∨ v = 1 ∨ v = 2 ∨ v = 3 ∨ v = 4 ∨ v = 5 by omega) with rfl | rfl | rfl | rfl | rfl | rfl
    · have cc := hW.c0
      go_enter Tryd.func9, Tryd.ntmps9
      go_wp2_with fail
      refine (isVerdict_any (0) _).mono ?_
      rintro e1 w1 ⟨rfl, rfl⟩
      rw [show decide _ = true from decide_eq_true h]
      go_wp2_with fail
      go_ret
      exact ⟨rfl, rfl⟩
    · have cc := hW.c1
      go_enter Tryd.func9, Tryd.ntmps9
      go_wp2_with fail
      refine (isVerdict_any (1) _).mono ?_
      rintro e1 w1 ⟨rfl, rfl⟩
      rw [show decide _ = true from decide_eq_true h]
      go_wp2_with fail
      go_ret
      exact ⟨rfl, rfl⟩
    · have cc := hW.c2
      go_enter Tryd.func9, Tryd.ntmps9
      go_wp2_with fail
      refine (isVerdict_any (2) _).mono ?_
      rintro e1 w1 ⟨rfl, rfl⟩
      rw [show decide _ = true from decide_eq_true h]
      go_wp2_with fail
      go_ret
      exact ⟨rfl, rfl⟩
    · have cc := hW.c3
      go_enter Tryd.func9, Tryd.ntmps9
      go_wp2_with fail
      refine (isVerdict_any (3) _).mono ?_
      rintro e1 w1 ⟨rfl, rfl⟩
      rw [show decide _ = true from decide_eq_true h]
      go_wp2_with fail
      go_ret
      exact ⟨rfl, rfl⟩
    · have cc := hW.c4
      go_enter Tryd.func9, Tryd.ntmps9
      go_wp2_with fail
      refine (isVerdict_any (4) _).mono ?_
      rintro e1 w1 ⟨rfl, rfl⟩
      rw [show decide _ = true from decide_eq_true h]
      go_wp2_with fail
      go_ret
      exact ⟨rfl, rfl⟩
    · have cc := hW.c5
      go_enter Tryd.func9, Tryd.ntmps9
      go_wp2_with fail
      refine (isVerdict_any (5) _).mono ?_
      rintro e1 w1 ⟨rfl, rfl⟩
      rw [show decide _ = true from decide_eq_true h]
      go_wp2_with fail
      go_ret
      exact ⟨rfl, rfl⟩
  · have HR := Lib.hid (wordR_no h)
    go_enter Tryd.func9, Tryd.ntmps9
    go_wp2_with fail
    refine (isVerdict_any (v) _).mono ?_
    rintro e1 w1 ⟨rfl, rfl⟩
    rw [show decide _ = false from decide_eq_false h]
    go_wp2_with fail
    go_ret
    exact ⟨by rw [HR.out]; rfl, rfl⟩
set_option maxRecDepth 100000 in
set_option maxHeartbeats 3200000 in
theorem rword_any (v : Int) (w : World) : Calls Tryd.prog 10 #[.int .i64 v] w fun e w' => e = .returned (.string (wordR v)) ∧ w = w' := by
  by_cases h : 0 ≤ v ∧ v ≤ 5
  · rcases (show v = 0 ∨ v = 1 ∨ v = 2 ∨ v = 3 ∨ v = 4 ∨ v = 5 by omega) with rfl | rfl | rfl | rfl | rfl | rfl
    · have cc := wIdx0 w
      go_enter Tryd.func10, Tryd.ntmps10
      go_wp2_with fail
      refine (within4_any (0) 0 5 _).mono ?_
      rintro e1 w1 ⟨rfl, rfl⟩
      rw [show decide _ = true from decide_eq_true h]
      go_wp2_with fail
      go_ret
      exact ⟨rfl, rfl⟩
    · have cc := wIdx1 w
      go_enter Tryd.func10, Tryd.ntmps10
      go_wp2_with fail
      refine (within4_any (1) 0 5 _).mono ?_
      rintro e1 w1 ⟨rfl, rfl⟩
      rw [show decide _ = true from decide_eq_true h]
      go_wp2_with fail
      go_ret
      exact ⟨rfl, rfl⟩
    · have cc := wIdx2 w
      go_enter Tryd.func10, Tryd.ntmps10
      go_wp2_with fail
      refine (within4_any (2) 0 5 _).mono ?_
      rintro e1 w1 ⟨rfl, rfl⟩
      rw [show decide _ = true from decide_eq_true h]
      go_wp2_with fail
      go_ret
      exact ⟨rfl, rfl⟩
    · have cc := wIdx3 w
      go_enter Tryd.func10, Tryd.ntmps10
      go_wp2_with fail
      refine (within4_any (3) 0 5 _).mono ?_
      rintro e1 w1 ⟨rfl, rfl⟩
      rw [show decide _ = true from decide_eq_true h]
      go_wp2_with fail
      go_ret
      exact ⟨rfl, rfl⟩
    · have cc := wIdx4 w
      go_enter Tryd.func10, Tryd.ntmps10
      go_wp2_with fail
      refine (within4_any (4) 0 5 _).mono ?_
      rintro e1 w1 ⟨rfl, rfl⟩
      rw [show decide _ = true from decide_eq_true h]
      go_wp2_with fail
      go_ret
      exact ⟨rfl, rfl⟩
    · have cc := wIdx5 w
      go_enter Tryd.func10, Tryd.ntmps10
      go_wp2_with fail
      refine (within4_any (5) 0 5 _).mono ?_
      rintro e1 w1 ⟨rfl, rfl⟩
      rw [show decide _ = true from decide_eq_true h]
      go_wp2_with fail
      go_ret
      exact ⟨rfl, rfl⟩
  · have HR := Lib.hid (wordR_no h)
    go_enter Tryd.func10, Tryd.ntmps10
    go_wp2_with fail
    refine (within4_any (v) 0 5 _).mono ?_
    rintro e1 w1 ⟨rfl, rfl⟩
    rw [show decide _ = false from decide_eq_false h]
    go_wp2_with fail
    go_ret
    exact ⟨by rw [HR.out]; rfl, rfl⟩
/-- How often a number is among the first k. -/
def cnF (f : Nat → Int) (j : Int) : Nat → Nat
  | 0 => 0
  | k + 1 => cnF f j k + (if f k = j then 1 else 0)
theorem cn_le (f : Nat → Int) (j : Int) (k : Nat) : cnF f j k ≤ k := by
  induction k with
  | zero => exact Nat.le_refl _
  | succ k ih => unfold cnF; split <;> omega
def vdTo (f : Nat → Int) : Nat → Bool
  | 0 => true
  | k + 1 => vdTo f k && decide (0 ≤ f k ∧ f k ≤ 5)
theorem vd_no {f : Nat → Int} {k n : Nat} (hk : k < n) (h : ¬ (0 ≤ f k ∧ f k ≤ 5)) : vdTo f n = false := by
  induction n with
  | zero => omega
  | succ n ih =>
    by_cases e : k = n
    · subst e; simp [vdTo, h]
    · simp [vdTo, ih (by omega)]
def cntV (f : Nat → Int) (n : Nat) : Value := .agg #[.int .i64 (cnF f 0 n : Int), .int .i64 (cnF f 1 n : Int), .int .i64 (cnF f 2 n : Int), .int .i64 (cnF f 3 n : Int), .int .i64 (cnF f 4 n : Int), .int .i64 (cnF f 5 n : Int)]
def cntZ : Value := .agg #[.int .i64 0, .int .i64 0, .int .i64 0, .int .i64 0, .int .i64 0, .int .i64 0]
/-- What Count returns. -/
def cntR (f : Nat → Int) (n : Nat) : Value := if vdTo f n = true then .tuple #[cntV f n, .int .i64 0] else .tuple #[cntZ, .int .i64 7]
/-- The counts lie in a block. -/
def CC (W : World) (B : Nat) (f : Nat → Int) (k : Nat) : Prop :=
  W.cell? ⟨B, 0, none⟩ = some (.int .i64 (cnF f 0 k : Int)) ∧ W.cell? ⟨B, 1, none⟩ = some (.int .i64 (cnF f 1 k : Int)) ∧ W.cell? ⟨B, 2, none⟩ = some (.int .i64 (cnF f 2 k : Int)) ∧ W.cell? ⟨B, 3, none⟩ = some (.int .i64 (cnF f 3 k : Int)) ∧ W.cell? ⟨B, 4, none⟩ = some (.int .i64 (cnF f 4 k : Int)) ∧ W.cell? ⟨B, 5, none⟩ = some (.int .i64 (cnF f 5 k : Int)) ∧
  W.frozen? ⟨B, 0, none⟩ = false ∧ W.frozen? ⟨B, 1, none⟩ = false ∧ W.frozen? ⟨B, 2, none⟩ = false ∧ W.frozen? ⟨B, 3, none⟩ = false ∧ W.frozen? ⟨B, 4, none⟩ = false ∧ W.frozen? ⟨B, 5, none⟩ = false
theorem CC.below {W W' : World} {B k : Nat} {f : Nat → Int} (h : CC W B f k) (hb : Bl W W') : CC W' B f k := by
  obtain ⟨a0, a1, a2, a3, a4, a5, f0, f1, f2, f3, f4, f5⟩ := h
  have l := ltb a0
  exact ⟨kcb hb a0, kcb hb a1, kcb hb a2, kcb hb a3, kcb hb a4, kcb hb a5, fzb hb f0 l, fzb hb f1 l, fzb hb f2 l, fzb hb f3 l, fzb hb f4 l, fzb hb f5 l⟩
theorem cc_new (W : World) (f : Nat → Int) : CC (W.alloc (.cells #[.int .i64 0, .int .i64 0, .int .i64 0, .int .i64 0, .int .i64 0, .int .i64 0] 24)) W.heap.size f 0 := by
  refine ⟨?_, ?_, ?_, ?_, ?_, ?_, ?_, ?_, ?_, ?_, ?_, ?_⟩
  · simp [cnF]
  · simp [cnF]
  · simp [cnF]
  · simp [cnF]
  · simp [cnF]
  · simp [cnF]
  all_goals
    simp only [frozen?_alloc_cells]
    exact fz_new (Nat.le_refl _)
theorem CC.set0 {W : World} {B k : Nat} {f : Nat → Int} (h : CC W B f k) (e : f k = 0) : CC (W.setCell ⟨B, 0, none⟩ (.int .i64 ((cnF f 0 k : Int) + 1))) B f (k + 1) := by
  obtain ⟨a0, a1, a2, a3, a4, a5, f0, f1, f2, f3, f4, f5⟩ := h
  have l := ltb a0
  have up : (cnF f 0 (k + 1) : Int) = (cnF f 0 k : Int) + 1 := by rw [cnF, if_pos e]; omega
  have s1 : cnF f 1 (k + 1) = cnF f 1 k := by rw [cnF, if_neg (by omega)]; omega
  have s2 : cnF f 2 (k + 1) = cnF f 2 k := by rw [cnF, if_neg (by omega)]; omega
  have s3 : cnF f 3 (k + 1) = cnF f 3 k := by rw [cnF, if_neg (by omega)]; omega
  have s4 : cnF f 4 (k + 1) = cnF f 4 k := by rw [cnF, if_neg (by omega)]; omega
  have s5 : cnF f 5 (k + 1) = cnF f 5 k := by rw [cnF, if_neg (by omega)]; omega
  unfold CC
  simp only [World.frozen?_setCell, up, s1, s2, s3, s4, s5]
  exact ⟨by go_cell, by go_cell, by go_cell, by go_cell, by go_cell, by go_cell, f0, f1, f2, f3, f4, f5⟩
theorem CC.set1 {W : World} {B k : Nat} {f : Nat → Int} (h : CC W B f k) (e : f k = 1) : CC (W.setCell ⟨B, 1, none⟩ (.int .i64 ((cnF f 1 k : Int) + 1))) B f (k + 1) := by
  obtain ⟨a0, a1, a2, a3, a4, a5, f0, f1, f2, f3, f4, f5⟩ := h
  have l := ltb a0
  have up : (cnF f 1 (k + 1) : Int) = (cnF f 1 k : Int) + 1 := by rw [cnF, if_pos e]; omega
  have s0 : cnF f 0 (k + 1) = cnF f 0 k := by rw [cnF, if_neg (by omega)]; omega
  have s2 : cnF f 2 (k + 1) = cnF f 2 k := by rw [cnF, if_neg (by omega)]; omega
  have s3 : cnF f 3 (k + 1) = cnF f 3 k := by rw [cnF, if_neg (by omega)]; omega
  have s4 : cnF f 4 (k + 1) = cnF f 4 k := by rw [cnF, if_neg (by omega)]; omega
  have s5 : cnF f 5 (k + 1) = cnF f 5 k := by rw [cnF, if_neg (by omega)]; omega
  unfold CC
  simp only [World.frozen?_setCell, up, s0, s2, s3, s4, s5]
  exact ⟨by go_cell, by go_cell, by go_cell, by go_cell, by go_cell, by go_cell, f0, f1, f2, f3, f4, f5⟩
theorem CC.set2 {W : World} {B k : Nat} {f : Nat → Int} (h : CC W B f k) (e : f k = 2) : CC (W.setCell ⟨B, 2, none⟩ (.int .i64 ((cnF f 2 k : Int) + 1))) B f (k + 1) := by
  obtain ⟨a0, a1, a2, a3, a4, a5, f0, f1, f2, f3, f4, f5⟩ := h
  have l := ltb a0
  have up : (cnF f 2 (k + 1) : Int) = (cnF f 2 k : Int) + 1 := by rw [cnF, if_pos e]; omega
  have s0 : cnF f 0 (k + 1) = cnF f 0 k := by rw [cnF, if_neg (by omega)]; omega
  have s1 : cnF f 1 (k + 1) = cnF f 1 k := by rw [cnF, if_neg (by omega)]; omega
  have s3 : cnF f 3 (k + 1) = cnF f 3 k := by rw [cnF, if_neg (by omega)]; omega
  have s4 : cnF f 4 (k + 1) = cnF f 4 k := by rw [cnF, if_neg (by omega)]; omega
  have s5 : cnF f 5 (k + 1) = cnF f 5 k := by rw [cnF, if_neg (by omega)]; omega
  unfold CC
  simp only [World.frozen?_setCell, up, s0, s1, s3, s4, s5]
  exact ⟨by go_cell, by go_cell, by go_cell, by go_cell, by go_cell, by go_cell, f0, f1, f2, f3, f4, f5⟩
theorem CC.set3 {W : World} {B k : Nat} {f : Nat → Int} (h : CC W B f k) (e : f k = 3) : CC (W.setCell ⟨B, 3, none⟩ (.int .i64 ((cnF f 3 k : Int) + 1))) B f (k + 1) := by
  obtain ⟨a0, a1, a2, a3, a4, a5, f0, f1, f2, f3, f4, f5⟩ := h
  have l := ltb a0
  have up : (cnF f 3 (k + 1) : Int) = (cnF f 3 k : Int) + 1 := by rw [cnF, if_pos e]; omega
  have s0 : cnF f 0 (k + 1) = cnF f 0 k := by rw [cnF, if_neg (by omega)]; omega
  have s1 : cnF f 1 (k + 1) = cnF f 1 k := by rw [cnF, if_neg (by omega)]; omega
  have s2 : cnF f 2 (k + 1) = cnF f 2 k := by rw [cnF, if_neg (by omega)]; omega
  have s4 : cnF f 4 (k + 1) = cnF f 4 k := by rw [cnF, if_neg (by omega)]; omega
  have s5 : cnF f 5 (k + 1) = cnF f 5 k := by rw [cnF, if_neg (by omega)]; omega
  unfold CC
  simp only [World.frozen?_setCell, up, s0, s1, s2, s4, s5]
  exact ⟨by go_cell, by go_cell, by go_cell, by go_cell, by go_cell, by go_cell, f0, f1, f2, f3, f4, f5⟩
theorem CC.set4 {W : World} {B k : Nat} {f : Nat → Int} (h : CC W B f k) (e : f k = 4) : CC (W.setCell ⟨B, 4, none⟩ (.int .i64 ((cnF f 4 k : Int) + 1))) B f (k + 1) := by
  obtain ⟨a0, a1, a2, a3, a4, a5, f0, f1, f2, f3, f4, f5⟩ := h
  have l := ltb a0
  have up : (cnF f 4 (k + 1) : Int) = (cnF f 4 k : Int) + 1 := by rw [cnF, if_pos e]; omega
  have s0 : cnF f 0 (k + 1) = cnF f 0 k := by rw [cnF, if_neg (by omega)]; omega
  have s1 : cnF f 1 (k + 1) = cnF f 1 k := by rw [cnF, if_neg (by omega)]; omega
  have s2 : cnF f 2 (k + 1) = cnF f 2 k := by rw [cnF, if_neg (by omega)]; omega
  have s3 : cnF f 3 (k + 1) = cnF f 3 k := by rw [cnF, if_neg (by omega)]; omega
  have s5 : cnF f 5 (k + 1) = cnF f 5 k := by rw [cnF, if_neg (by omega)]; omega
  unfold CC
  simp only [World.frozen?_setCell, up, s0, s1, s2, s3, s5]
  exact ⟨by go_cell, by go_cell, by go_cell, by go_cell, by go_cell, by go_cell, f0, f1, f2, f3, f4, f5⟩
theorem CC.set5 {W : World} {B k : Nat} {f : Nat → Int} (h : CC W B f k) (e : f k = 5) : CC (W.setCell ⟨B, 5, none⟩ (.int .i64 ((cnF f 5 k : Int) + 1))) B f (k + 1) := by
  obtain ⟨a0, a1, a2, a3, a4, a5, f0, f1, f2, f3, f4, f5⟩ := h
  have l := ltb a0
  have up : (cnF f 5 (k + 1) : Int) = (cnF f 5 k : Int) + 1 := by rw [cnF, if_pos e]; omega
  have s0 : cnF f 0 (k + 1) = cnF f 0 k := by rw [cnF, if_neg (by omega)]; omega
  have s1 : cnF f 1 (k + 1) = cnF f 1 k := by rw [cnF, if_neg (by omega)]; omega
  have s2 : cnF f 2 (k + 1) = cnF f 2 k := by rw [cnF, if_neg (by omega)]; omega
  have s3 : cnF f 3 (k + 1) = cnF f 3 k := by rw [cnF, if_neg (by omega)]; omega
  have s4 : cnF f 4 (k + 1) = cnF f 4 k := by rw [cnF, if_neg (by omega)]; omega
  unfold CC
  simp only [World.frozen?_setCell, up, s0, s1, s2, s3, s4]
  exact ⟨by go_cell, by go_cell, by go_cell, by go_cell, by go_cell, by go_cell, f0, f1, f2, f3, f4, f5⟩
theorem blsetZ {w W : World} {B o : Nat} {v : Value} (h : Bl w W) (hB : w.heap.size ≤ B) : Bl w (W.setCell ⟨B, o, none⟩ v) := by
  have := h.size
  go_grown
theorem CC.other {W : World} {B B' o k : Nat} {f : Nat → Int} {v : Value} (h : CC W B f k) (e : B ≠ B') : CC (W.setCell ⟨B', o, none⟩ v) B f k := by
  obtain ⟨a0, a1, a2, a3, a4, a5, f0, f1, f2, f3, f4, f5⟩ := h
  unfold CC
  simp only [World.frozen?_setCell]
  exact ⟨by go_cell, by go_cell, by go_cell, by go_cell, by go_cell, by go_cell, f0, f1, f2, f3, f4, f5⟩
set_option maxRecDepth 100000 in
set_option maxHeartbeats 3200000 in
theorem count_anyB (A : Option Addr) (n c : Nat) (f : Nat → Int) (w : World) (hA : Sn w A n f) (hn : n ≤ 1000) : Calls Tryd.prog 5 #[.slice A n c] w fun e w' => e = .returned (cntR f n) ∧ Bl w w' := by
  have HA := Lib.hid hA
  clear hA
  go_enter Tryd.func5, Tryd.ntmps5
  go_wp2_with fail
  obtain ⟨W, hW⟩ : ∃ W, W = (w.alloc (.cells #[.int .i64 0, .int .i64 0, .int .i64 0, .int .i64 0, .int .i64 0, .int .i64 0] 24)).alloc (.cells #[.int .i64 0, .int .i64 0, .int .i64 0, .int .i64 0, .int .i64 0, .int .i64 0] 24) := ⟨_, rfl⟩
  have BW : Bl w W := by rw [hW]; go_grown
  have zW : W.heap.size = w.heap.size + 2 := by rw [hW]; simp
  have HC0 : CC W w.heap.size f 0 := by rw [hW]; exact (cc_new w f).below (by go_grown)
  have HC1 : CC W (w.heap.size + 1) f 0 := by rw [hW]; have h := cc_new (w.alloc (.cells #[.int .i64 0, .int .i64 0, .int .i64 0, .int .i64 0, .int .i64 0, .int .i64 0] 24)) f; rw [World.size_alloc] at h; exact h
  rw [← hW]
  clear hW
  go_loopw [9] (fun i wr => ∃ k : Nat, k ≤ n ∧ i = .int .i64 k ∧ Hid (vdTo f k = true) ∧ Hid (CC wr w.heap.size f 0) ∧ Hid (CC wr (w.heap.size + 1) f k) ∧ Bl w wr) (fun i _ => n - (RowKit.intOf i).toNat)
  case atStart => exact ⟨0, Nat.zero_le _, rfl, rfl, HC0, HC1, BW⟩
  case round =>
    obtain ⟨k, hk, rfl, HV, HZ, HK, hB⟩ := hrel
    have zB := hB.size
    have HBB := Lib.hid hB
    by_cases hlt : k < n
    · obtain ⟨b, off, rfl, hbb, hc⟩ := (HA.out.below hB) (by omega)
      have c0 := hc k hlt
      clear hc
      have HVN := Lib.hid (fun (q : ¬ (0 ≤ f k ∧ f k ≤ 5)) => vd_no hlt q)
      have HVS := Lib.hid (fun (q : 0 ≤ f k ∧ f k ≤ 5) => (show vdTo f (k + 1) = true by rw [vdTo, HV.out, decide_eq_true q]; rfl))
      obtain ⟨v, hv⟩ : ∃ v, v = f k := ⟨_, rfl⟩
      have HF := Lib.hid hv
      rw [← hv] at c0 HVN HVS
      clear hv
      by_cases h : 0 ≤ v ∧ v ≤ 5
      · have HS := Lib.hid (HVS.out h)
        rcases (show v = 0 ∨ v = 1 ∨ v = 2 ∨ v = 3 ∨ v = 4 ∨ v = 5 by omega) with rfl | rfl | rfl | rfl | rfl | rfl
        · obtain ⟨a0, a1, a2, a3, a4, a5, f0, f1, f2, f3, f4, f5⟩ := HK.out
          have la := ltb a0
          have hle := cn_le f 0 k
          go_wp2_with fail
          refine (isVerdict_any (0) _).mono ?_
          rintro e1 w1 ⟨rfl, rfl⟩
          rw [show decide _ = true from decide_eq_true h]
          go_wp2_with fail
          go_roundw
          case rel => exact ⟨k + 1, by omega, by go_num, HS.out, HZ.out.other (by omega), HK.out.set0 HF.out.symm, blsetZ HBB.out (by omega)⟩
          case measure => simp [RowKit.intOf]; omega
        · obtain ⟨a0, a1, a2, a3, a4, a5, f0, f1, f2, f3, f4, f5⟩ := HK.out
          have la := ltb a0
          have hle := cn_le f 1 k
          go_wp2_with fail
          refine (isVerdict_any (1) _).mono ?_
          rintro e1 w1 ⟨rfl, rfl⟩
          rw [show decide _ = true from decide_eq_true h]
          go_wp2_with fail
          go_roundw
          case rel => exact ⟨k + 1, by omega, by go_num, HS.out, HZ.out.other (by omega), HK.out.set1 HF.out.symm, blsetZ HBB.out (by omega)⟩
          case measure => simp [RowKit.intOf]; omega
        · obtain ⟨a0, a1, a2, a3, a4, a5, f0, f1, f2, f3, f4, f5⟩ := HK.out
          have la := ltb a0
          have hle := cn_le f 2 k
          go_wp2_with fail
          refine (isVerdict_any (2) _).mono ?_
          rintro e1 w1 ⟨rfl, rfl⟩
          rw [show decide _ = true from decide_eq_true h]
          go_wp2_with fail
          go_roundw
          case rel => exact ⟨k + 1, by omega, by go_num, HS.out, HZ.out.other (by omega), HK.out.set2 HF.out.symm, blsetZ HBB.out (by omega)⟩
          case measure => simp [RowKit.intOf]; omega
        · obtain ⟨a0, a1, a2, a3, a4, a5, f0, f1, f2, f3, f4, f5⟩ := HK.out
          have la := ltb a0
          have hle := cn_le f 3 k
          go_wp2_with fail
          refine (isVerdict_any (3) _).mono ?_
          rintro e1 w1 ⟨rfl, rfl⟩
          rw [show decide _ = true from decide_eq_true h]
          go_wp2_with fail
          go_roundw
          case rel => exact ⟨k + 1, by omega, by go_num, HS.out, HZ.out.other (by omega), HK.out.set3 HF.out.symm, blsetZ HBB.out (by omega)⟩
          case measure => simp [RowKit.intOf]; omega
        · obtain ⟨a0, a1, a2, a3, a4, a5, f0, f1, f2, f3, f4, f5⟩ := HK.out
          have la := ltb a0
          have hle := cn_le f 4 k
          go_wp2_with fail
          refine (isVerdict_any (4) _).mono ?_
          rintro e1 w1 ⟨rfl, rfl⟩
          rw [show decide _ = true from decide_eq_true h]
          go_wp2_with fail
          go_roundw
          case rel => exact ⟨k + 1, by omega, by go_num, HS.out, HZ.out.other (by omega), HK.out.set4 HF.out.symm, blsetZ HBB.out (by omega)⟩
          case measure => simp [RowKit.intOf]; omega
        · obtain ⟨a0, a1, a2, a3, a4, a5, f0, f1, f2, f3, f4, f5⟩ := HK.out
          have la := ltb a0
          have hle := cn_le f 5 k
          go_wp2_with fail
          refine (isVerdict_any (5) _).mono ?_
          rintro e1 w1 ⟨rfl, rfl⟩
          rw [show decide _ = true from decide_eq_true h]
          go_wp2_with fail
          go_roundw
          case rel => exact ⟨k + 1, by omega, by go_num, HS.out, HZ.out.other (by omega), HK.out.set5 HF.out.symm, blsetZ HBB.out (by omega)⟩
          case measure => simp [RowKit.intOf]; omega
      · have HS := Lib.hid (show cntR f n = .tuple #[cntZ, .int .i64 7] by rw [cntR, if_neg (by rw [HVN.out h]; decide)])
        obtain ⟨a0, a1, a2, a3, a4, a5, f0, f1, f2, f3, f4, f5⟩ := HZ.out
        have la := ltb a0
        simp [cnF] at a0 a1 a2 a3 a4 a5
        go_wp2_with fail
        refine (isVerdict_any (v) _).mono ?_
        rintro e1 w1 ⟨rfl, rfl⟩
        rw [show decide _ = false from decide_eq_false h]
        go_wp2_with fail
        obtain ⟨V, hV⟩ : ∃ V, V = ((((((wr.setCell ⟨w.heap.size, 0, none⟩ (.int .i64 0)).setCell ⟨w.heap.size, 1, none⟩ (.int .i64 0)).setCell ⟨w.heap.size, 2, none⟩ (.int .i64 0)).setCell ⟨w.heap.size, 3, none⟩ (.int .i64 0)).setCell ⟨w.heap.size, 4, none⟩ (.int .i64 0)).setCell ⟨w.heap.size, 5, none⟩ (.int .i64 0)) := ⟨_, rfl⟩
        have BV : Bl w V := by rw [hV]; exact blsetZ (blsetZ (blsetZ (blsetZ (blsetZ (blsetZ HBB.out (Nat.le_refl _)) (Nat.le_refl _)) (Nat.le_refl _)) (Nat.le_refl _)) (Nat.le_refl _)) (Nat.le_refl _)
        have k0 : V.cell? ⟨w.heap.size, 0, none⟩ = some (.int .i64 0) := by rw [hV]; go_cell
        have k1 : V.cell? ⟨w.heap.size, 1, none⟩ = some (.int .i64 0) := by rw [hV]; go_cell
        have k2 : V.cell? ⟨w.heap.size, 2, none⟩ = some (.int .i64 0) := by rw [hV]; go_cell
        have k3 : V.cell? ⟨w.heap.size, 3, none⟩ = some (.int .i64 0) := by rw [hV]; go_cell
        have k4 : V.cell? ⟨w.heap.size, 4, none⟩ = some (.int .i64 0) := by rw [hV]; go_cell
        have k5 : V.cell? ⟨w.heap.size, 5, none⟩ = some (.int .i64 0) := by rw [hV]; go_cell
        rw [← hV]
        refine bodyPost_ret (v := .tuple #[cntZ, .int .i64 7]) ?_ rfl ⟨by rw [HS.out], BV⟩
        simp [results, Tryd.results5, go_sem, cntZ, k0, k1, k2, k3, k4, k5]
    · obtain rfl : k = n := by omega
      have HS := Lib.hid (show cntR f k = .tuple #[cntV f k, .int .i64 0] by rw [cntR, if_pos HV.out])
      obtain ⟨a0, a1, a2, a3, a4, a5, f0, f1, f2, f3, f4, f5⟩ := HZ.out
      have la := ltb a0
      simp [cnF] at a0 a1 a2 a3 a4 a5
      obtain ⟨b0, b1, b2, b3, b4, b5, g0, g1, g2, g3, g4, g5⟩ := HK.out
      have lb := ltb b0
      go_wp2_with fail
      obtain ⟨V, hV⟩ : ∃ V, V = ((((((wr.setCell ⟨w.heap.size, 0, none⟩ (.int .i64 (cnF f 0 k : Int))).setCell ⟨w.heap.size, 1, none⟩ (.int .i64 (cnF f 1 k : Int))).setCell ⟨w.heap.size, 2, none⟩ (.int .i64 (cnF f 2 k : Int))).setCell ⟨w.heap.size, 3, none⟩ (.int .i64 (cnF f 3 k : Int))).setCell ⟨w.heap.size, 4, none⟩ (.int .i64 (cnF f 4 k : Int))).setCell ⟨w.heap.size, 5, none⟩ (.int .i64 (cnF f 5 k : Int))) := ⟨_, rfl⟩
      have BV : Bl w V := by rw [hV]; exact blsetZ (blsetZ (blsetZ (blsetZ (blsetZ (blsetZ HBB.out (Nat.le_refl _)) (Nat.le_refl _)) (Nat.le_refl _)) (Nat.le_refl _)) (Nat.le_refl _)) (Nat.le_refl _)
      have k0 : V.cell? ⟨w.heap.size, 0, none⟩ = some (.int .i64 (cnF f 0 k : Int)) := by rw [hV]; go_cell
      have k1 : V.cell? ⟨w.heap.size, 1, none⟩ = some (.int .i64 (cnF f 1 k : Int)) := by rw [hV]; go_cell
      have k2 : V.cell? ⟨w.heap.size, 2, none⟩ = some (.int .i64 (cnF f 2 k : Int)) := by rw [hV]; go_cell
      have k3 : V.cell? ⟨w.heap.size, 3, none⟩ = some (.int .i64 (cnF f 3 k : Int)) := by rw [hV]; go_cell
      have k4 : V.cell? ⟨w.heap.size, 4, none⟩ = some (.int .i64 (cnF f 4 k : Int)) := by rw [hV]; go_cell
      have k5 : V.cell? ⟨w.heap.size, 5, none⟩ = some (.int .i64 (cnF f 5 k : Int)) := by rw [hV]; go_cell
      rw [← hV]
      refine bodyPost_ret (v := .tuple #[cntV f k, .int .i64 0]) ?_ rfl ⟨by rw [HS.out], BV⟩
      simp [results, Tryd.results5, go_sem, cntV, k0, k1, k2, k3, k4, k5]
set_option maxRecDepth 100000 in
set_option maxHeartbeats 3200000 in
theorem rcount_anyB (A : Option Addr) (n c : Nat) (f : Nat → Int) (w : World) (hA : Sn w A n f) (hn : n ≤ 1000) : Calls Tryd.prog 6 #[.slice A n c] w fun e w' => e = .returned (cntR f n) ∧ Bl w w' := by
  have HA := Lib.hid hA
  clear hA
  go_enter Tryd.func6, Tryd.ntmps6
  go_wp2_with fail
  obtain ⟨W, hW⟩ : ∃ W, W = (w.alloc (.cells #[.int .i64 0, .int .i64 0, .int .i64 0, .int .i64 0, .int .i64 0, .int .i64 0] 24)).alloc (.cells #[.int .i64 0, .int .i64 0, .int .i64 0, .int .i64 0, .int .i64 0, .int .i64 0] 24) := ⟨_, rfl⟩
  have BW : Bl w W := by rw [hW]; go_grown
  have zW : W.heap.size = w.heap.size + 2 := by rw [hW]; simp
  have HC0 : CC W w.heap.size f 0 := by rw [hW]; exact (cc_new w f).below (by go_grown)
  have HC1 : CC W (w.heap.size + 1) f 0 := by rw [hW]; have h := cc_new (w.alloc (.cells #[.int .i64 0, .int .i64 0, .int .i64 0, .int .i64 0, .int .i64 0, .int .i64 0] 24)) f; rw [World.size_alloc] at h; exact h
  rw [← hW]
  clear hW
  go_loopw [9] (fun i wr => ∃ k : Nat, k ≤ n ∧ i = .int .i64 k ∧ Hid (vdTo f k = true) ∧ Hid (CC wr w.heap.size f 0) ∧ Hid (CC wr (w.heap.size + 1) f k) ∧ Bl w wr) (fun i _ => n - (RowKit.intOf i).toNat)
  case atStart => exact ⟨0, Nat.zero_le _, rfl, rfl, HC0, HC1, BW⟩
  case round =>
    obtain ⟨k, hk, rfl, HV, HZ, HK, hB⟩ := hrel
    have zB := hB.size
    have HBB := Lib.hid hB
    by_cases hlt : k < n
    · obtain ⟨b, off, rfl, hbb, hc⟩ := (HA.out.below hB) (by omega)
      have c0 := hc k hlt
      clear hc
      have HVN := Lib.hid (fun (q : ¬ (0 ≤ f k ∧ f k ≤ 5)) => vd_no hlt q)
      have HVS := Lib.hid (fun (q : 0 ≤ f k ∧ f k ≤ 5) => (show vdTo f (k + 1) = true by rw [vdTo, HV.out, decide_eq_true q]; rfl))
      obtain ⟨v, hv⟩ : ∃ v, v = f k := ⟨_, rfl⟩
      have HF := Lib.hid hv
      rw [← hv] at c0 HVN HVS
      clear hv
      by_cases h : 0 ≤ v ∧ v ≤ 5
      · have HS := Lib.hid (HVS.out h)
        rcases (show v = 0 ∨ v = 1 ∨ v = 2 ∨ v = 3 ∨ v = 4 ∨ v = 5 by omega) with rfl | rfl | rfl | rfl | rfl | rfl
        · obtain ⟨a0, a1, a2, a3, a4, a5, f0, f1, f2, f3, f4, f5⟩ := HK.out
          have la := ltb a0
          have hle := cn_le f 0 k
          go_wp2_with fail
          refine (within4_any (0) 0 5 _).mono ?_
          rintro e1 w1 ⟨rfl, rfl⟩
          rw [show decide _ = true from decide_eq_true h]
          go_wp2_with fail
          go_roundw
          case rel => exact ⟨k + 1, by omega, by go_num, HS.out, HZ.out.other (by omega), HK.out.set0 HF.out.symm, blsetZ HBB.out (by omega)⟩
          case measure => simp [RowKit.intOf]; omega
        · obtain ⟨a0, a1, a2, a3, a4, a5, f0, f1, f2, f3, f4, f5⟩ := HK.out
          have la := ltb a0
          have hle := cn_le f 1 k
          go_wp2_with fail
          refine (within4_any (1) 0 5 _).mono ?_
          rintro e1 w1 ⟨rfl, rfl⟩
          rw [show decide _ = true from decide_eq_true h]
          go_wp2_with fail
          go_roundw
          case rel => exact ⟨k + 1, by omega, by go_num, HS.out, HZ.out.other (by omega), HK.out.set1 HF.out.symm, blsetZ HBB.out (by omega)⟩
          case measure => simp [RowKit.intOf]; omega
        · obtain ⟨a0, a1, a2, a3, a4, a5, f0, f1, f2, f3, f4, f5⟩ := HK.out
          have la := ltb a0
          have hle := cn_le f 2 k
          go_wp2_with fail
          refine (within4_any (2) 0 5 _).mono ?_
          rintro e1 w1 ⟨rfl, rfl⟩
          rw [show decide _ = true from decide_eq_true h]
          go_wp2_with fail
          go_roundw
          case rel => exact ⟨k + 1, by omega, by go_num, HS.out, HZ.out.other (by omega), HK.out.set2 HF.out.symm, blsetZ HBB.out (by omega)⟩
          case measure => simp [RowKit.intOf]; omega
        · obtain ⟨a0, a1, a2, a3, a4, a5, f0, f1, f2, f3, f4, f5⟩ := HK.out
          have la := ltb a0
          have hle := cn_le f 3 k
          go_wp2_with fail
          refine (within4_any (3) 0 5 _).mono ?_
          rintro e1 w1 ⟨rfl, rfl⟩
          rw [show decide _ = true from decide_eq_true h]
          go_wp2_with fail
          go_roundw
          case rel => exact ⟨k + 1, by omega, by go_num, HS.out, HZ.out.other (by omega), HK.out.set3 HF.out.symm, blsetZ HBB.out (by omega)⟩
          case measure => simp [RowKit.intOf]; omega
        · obtain ⟨a0, a1, a2, a3, a4, a5, f0, f1, f2, f3, f4, f5⟩ := HK.out
          have la := ltb a0
          have hle := cn_le f 4 k
          go_wp2_with fail
          refine (within4_any (4) 0 5 _).mono ?_
          rintro e1 w1 ⟨rfl, rfl⟩
          rw [show decide _ = true from decide_eq_true h]
          go_wp2_with fail
          go_roundw
          case rel => exact ⟨k + 1, by omega, by go_num, HS.out, HZ.out.other (by omega), HK.out.set4 HF.out.symm, blsetZ HBB.out (by omega)⟩
          case measure => simp [RowKit.intOf]; omega
        · obtain ⟨a0, a1, a2, a3, a4, a5, f0, f1, f2, f3, f4, f5⟩ := HK.out
          have la := ltb a0
          have hle := cn_le f 5 k
          go_wp2_with fail
          refine (within4_any (5) 0 5 _).mono ?_
          rintro e1 w1 ⟨rfl, rfl⟩
          rw [show decide _ = true from decide_eq_true h]
          go_wp2_with fail
          go_roundw
          case rel => exact ⟨k + 1, by omega, by go_num, HS.out, HZ.out.other (by omega), HK.out.set5 HF.out.symm, blsetZ HBB.out (by omega)⟩
          case measure => simp [RowKit.intOf]; omega
      · have HS := Lib.hid (show cntR f n = .tuple #[cntZ, .int .i64 7] by rw [cntR, if_neg (by rw [HVN.out h]; decide)])
        obtain ⟨a0, a1, a2, a3, a4, a5, f0, f1, f2, f3, f4, f5⟩ := HZ.out
        have la := ltb a0
        simp [cnF] at a0 a1 a2 a3 a4 a5
        go_wp2_with fail
        refine (within4_any (v) 0 5 _).mono ?_
        rintro e1 w1 ⟨rfl, rfl⟩
        rw [show decide _ = false from decide_eq_false h]
        go_wp2_with fail
        obtain ⟨V, hV⟩ : ∃ V, V = ((((((wr.setCell ⟨w.heap.size, 0, none⟩ (.int .i64 0)).setCell ⟨w.heap.size, 1, none⟩ (.int .i64 0)).setCell ⟨w.heap.size, 2, none⟩ (.int .i64 0)).setCell ⟨w.heap.size, 3, none⟩ (.int .i64 0)).setCell ⟨w.heap.size, 4, none⟩ (.int .i64 0)).setCell ⟨w.heap.size, 5, none⟩ (.int .i64 0)) := ⟨_, rfl⟩
        have BV : Bl w V := by rw [hV]; exact blsetZ (blsetZ (blsetZ (blsetZ (blsetZ (blsetZ HBB.out (Nat.le_refl _)) (Nat.le_refl _)) (Nat.le_refl _)) (Nat.le_refl _)) (Nat.le_refl _)) (Nat.le_refl _)
        have k0 : V.cell? ⟨w.heap.size, 0, none⟩ = some (.int .i64 0) := by rw [hV]; go_cell
        have k1 : V.cell? ⟨w.heap.size, 1, none⟩ = some (.int .i64 0) := by rw [hV]; go_cell
        have k2 : V.cell? ⟨w.heap.size, 2, none⟩ = some (.int .i64 0) := by rw [hV]; go_cell
        have k3 : V.cell? ⟨w.heap.size, 3, none⟩ = some (.int .i64 0) := by rw [hV]; go_cell
        have k4 : V.cell? ⟨w.heap.size, 4, none⟩ = some (.int .i64 0) := by rw [hV]; go_cell
        have k5 : V.cell? ⟨w.heap.size, 5, none⟩ = some (.int .i64 0) := by rw [hV]; go_cell
        rw [← hV]
        refine bodyPost_ret (v := .tuple #[cntZ, .int .i64 7]) ?_ rfl ⟨by rw [HS.out], BV⟩
        simp [results, Tryd.results6, go_sem, cntZ, k0, k1, k2, k3, k4, k5]
    · obtain rfl : k = n := by omega
      have HS := Lib.hid (show cntR f k = .tuple #[cntV f k, .int .i64 0] by rw [cntR, if_pos HV.out])
      obtain ⟨a0, a1, a2, a3, a4, a5, f0, f1, f2, f3, f4, f5⟩ := HZ.out
      have la := ltb a0
      simp [cnF] at a0 a1 a2 a3 a4 a5
      obtain ⟨b0, b1, b2, b3, b4, b5, g0, g1, g2, g3, g4, g5⟩ := HK.out
      have lb := ltb b0
      go_wp2_with fail
      obtain ⟨V, hV⟩ : ∃ V, V = ((((((wr.setCell ⟨w.heap.size, 0, none⟩ (.int .i64 (cnF f 0 k : Int))).setCell ⟨w.heap.size, 1, none⟩ (.int .i64 (cnF f 1 k : Int))).setCell ⟨w.heap.size, 2, none⟩ (.int .i64 (cnF f 2 k : Int))).setCell ⟨w.heap.size, 3, none⟩ (.int .i64 (cnF f 3 k : Int))).setCell ⟨w.heap.size, 4, none⟩ (.int .i64 (cnF f 4 k : Int))).setCell ⟨w.heap.size, 5, none⟩ (.int .i64 (cnF f 5 k : Int))) := ⟨_, rfl⟩
      have BV : Bl w V := by rw [hV]; exact blsetZ (blsetZ (blsetZ (blsetZ (blsetZ (blsetZ HBB.out (Nat.le_refl _)) (Nat.le_refl _)) (Nat.le_refl _)) (Nat.le_refl _)) (Nat.le_refl _)) (Nat.le_refl _)
      have k0 : V.cell? ⟨w.heap.size, 0, none⟩ = some (.int .i64 (cnF f 0 k : Int)) := by rw [hV]; go_cell
      have k1 : V.cell? ⟨w.heap.size, 1, none⟩ = some (.int .i64 (cnF f 1 k : Int)) := by rw [hV]; go_cell
      have k2 : V.cell? ⟨w.heap.size, 2, none⟩ = some (.int .i64 (cnF f 2 k : Int)) := by rw [hV]; go_cell
      have k3 : V.cell? ⟨w.heap.size, 3, none⟩ = some (.int .i64 (cnF f 3 k : Int)) := by rw [hV]; go_cell
      have k4 : V.cell? ⟨w.heap.size, 4, none⟩ = some (.int .i64 (cnF f 4 k : Int)) := by rw [hV]; go_cell
      have k5 : V.cell? ⟨w.heap.size, 5, none⟩ = some (.int .i64 (cnF f 5 k : Int)) := by rw [hV]; go_cell
      rw [← hV]
      refine bodyPost_ret (v := .tuple #[cntV f k, .int .i64 0]) ?_ rfl ⟨by rw [HS.out], BV⟩
      simp [results, Tryd.results6, go_sem, cntV, k0, k1, k2, k3, k4, k5]
end Go.Proofs.YtajlfflbphbjnaaDoor
