/-
  Contracts of package gun and of its reference: air, numbers, roots.
-/
import Derived.Test.YthemoomfbbccjaaGA
import Derived.BigQuiet
import Derived.Deep.QuietTactic
namespace Go.Proofs.Ythemoomfbbccjaa
open Go.RowKit
set_option linter.unusedSimpArgs false
set_option linter.unusedVariables false

abbrev encA (a : Air) : Value := .agg #[.int .i64 a.s, .int .i64 a.w]
abbrev encP (p : Pt) : Value := .agg #[.int .i64 p.x, .int .i64 p.y]
abbrev encS (s : Sho) : Value := .agg #[.int .i64 s.p.x, .int .i64 s.p.y, .int .i64 s.lo, .int .i64 s.hi]
/-- A slice of places reads as a function. -/
def Pl (w : World) (A : Option Addr) (n : Nat) (R : Nat → Pt) : Prop :=
  0 < n → ∃ b off, A = some ⟨b, off, none⟩ ∧ b < w.heap.size ∧ ∀ j, j < n →
    w.cell? ⟨b, off + j * 2, none⟩ = some (.int .i64 (R j).x) ∧ w.cell? ⟨b, off + j * 2 + 1, none⟩ = some (.int .i64 (R j).y)
/-- A slice of shots reads as a function. -/
def Shl (w : World) (A : Option Addr) (n : Nat) (R : Nat → Sho) : Prop :=
  0 < n → ∃ b off, A = some ⟨b, off, none⟩ ∧ b < w.heap.size ∧ ∀ j, j < n →
    w.cell? ⟨b, off + j * 4, none⟩ = some (.int .i64 (R j).p.x) ∧ w.cell? ⟨b, off + j * 4 + 1, none⟩ = some (.int .i64 (R j).p.y) ∧ w.cell? ⟨b, off + j * 4 + 2, none⟩ = some (.int .i64 (R j).lo) ∧ w.cell? ⟨b, off + j * 4 + 3, none⟩ = some (.int .i64 (R j).hi)
theorem kcb {W w1 : World} (hb : Bl W w1) {b o : Nat} {v : Value} (h : W.cell? ⟨b, o, none⟩ = some v) : w1.cell? ⟨b, o, none⟩ = some v :=
  (hb.cell (p := ⟨b, o, none⟩) (World.block_lt_of_cell? W ⟨b, o, none⟩ h)).trans h
theorem cellUp {w : World} {x : Obj} {b o : Nat} {v : Value} (h : w.cell? ⟨b, o, none⟩ = some v) : (w.alloc x).cell? ⟨b, o, none⟩ = some v :=
  kcb (W := w) (by go_grown) h
theorem ltb {w : World} {b o : Nat} {v : Value} (h : w.cell? ⟨b, o, none⟩ = some v) : b < w.heap.size := World.block_lt_of_cell? w ⟨b, o, none⟩ h
theorem fzb {W w1 : World} (hb : Bl W w1) {b o : Nat} (h : W.frozen? ⟨b, o, none⟩ = false) (hl : b < W.heap.size) : w1.frozen? ⟨b, o, none⟩ = false := (hb.frozen (p := ⟨b, o, none⟩) hl).trans h
theorem fz_new {w : World} {b o : Nat} (h : w.heap.size ≤ b) : w.frozen? ⟨b, o, none⟩ = false := by
  have : w.heap[b]? = none := by simp [h]
  simp [World.frozen?, this]
theorem Pl.below {w w' : World} {A : Option Addr} {n : Nat} {R : Nat → Pt} (h : Pl w A n R) (hb : Bl w w') : Pl w' A n R := fun hn => by
  obtain ⟨b, off, e, hlt, hc⟩ := h hn
  exact ⟨b, off, e, Nat.lt_of_lt_of_le hlt hb.size, fun j hj => by
    obtain ⟨c0, c1⟩ := hc j hj
    exact ⟨kcb hb c0, kcb hb c1⟩⟩
theorem Shl.below {w w' : World} {A : Option Addr} {n : Nat} {R : Nat → Sho} (h : Shl w A n R) (hb : Bl w w') : Shl w' A n R := fun hn => by
  obtain ⟨b, off, e, hlt, hc⟩ := h hn
  exact ⟨b, off, e, Nat.lt_of_lt_of_le hlt hb.size, fun j hj => by
    obtain ⟨c0, c1, c2, c3⟩ := hc j hj
    exact ⟨kcb hb c0, kcb hb c1, kcb hb c2, kcb hb c3⟩⟩

/-- Two numbers and an error, a number and an error, a truth and an error. -/
def r3 (r : Int × Int × Int) : Value := .tuple #[.int .i64 r.1, .int .i64 r.2.1, .int .i64 r.2.2]
def r2 (r : Int × Int) : Value := .tuple #[.int .i64 r.1, .int .i64 r.2]
def rB (r : Bool × Int) : Value := .tuple #[.bool r.1, .int .i64 r.2]
theorem r2_eq {a b : Int} {r : Int × Int} (h1 : r.1 = a) (h2 : r.2 = b) : Ending.returned (.tuple #[.int .i64 a, .int .i64 b]) = .returned (r2 r) := by
  subst h1 h2; rfl
theorem r3_eq {a b c : Int} {r : Int × Int × Int} (h1 : r.1 = a) (h2 : r.2.1 = b) (h3 : r.2.2 = c) : Ending.returned (.tuple #[.int .i64 a, .int .i64 b, .int .i64 c]) = .returned (r3 r) := by
  subst h1 h2 h3; rfl

set_option maxHeartbeats 400000 in
theorem within5_any (n lo hi : Int) (w : World) : Calls Try.prog 25 #[.int .i64 n, .int .i64 lo, .int .i64 hi] w fun e w' => e = .returned (.bool (decide (lo ≤ n ∧ n ≤ hi))) ∧ w = w' := by
  go_enter Try.func25, Try.ntmps25
  go_wp2
  all_goals (go_ret; exact ⟨ret_bool (by rw [Bool.eq_iff_iff]; simp; try omega), rfl⟩)
set_option maxHeartbeats 400000 in
theorem isC_any (n : Int) (w : World) : Calls Try.prog 49 #[.int .i64 n] w fun e w' => e = .returned (.bool (decide (isC n))) ∧ w = w' := by
  go_enter Try.func49, Try.ntmps49
  go_wp2
  all_goals (go_ret; exact ⟨ret_bool (by rw [Bool.eq_iff_iff, decide_eq_true_eq (p := isC n)]; simp [isC]; try omega), rfl⟩)
set_option maxHeartbeats 400000 in
theorem isLag_any (n : Int) (w : World) : Calls Try.prog 53 #[.int .i64 n] w fun e w' => e = .returned (.bool (decide (0 ≤ n ∧ n ≤ 1000000))) ∧ w = w' := by
  go_enter Try.func53, Try.ntmps53
  go_wp2
  all_goals (go_ret; exact ⟨ret_bool (by rw [Bool.eq_iff_iff]; simp; try omega), rfl⟩)
set_option maxHeartbeats 1600000 in
theorem validAir_any (a : Air) (w : World) : Calls Try.prog 17 #[encA a] w fun e w' => e = .returned (.bool (decide (VA a))) ∧ Bl w w' := by
  go_enter Try.func17, Try.ntmps17
  go_wp2
  all_goals (go_ret; exact ⟨ret_bool (by rw [Bool.eq_iff_iff, decide_eq_true_eq (p := VA a)]; first | (simp [VA] at *; done) | (simp [VA] at *; omega)), by go_grown⟩)
set_option maxHeartbeats 1600000 in
theorem rvalidAir_any (a : Air) (w : World) : Calls Try.prog 40 #[encA a] w fun e w' => e = .returned (.bool (decide (VA a))) ∧ Bl w w' := by
  go_enter Try.func40, Try.ntmps40
  go_wp2_with (go_at_call 25; refine (within5_any _ _ _ _).mono ?_; rintro e w' ⟨rfl, rfl⟩)
  all_goals (go_ret; exact ⟨ret_bool (by rw [Bool.eq_iff_iff, decide_eq_true_eq (p := VA a)]; first | (simp [VA] at *; done) | (simp [VA] at *; omega)), by go_grown⟩)
set_option maxHeartbeats 1600000 in
theorem place5_any (p : Pt) (w : World) : Calls Try.prog 42 #[encP p] w fun e w' => e = .returned (.bool (decide (isP p))) ∧ Bl w w' := by
  go_enter Try.func42, Try.ntmps42
  go_wp2_with (go_at_call 25; refine (within5_any _ _ _ _).mono ?_; rintro e w' ⟨rfl, rfl⟩)
  all_goals (go_ret; exact ⟨ret_bool (by rw [Bool.eq_iff_iff, decide_eq_true_eq (p := isP p)]; first | (simp [isP, isC] at *; done) | (simp [isP, isC] at *; omega)), by go_grown⟩)

theorem dq_eq {n d : Int} (h : 0 < d) : (n.tmod d < 0 → n.tdiv d - 1 = n / d) ∧ (0 ≤ n.tmod d → n.tdiv d = n / d) := by
  have e := Int.mul_tdiv_add_tmod n d
  have h1 := Int.tmod_lt_of_pos n h
  have h2 : -d < n.tmod d := by
    have := Int.tmod_lt_of_pos (-n) h
    rw [Int.neg_tmod] at this; omega
  constructor
  · intro hr
    refine ((Int.ediv_emod_unique h).2 (⟨?_, ?_, ?_⟩ : n.tmod d + d + d * (n.tdiv d - 1) = n ∧ 0 ≤ n.tmod d + d ∧ n.tmod d + d < d)).1.symm
    · rw [Int.mul_sub]; omega
    · omega
    · omega
  · intro hr
    refine ((Int.ediv_emod_unique h).2 (⟨?_, ?_, ?_⟩ : n.tmod d + d * n.tdiv d = n ∧ 0 ≤ n.tmod d ∧ n.tmod d < d)).1.symm
    · omega
    · omega
    · omega
theorem dq_bd {n d B : Int} (hB : 0 ≤ B) (h : 0 < d) (h1 : -B ≤ n) (h2 : n ≤ B) : -B ≤ n.tdiv d ∧ n.tdiv d ≤ B := by
  have : (n.tdiv d).natAbs ≤ n.natAbs := by rw [Int.natAbs_tdiv]; exact Nat.div_le_self _ _
  omega
theorem eq_bd {n d B : Int} (hB : 0 ≤ B) (h : 0 < d) (h1 : -B ≤ n) (h2 : n ≤ B) : -B ≤ n / d ∧ n / d ≤ B := by
  constructor
  · refine Int.le_ediv_of_mul_le h ?_
    have : B * 1 ≤ B * d := Int.mul_le_mul_of_nonneg_left (by omega) hB
    rw [Int.neg_mul]; omega
  · refine Int.ediv_le_of_le_mul h ?_
    have : B * 1 ≤ B * d := Int.mul_le_mul_of_nonneg_left (by omega) hB
    omega
set_option maxHeartbeats 800000 in
theorem downG_any (n d : Int) (w : World) (h : 0 < d) (hd : d ≤ 4000000000000000000) (h1 : -4000000000000000000 ≤ n) (h2 : n ≤ 4000000000000000000) :
    Calls Try.prog 37 #[.int .i64 n, .int .i64 d] w fun e w' => e = .returned (.int .i64 (n / d)) ∧ w = w' := by
  obtain ⟨b1, b2⟩ := dq_bd (n := n) (d := d) (B := 4000000000000000000) (by omega) h (by omega) h2
  have e := dq_eq (n := n) h
  have m1 : -4000000000000000000 ≤ n.tmod d ∧ n.tmod d ≤ 4000000000000000000 := by
    have h1 := Int.tmod_lt_of_pos n h
    have h2 := Int.tmod_lt_of_pos (-n) h
    rw [Int.neg_tmod] at h2; omega
  obtain ⟨m1, m2⟩ := m1
  have E := Lib.hid e
  clear e
  by_cases hr : n.tmod d < 0
  · by_cases hn : 0 ≤ n
    · have := Int.tmod_nonneg d hn; omega
    · go_enter Try.func37, Try.ntmps37
      go_wp2
      go_ret
      exact ⟨ret_int (E.out.1 hr), rfl⟩
  · by_cases hn : 0 ≤ n
    · have e1 : n.tdiv d = n / d := E.out.2 (by omega)
      have e2 := Int.emod_nonneg n (show d ≠ 0 by omega)
      go_enter Try.func37, Try.ntmps37
      go_wp2
      go_ret
      exact ⟨rfl, rfl⟩
    · go_enter Try.func37, Try.ntmps37
      go_wp2
      go_ret
      exact ⟨ret_int (E.out.2 (by omega)), rfl⟩
set_option maxHeartbeats 800000 in
theorem upG_any (n d : Int) (w : World) (h : 0 < d) (hd : d ≤ 4000000000000000000) (h1 : -4000000000000000000 ≤ n) (h2 : n ≤ 4000000000000000000) :
    Calls Try.prog 60 #[.int .i64 n, .int .i64 d] w fun e w' => e = .returned (.int .i64 (-((-n) / d))) ∧ w = w' := by
  obtain ⟨b1, b2⟩ := eq_bd (n := -n) (d := d) (B := 4000000000000000000) (by omega) h (by omega) (by omega)
  obtain ⟨z, hz⟩ : ∃ z, z = (-n) / d := ⟨_, rfl⟩
  rw [← hz] at b1 b2 ⊢
  have HZ := Lib.hid hz
  clear hz
  go_enter Try.func60, Try.ntmps60
  go_wp2_with fail
  refine (downG_any _ _ _ h hd (by omega) (by omega)).mono ?_
  rintro e w1 ⟨rfl, rfl⟩
  rw [← HZ.out]
  go_wp2
  go_ret
  exact ⟨rfl, rfl⟩

set_option maxHeartbeats 800000 in
theorem speed_any (t : Int) (w : World) : Calls Try.prog 16 #[.int .i64 t] w fun e w' => e = .returned (r2 (speedR t)) ∧ w = w' := by
  by_cases h : -50000 ≤ t ∧ t ≤ 50000
  · have hs : speedR t = (331300 + 606 * t / 1000, 0) := by rw [speedR, if_pos h]
    have Hs := Lib.hid hs
    obtain ⟨h1, h2⟩ := h
    clear hs
    go_enter Try.func16, Try.ntmps16
    go_wp2_with fail
    refine (downG_any _ _ _ (by omega) (by omega) (by omega) (by omega)).mono ?_
    rintro e w1 ⟨rfl, rfl⟩
    go_wp2
    go_ret2
    exact ⟨by rw [Hs.out]; rfl, rfl⟩
  · have hs : speedR t = (0, 7) := by rw [speedR, if_neg h]
    have Hs := Lib.hid hs
    clear hs
    by_cases h1 : t < -50000
    · go_enter Try.func16, Try.ntmps16
      go_wp2_with fail
      go_ret2
      exact ⟨by rw [Hs.out]; rfl, rfl⟩
    · have h2 : 50000 < t := by omega
      clear h
      go_enter Try.func16, Try.ntmps16
      go_wp2_with fail
      go_ret2
      exact ⟨by rw [Hs.out]; rfl, rfl⟩
theorem speed_ref (t : Int) (h : -50000 ≤ t) : (606 * (t + 50000)).tdiv 1000 = 606 * t / 1000 + 30300 := by
  rw [Int.tdiv_eq_ediv_of_nonneg (by omega)]
  omega