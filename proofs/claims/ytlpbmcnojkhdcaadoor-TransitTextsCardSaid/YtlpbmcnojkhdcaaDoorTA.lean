/-
  Contracts of package transit and of its reference: numbers and names.
-/
import Derived.Test.YtlpbmcnojkhdcaaDoorA
namespace Go.Proofs.YtlpbmcnojkhdcaaDoor
open Go.RowKit
set_option linter.unusedSimpArgs false
set_option linter.unusedVariables false

theorem ret_two {k l : IntKind} {a b c d : Int} (h : a = b) (g : c = d) : Ending.returned (.tuple #[.int k a, .int l c]) = .returned (.tuple #[.int k b, .int l d]) := by rw [h, g]

/-- A number lies between two others. -/
def inB (n lo hi : Int) : Bool := decide (lo ≤ n) && decide (n ≤ hi)
theorem inB_iff {n lo hi : Int} : inB n lo hi = true ↔ lo ≤ n ∧ n ≤ hi := by simp [inB]
theorem inB_no {n lo hi : Int} : inB n lo hi = false ↔ ¬ (lo ≤ n ∧ n ≤ hi) := by rw [← inB_iff]; simp

set_option maxHeartbeats 400000 in
theorem within3_any (n lo hi : Int) (w : World) :
    Calls Tryd.prog 31 #[.int .i64 n, .int .i64 lo, .int .i64 hi] w fun e w' => e = .returned (.bool (inB n lo hi)) ∧ w = w' := by
  go_enter Tryd.func31, Tryd.ntmps31
  go_wp2
  all_goals (go_ret; exact ⟨ret_bool (by simp [inB]; try omega), rfl⟩)

theorem dq_eq {n d : Int} (h : 0 < d) : (n.tmod d < 0 → n.tdiv d - 1 = n / d) ∧ (0 ≤ n.tmod d → n.tdiv d = n / d) := by
  have e := Int.mul_tdiv_add_tmod n d
  have h1 := Int.tmod_lt_of_pos n h
  have h2 : -d < n.tmod d := by
    have := Int.tmod_lt_of_pos (-n) h
    rw [Int.neg_tmod] at this; omega
  constructor
  · intro hr
    refine ((Int.ediv_emod_unique h).2 (⟨?_, ?_, ?_⟩ : n.tmod d + d + d * (n.tdiv d - 1) = n ∧ 0 ≤ n.tmod d + d ∧ n.tmod d + d < d)).1.symm
    · rw [Int.mul_sub]; omega
    · omega
    · omega
  · intro hr
    refine ((Int.ediv_emod_unique h).2 (⟨?_, ?_, ?_⟩ : n.tmod d + d * n.tdiv d = n ∧ 0 ≤ n.tmod d ∧ n.tmod d < d)).1.symm
    · omega
    · omega
    · omega
theorem dq_bd {n d B : Int} (hB : 0 ≤ B) (h : 0 < d) (h1 : -B ≤ n) (h2 : n ≤ B) : -B ≤ n.tdiv d ∧ n.tdiv d ≤ B := by
  have : (n.tdiv d).natAbs ≤ n.natAbs := by rw [Int.natAbs_tdiv]; exact Nat.div_le_self _ _
  omega

set_option maxHeartbeats 800000 in
theorem quoDown_any (n d : Int) (w : World) (h : 0 < d) (hd : d ≤ 4000000000000000000) (h1 : -4000000000000000000 ≤ n) (h2 : n ≤ 4000000000000000000) :
    Calls Tryd.prog 24 #[.int .i64 n, .int .i64 d] w fun e w' => e = .returned (.int .i64 (n / d)) ∧ w = w' := by
  obtain ⟨b1, b2⟩ := dq_bd (n := n) (d := d) (B := 4000000000000000000) (by omega) h (by omega) h2
  have e := dq_eq (n := n) h
  have m1 : -4000000000000000000 ≤ n.tmod d ∧ n.tmod d ≤ 4000000000000000000 := by
    have h1 := Int.tmod_lt_of_pos n h
    have h2 := Int.tmod_lt_of_pos (-n) h
    rw [Int.neg_tmod] at h2; omega
  obtain ⟨m1, m2⟩ := m1
  have E := Lib.hid e
  clear e
  by_cases hr : n.tmod d < 0
  · by_cases hn : 0 ≤ n
    · have := Int.tmod_nonneg d hn; omega
    · go_enter Tryd.func24, Tryd.ntmps24
      go_wp2
      go_ret
      exact ⟨ret_int (E.out.1 hr), rfl⟩
  · by_cases hn : 0 ≤ n
    · have e1 : n.tdiv d = n / d := E.out.2 (by omega)
      have e2 := Int.emod_nonneg n (show d ≠ 0 by omega)
      go_enter Tryd.func24, Tryd.ntmps24
      go_wp2
      go_ret
      exact ⟨rfl, rfl⟩
    · go_enter Tryd.func24, Tryd.ntmps24
      go_wp2
      go_ret
      exact ⟨ret_int (E.out.2 (by omega)), rfl⟩

/-- The number folded. -/
def fold3 (d : Int) : Int := d - (d + 43200000) / 86400000 * 86400000
def foldF (d : Int) : Int × Int := if -1000000000000 ≤ d ∧ d ≤ 1000000000000 then (fold3 d, 0) else (0, 7)
def rI (r : Int × Int) : Value := .tuple #[.int .i64 r.1, .int .i64 r.2]

set_option maxHeartbeats 800000 in
theorem folded_any (d : Int) (w : World) :
    Calls Tryd.prog 11 #[.int .i64 d] w fun e w' => e = .returned (rI (foldF d)) ∧ w = w' := by
  by_cases h : -1000000000000 ≤ d ∧ d ≤ 1000000000000
  · obtain ⟨h1, h2⟩ := h
    have hb : -20000 ≤ (d + 43200000) / 86400000 ∧ (d + 43200000) / 86400000 ≤ 20000 := by omega
    obtain ⟨hb1, hb2⟩ := hb
    have hs : foldF d = (d - (d + 43200000) / 86400000 * 86400000, 0) := by rw [foldF, if_pos ⟨h1, h2⟩]; rfl
    have Hs := Lib.hid hs
    clear hs
    go_enter Tryd.func11, Tryd.ntmps11
    go_wp2_with fail
    refine (quoDown_any _ _ _ (by omega) (by omega) (by omega) (by omega)).mono ?_
    rintro e w1 ⟨rfl, rfl⟩
    go_wp2
    go_ret2
    exact ⟨by rw [Hs.out]; rfl, rfl⟩
  · have hs : foldF d = (0, 7) := by rw [foldF, if_neg h]
    have Hs := Lib.hid hs
    clear hs
    by_cases h1 : d < -1000000000000
    · go_enter Tryd.func11, Tryd.ntmps11
      go_wp2_with fail
      go_ret2
      exact ⟨by rw [Hs.out]; rfl, rfl⟩
    · have h2 : 1000000000000 < d := by omega
      clear h
      go_enter Tryd.func11, Tryd.ntmps11
      go_wp2_with fail
      go_ret2
      exact ⟨by rw [Hs.out]; rfl, rfl⟩

theorem fold_ref (d : Int) : (if d.tmod 86400000 < -43200000 then d.tmod 86400000 + 86400000 else if 43200000 ≤ d.tmod 86400000 then d.tmod 86400000 - 86400000 else d.tmod 86400000) = fold3 d := by
  have e := Int.mul_tdiv_add_tmod d 86400000
  have h1 := Int.tmod_lt_of_pos d (b := 86400000) (by omega)
  have h2 := Int.tmod_lt_of_pos (-d) (b := 86400000) (by omega)
  rw [Int.neg_tmod] at h2
  unfold fold3
  generalize d.tmod 86400000 = r at *
  generalize d.tdiv 86400000 = q at *
  (repeat' split) <;> omega
