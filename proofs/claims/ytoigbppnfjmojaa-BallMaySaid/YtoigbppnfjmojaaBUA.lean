/-
  May in pure terms: the kinds that are allowed.
-/
import Derived.Test.YtoigbppnfjmojaaBA
namespace Go.Proofs.Ytoigbppnfjmojaa

/-- The kinds up to k that are allowed. -/
def mayL (M : Mst) (s : Bal) (t : Int) : Nat → List Int
  | 0 => []
  | k + 1 => if alw M s ((k : Int) + 1) t then mayL M s t k ++ [(k : Int) + 1] else mayL M s t k
theorem mayL_len (M : Mst) (s : Bal) (t : Int) (k : Nat) : (mayL M s t k).length ≤ k := by
  induction k with
  | zero => exact Nat.le_refl _
  | succ k ih =>
    rw [mayL]
    split
    · rw [List.length_append, List.length_singleton]; omega
    · omega
theorem mayL_mem (M : Mst) (s : Bal) (t : Int) (x : Int) (k : Nat) : x ∈ mayL M s t k ↔ 1 ≤ x ∧ x ≤ k ∧ alw M s x t := by
  induction k with
  | zero => simp only [mayL, List.not_mem_nil, false_iff]; omega
  | succ k ih =>
    rw [mayL]
    by_cases h : alw M s ((k : Int) + 1) t
    · rw [if_pos h, List.mem_append, List.mem_singleton, ih]
      constructor
      · rintro (⟨a, b, c⟩ | rfl)
        · exact ⟨a, by omega, c⟩
        · exact ⟨by omega, by omega, h⟩
      · rintro ⟨a, b, c⟩
        by_cases e : x = (k : Int) + 1
        · exact .inr e
        · exact .inl ⟨a, by omega, c⟩
    · rw [if_neg h, ih]
      constructor
      · rintro ⟨a, b, c⟩
        exact ⟨a, by omega, c⟩
      · rintro ⟨a, b, c⟩
        by_cases e : x = (k : Int) + 1
        · rw [e] at c; exact absurd c h
        · exact ⟨a, by omega, c⟩
/-- What May returns. -/
def mayR (M : Mst) (s : Bal) (t : Int) : List Int × Int := if VM M ∧ VS s then (if s.t ≤ t ∧ isT t then (mayL M s t 6, 0) else ([], 7)) else ([], 1)
theorem stp_may {M : Mst} {s : Bal} {t k : Int} (h0 : s.t ≤ t) (h1 : isT t) (hk0 : 1 ≤ k) (hk1 : k ≤ 6) : stp M s ⟨t, k, 0⟩ = if alw M s k t then (doe s ⟨t, k, 0⟩, 0) else (Bal.zero, 9) := by
  unfold stp
  rw [if_pos ⟨⟨h1.1, h1.2, hk0, hk1, Int.le_refl 0, (by show (0:Int) ≤ 1000; decide), .inr rfl⟩, h0⟩]
/-- Whether a number is among the first n. -/
def hasN (f : Nat → Int) (x : Int) : Nat → Bool
  | 0 => false
  | j + 1 => hasN f x j || decide (f j = x)
theorem hasN_iff (f : Nat → Int) (x : Int) (n : Nat) : hasN f x n = true ↔ ∃ j, j < n ∧ f j = x := by
  induction n with
  | zero => simp [hasN]
  | succ n ih =>
    rw [hasN, Bool.or_eq_true, ih, decide_eq_true_eq]
    constructor
    · rintro (⟨j, h, e⟩ | h)
      · exact ⟨j, by omega, e⟩
      · exact ⟨n, by omega, h⟩
    · rintro ⟨j, h, e⟩
      by_cases q : j = n
      · subst q; exact .inr e
      · exact .inl ⟨j, by omega, e⟩
theorem hasN_list (l : List Int) (x : Int) : hasN (fun j => l.getD j 0) x l.length = decide (x ∈ l) := by
  rw [Bool.eq_iff_iff, hasN_iff, decide_eq_true_eq, List.mem_iff_getElem]
  constructor
  · rintro ⟨j, h, e⟩
    exact ⟨j, h, by rw [← e]; simp [h]⟩
  · rintro ⟨j, h, e⟩
    exact ⟨j, h, by rw [← e]; simp [h]⟩
theorem has_may (M : Mst) (s : Bal) (t : Int) (k : Nat) (h0 : 1 ≤ k) (h1 : k ≤ 6) : hasN (fun j => (mayL M s t 6).getD j 0) (k : Int) (mayL M s t 6).length = decide (alw M s (k : Int) t) := by
  rw [hasN_list, Bool.eq_iff_iff, decide_eq_true_eq, decide_eq_true_eq, mayL_mem]
  constructor
  · rintro ⟨_, _, h⟩; exact h
  · intro h; exact ⟨by omega, by omega, h⟩
end Go.Proofs.Ytoigbppnfjmojaa
