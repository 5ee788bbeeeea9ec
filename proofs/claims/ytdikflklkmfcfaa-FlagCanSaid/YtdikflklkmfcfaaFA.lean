/-
  Package flag, pure: sets of flags as bits, what a flag means, hoists as a tree.
-/
import Derived.Test.YtdikflklkmfcfaaKB
import Derived.Lib.QuoteBits
namespace Go.Proofs.Ytdikflklkmfcfaa
open Go.RowKit
set_option linter.unusedSimpArgs false
set_option linter.unusedVariables false

/-- A flag is in a set. -/
def hasB (L f : Nat) : Bool := L.testBit f
def clr (L f : Nat) : Nat := L ^^^ (L &&& 2 ^ f)
def pls (L f : Nat) : Nat := L ||| 2 ^ f
theorem hasB_div (L f : Nat) : hasB L f = decide (L / 2 ^ f % 2 = 1) := by rw [hasB, Nat.testBit_eq_decide_div_mod_eq]
theorem hasB_clr (L f g : Nat) : hasB (clr L f) g = (hasB L g && decide (f ≠ g)) := by
  unfold hasB clr
  rw [Nat.testBit_xor, Nat.testBit_and, Nat.testBit_two_pow]
  by_cases e : f = g <;> cases L.testBit g <;> simp [e]
theorem hasB_pls (L f g : Nat) : hasB (pls L f) g = (hasB L g || decide (f = g)) := by
  unfold hasB pls
  rw [Nat.testBit_or, Nat.testBit_two_pow]
theorem clr_lt {L f : Nat} (h : L < 8192) : clr L f < 8192 := by
  have e : (8192 : Nat) = 2 ^ 13 := by decide
  rw [e] at h ⊢
  exact Nat.xor_lt_two_pow h (Nat.lt_of_le_of_lt Nat.and_le_left h)
theorem pls_lt {L f : Nat} (h : L < 8192) (hf : f < 13) : pls L f < 8192 := by
  have e : (8192 : Nat) = 2 ^ 13 := by decide
  rw [e] at h ⊢
  exact Nat.or_lt_two_pow h (Nat.pow_lt_pow_right (by decide) hf)
theorem pow_f {f : Nat} (h : f < 13) : 2 ^ f < 8192 := by
  have e : (8192 : Nat) = 2 ^ 13 := by decide
  rw [e]; exact Nat.pow_lt_pow_right (by decide) h
theorem bits_andNot {L f : Nat} (h : L < 8192) (hf : f < 13) : bits .andNot .i64 (L : Int) ((2 ^ f : Nat) : Int) = (clr L f : Int) := by
  have hp := pow_f hf
  show IntKind.i64.wrap ((BitVec.ofInt 64 (L : Int) &&& ~~~BitVec.ofInt 64 ((2 ^ f : Nat) : Int)).toNat : Int) = _
  rw [BitVec.toNat_and, BitVec.toNat_not, ofInt_u64 L (by omega), ofInt_u64 (2 ^ f) (by omega)]
  have e : L &&& (2 ^ 64 - 1 - 2 ^ f) = clr L f := by
    refine Nat.eq_of_testBit_eq fun i => ?_
    have hi := hasB_clr L f i
    unfold hasB at hi
    rw [hi, Nat.testBit_and, show 2 ^ 64 - 1 - 2 ^ f = 2 ^ 64 - (2 ^ f + 1) by omega, Nat.testBit_two_pow_sub_succ (by omega), Nat.testBit_two_pow]
    by_cases hi64 : i < 64
    · simp [hi64]
    · have : L.testBit i = false := Nat.testBit_lt_two_pow (Nat.lt_of_lt_of_le (show L < 2 ^ 64 by omega) (Nat.pow_le_pow_right (by decide) (by omega)))
      simp [this]
  rw [e]
  exact Lib.wrap_i64_small _ (by have := clr_lt (f := f) h; omega)
theorem bits_or {L f : Nat} (h : L < 8192) (hf : f < 13) : bits .or .i64 (L : Int) ((2 ^ f : Nat) : Int) = (pls L f : Int) := by
  have hp := pow_f hf
  show IntKind.i64.wrap ((BitVec.ofInt 64 (L : Int) ||| BitVec.ofInt 64 ((2 ^ f : Nat) : Int)).toNat : Int) = _
  rw [BitVec.toNat_or, ofInt_u64 L (by omega), ofInt_u64 (2 ^ f) (by omega)]
  exact Lib.wrap_i64_small _ (by have := pls_lt h hf; unfold pls at this; omega)
theorem bits_and1 (n : Nat) (h : n < 8192) : bits .and .i64 (n : Int) 1 = ((n % 2 : Nat) : Int) := by
  show IntKind.i64.wrap ((BitVec.ofInt 64 (n : Int) &&& BitVec.ofInt 64 ((1 : Nat) : Int)).toNat : Int) = _
  rw [BitVec.toNat_and, ofInt_u64 n (by omega), ofInt_u64 1 (by omega), Nat.and_one_is_mod]
  exact Lib.wrap_i64_small _ (by omega)

/-- A flag may stand at a place (from 0). -/
def mayB (f p : Nat) : Bool := decide (f < 10 + p)
/-- What a flag means below digits. -/
def digF (f : Nat) (d : List Nat) : Nat := if f < 10 then f else d.getD (f - 10) 0
theorem digF_lt {f : Nat} {d : List Nat} (hf : f < 13) (h : ∀ x ∈ d, x < 10) : digF f d < 10 := by
  unfold digF
  split
  · assumption
  · by_cases e : f - 10 < d.length
    · rw [List.getD_eq_getElem?_getD, List.getElem?_eq_getElem e]; exact h _ (List.getElem_mem e)
    · rw [List.getD_eq_getElem?_getD, List.getElem?_eq_none (by omega)]; decide
/-- A flag may hang at the next place. -/
def canB (want : Nat → Nat → Bool) (h d : List Nat) (L f : Nat) : Bool := hasB L f && mayB f h.length && want h.length (digF f d)
/-- The hoists below some flags, in ascending order. -/
def tre (want : Nat → Nat → Bool) : Nat → List Nat → List Nat → Nat → List (List Nat)
  | 0, h, _, _ => [h]
  | r + 1, h, d, L => (List.range 13).flatMap fun f => if canB want h d L f then tre want r (h ++ [f]) (d ++ [digF f d]) (clr L f) else []
def treTo (want : Nat → Nat → Bool) (r : Nat) (h d : List Nat) (L k : Nat) : List (List Nat) :=
  (List.range k).flatMap fun f => if canB want h d L f then tre want r (h ++ [f]) (d ++ [digF f d]) (clr L f) else []
theorem treTo_succ (want : Nat → Nat → Bool) (r : Nat) (h d : List Nat) (L k : Nat) : treTo want r h d L (k + 1) = treTo want r h d L k ++ (if canB want h d L k then tre want r (h ++ [k]) (d ++ [digF k d]) (clr L k) else []) := by
  simp [treTo, List.range_succ, List.flatMap_append]
theorem treTo_yes {want : Nat → Nat → Bool} {r : Nat} {h d : List Nat} {L k : Nat} (c : canB want h d L k = true) : treTo want r h d L (k + 1) = treTo want r h d L k ++ tre want r (h ++ [k]) (d ++ [digF k d]) (clr L k) := by rw [treTo_succ, if_pos c]
theorem treTo_no {want : Nat → Nat → Bool} {r : Nat} {h d : List Nat} {L k : Nat} (c : canB want h d L k = false) : treTo want r h d L (k + 1) = treTo want r h d L k := by rw [treTo_succ, c]; simp
theorem tre_to (want : Nat → Nat → Bool) (r : Nat) (h d : List Nat) (L : Nat) : tre want (r + 1) h d L = treTo want r h d L 13 := rfl
/-- What is left of the tree behind the flags below k. -/
theorem treTo_pre (want : Nat → Nat → Bool) (r : Nat) (h d : List Nat) (L : Nat) {k n : Nat} (hk : k ≤ n) : ∃ rest, treTo want r h d L n = treTo want r h d L k ++ rest := by
  induction n with
  | zero => obtain rfl : k = 0 := by omega
            exact ⟨[], by simp⟩
  | succ n ih =>
    by_cases e : k = n + 1
    · subst e; exact ⟨[], by simp⟩
    · obtain ⟨rest, hr⟩ := ih (by omega)
      exact ⟨rest ++ _, by rw [treTo_succ, hr, List.append_assoc]⟩
/-- The cells of a list of numbers. -/
def inN (l : List Nat) : List Value := l.map fun (x : Nat) => Value.int .i64 (x : Int)
theorem inN_len (l : List Nat) : (inN l).length = l.length := by simp [inN]
theorem inN_one (l : List Nat) : ∀ u ∈ inN l, u.oneCell' = true := by
  intro u hu
  obtain ⟨x, _, rfl⟩ := List.mem_map.1 hu
  rfl
def gI (l : List Nat) (j : Nat) : Int := ((l.getD j 0 : Nat) : Int)
theorem inN_at {l : List Nat} {j : Nat} (h : j < l.length) : (inN l)[j]? = some (.int .i64 (gI l j)) := by
  rw [inN, List.getElem?_map, List.getElem?_eq_getElem h, gI, List.getD_eq_getElem?_getD, List.getElem?_eq_getElem h]; rfl
end Go.Proofs.Ytdikflklkmfcfaa
