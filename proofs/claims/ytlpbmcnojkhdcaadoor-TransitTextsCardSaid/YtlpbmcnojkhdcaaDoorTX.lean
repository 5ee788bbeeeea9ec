/-
  Words of a line, numerals, the first line of a text: plain lists of bytes.
-/
import Derived.Test.YtlpbmcnojkhdcaaDoorRows
import Derived.Lib.SplitLaws
import Derived.Lib.AtoiAllCases
import Derived.Lib.IndexLaws
import Derived.Lib.IndexBytes
import Derived.Lib.ItoaLen
import Derived.Lib.Hide
namespace Go.Proofs.YtlpbmcnojkhdcaaDoor
open Go.Lib
set_option linter.unusedSimpArgs false
set_option linter.unusedVariables false

abbrev Str := List UInt8
theorem ba_ext {a b : ByteArray} (h : a.data.toList = b.data.toList) : a = b := by
  obtain ⟨⟨x⟩⟩ := a; obtain ⟨⟨y⟩⟩ := b; simp at h; rw [h]
theorem ib_at (c : UInt8) : ∀ (p r : Str), c ∉ p → indexByte (p ++ c :: r) c = p.length
  | [], r, _ => by simp [indexByte]
  | b :: p, r, h => by
    have hb : b ≠ c := fun e => h (by simp [e])
    have ih := ib_at c p r (fun e => h (by simp [e]))
    simp only [List.cons_append, indexByte, ih]
    rw [if_neg (by simpa using hb), if_neg (by rw [beq_iff_eq]; omega)]
    simp
theorem ib_no (c : UInt8) : ∀ (p : Str), c ∉ p → indexByte p c = -1
  | [], _ => rfl
  | b :: p, h => by
    have hb : b ≠ c := fun e => h (by simp [e])
    simp only [indexByte, ib_no c p (fun e => h (by simp [e]))]
    rw [if_neg (by simpa using hb)]
    rfl
/-- The words of a line. -/
def splitS (s : Str) : List Str := splitK [32] 0 (count s [32]) s
theorem spl_cons (p r : Str) (h : (32 : UInt8) ∉ p) : splitS (p ++ 32 :: r) = p :: splitS r := by
  have hi : index (p ++ 32 :: r) [32] = (p.length : Nat) := by rw [index_one]; exact ib_at 32 p r h
  have hd : (p ++ 32 :: r).drop (p.length + 1) = r := by
    rw [List.drop_append, List.drop_eq_nil_of_le (by omega)]; simp
  have hc := count_hit (s := p ++ 32 :: r) (sub := [32]) (by simp) hi
  rw [show (p.length + ([32] : Str).length) = p.length + 1 from rfl, hd] at hc
  unfold splitS
  rw [hc, Nat.add_comm 1, splitK, hi, if_neg (by rw [beq_iff_eq]; omega)]
  simp only [Int.toNat_natCast, Nat.add_zero]
  rw [show (p.length + ([32] : Str).length) = p.length + 1 from rfl, hd]
  simp
theorem spl_one (p : Str) (h : (32 : UInt8) ∉ p) : splitS p = [p] := by
  have hi : index p [32] = -1 := by rw [index_one]; exact ib_no 32 p h
  unfold splitS
  rw [count_miss hi]
  rfl
/-- The words of a line, as they are made. -/
def words (t : ByteArray) : List ByteArray := splitB ⟨#[32]⟩ 0 (countB t ⟨#[32]⟩) t
theorem words_data (t : ByteArray) : (words t).map (·.data.toList) = splitS t.data.toList := splitB_data _ _ _ _

theorem dec_range (u : Nat) : ∀ c ∈ decDigits u, 48 ≤ c.toNat ∧ c.toNat ≤ 57 := by
  induction u using Nat.strongRecOn with
  | _ u ih =>
    intro c hc
    rw [decDigits] at hc
    split at hc
    · rw [List.mem_singleton] at hc; subst hc
      rw [UInt8.toNat_ofNat']; omega
    · rw [List.mem_append] at hc
      rcases hc with hc | hc
      · exact ih (u / 10) (by omega) c hc
      · rw [List.mem_singleton] at hc; subst hc
        rw [UInt8.toNat_ofNat']; omega
theorem dec_ne (u : Nat) : decDigits u ≠ [] := by
  rw [decDigits]; split <;> simp
theorem itoa_range (v : Int) : ∀ c ∈ itoa v, (48 ≤ c.toNat ∧ c.toNat ≤ 57) ∨ c.toNat = 45 := by
  intro c hc
  unfold itoa at hc
  split at hc
  · rcases List.mem_cons.1 hc with rfl | hc
    · right; rfl
    · exact .inl (dec_range _ c hc)
  · exact .inl (dec_range _ c hc)
theorem itoa_no (v : Int) (b : UInt8) (hb : b.toNat < 45) : b ∉ itoa v := fun h => by
  have := itoa_range v b h; omega
theorem pu_snoc (c : UInt8) : ∀ (l : Str) (acc : Nat), parseUint10 acc (l ++ [c]) = match parseUint10 acc l with
    | .ok b => parseUint10 b [c]
    | .syntax => .syntax
    | .range => .range
  | [], acc => rfl
  | d :: l, acc => by
    simp only [List.cons_append, parseUint10]
    split
    · split
      · rfl
      · split
        · rfl
        · exact pu_snoc c l _
    · rfl
theorem pu_dec (u : Nat) (h : u < 18446744073709551616) : parseUint10 0 (decDigits u) = .ok u := by
  induction u using Nat.strongRecOn with
  | _ u ih =>
    rw [decDigits]
    split
    · rename_i hu
      have e : (UInt8.ofNat (48 + u)).toNat = 48 + u := by rw [UInt8.toNat_ofNat']; omega
      simp only [parseUint10, e]
      rw [if_pos (by omega), if_neg (by omega), if_neg (by omega)]
      congr 1; omega
    · rename_i hu
      have e : (UInt8.ofNat (48 + u % 10)).toNat = 48 + u % 10 := by rw [UInt8.toNat_ofNat']; omega
      rw [pu_snoc, ih (u / 10) (by omega) (by omega)]
      simp only [parseUint10, e]
      rw [if_pos (by omega), if_neg (by omega), if_neg (by omega)]
      congr 1; omega
theorem pm_dec (u : Nat) (h : u < 18446744073709551616) : parseMag (decDigits u) = .ok u := by
  rw [parseMag, if_neg (dec_ne u), pu_dec u h]
/-- What is written is read back. -/
theorem atoi_itoa (v : Int) (h0 : -9223372036854775808 ≤ v) (h1 : v ≤ 9223372036854775807) : atoiAll (itoa v) = .ok v := by
  unfold itoa
  split
  · rw [atoiAll_minus, pm_dec _ (by omega)]
    simp only [signed]
    rw [if_neg (by omega)]
    congr 1; omega
  · cases hd : decDigits v.toNat with
    | nil => exact absurd hd (dec_ne _)
    | cons c r =>
      have hc := dec_range v.toNat c (by rw [hd]; simp)
      rw [atoiAll_plain c r (by omega) (by omega), ← hd, pm_dec _ (by omega)]
      simp only [signless]
      rw [if_neg (by omega)]
      congr 1; omega
/-- The number that Atoi gives, whatever the error. -/
def av (s : Str) : Int := match atoiAll s with
  | .ok v => v
  | .syntax => 0
  | .range => atoiSat s
theorem av_bd (s : Str) : -9223372036854775808 ≤ av s ∧ av s ≤ 9223372036854775807 := by
  unfold av
  split
  · rename_i v h; exact atoiAll_bounds h
  · omega
  · exact atoiSat_bounds s
theorem av_ok {s : Str} {v : Int} (h : atoiAll s = .ok v) : av s = v := by simp [av, h]
end Go.Proofs.YtlpbmcnojkhdcaaDoor
