/-
  Grids of boxes: what Where answers; the count of a grid's places.
-/
import Derived.Test.YthemoomfbbccjaaHC
namespace Go.Proofs.Ythemoomfbbccjaa
open Go.RowKit
set_option linter.unusedSimpArgs false
set_option linter.unusedVariables false

/-- The places of the first c columns of a row, and of the first r rows, that are asked for. -/
def rowL (P : Pt → Bool) (x0 y st : Int) : Nat → List Pt
  | 0 => []
  | c + 1 => rowL P x0 y st c ++ (if P ⟨x0 + (c : Int) * st, y⟩ then [⟨x0 + (c : Int) * st, y⟩] else [])
def gridL (P : Pt → Bool) (lo : Pt) (st : Int) (cols : Nat) : Nat → List Pt
  | 0 => []
  | r + 1 => gridL P lo st cols r ++ rowL P lo.x (lo.y + (r : Int) * st) st cols
/-- How many columns or rows. -/
def colsN (l h st : Int) : Nat := ((h - l) / st + 1).toNat
theorem cols_bd {l h st : Int} (hs : 1 ≤ st) (hl : l ≤ h) : 1 ≤ (h - l) / st + 1 ∧ (h - l) / st ≤ h - l := by
  have h1 := div_nonneg' (n := h - l) (d := st) (by omega) (by omega)
  have h2 := (eq_bd (n := h - l) (d := st) (B := h - l) (by omega) (by omega) (by omega) (by omega)).2
  omega
theorem cols_lt {l h st : Int} (hs : 1 ≤ st) (hl : l ≤ h) (c : Nat) : l + (c : Int) * st ≤ h ↔ c < colsN l h st := by
  have h1 := div_nonneg' (n := h - l) (d := st) (by omega) (by omega)
  have h3 : (c : Int) ≤ (h - l) / st ↔ (c : Int) * st ≤ h - l := Int.le_ediv_iff_mul_le (by omega)
  unfold colsN
  omega
theorem rowL_mem {P : Pt → Bool} {x0 y st : Int} {c : Nat} {p : Pt} : p ∈ rowL P x0 y st c ↔ P p = true ∧ p.y = y ∧ ∃ k : Nat, k < c ∧ p.x = x0 + (k : Int) * st := by
  induction c with
  | zero => simp [rowL]
  | succ c ih =>
    rw [rowL, List.mem_append, ih]
    constructor
    · rintro (⟨h1, h2, k, h3, h4⟩ | h)
      · exact ⟨h1, h2, k, by omega, h4⟩
      · split at h
        · rename_i hP
          obtain rfl := List.mem_singleton.1 h
          exact ⟨hP, rfl, c, by omega, rfl⟩
        · cases h
    · rintro ⟨h1, h2, k, h3, h4⟩
      by_cases e : k = c
      · subst e
        have hp : p = ⟨x0 + (k : Int) * st, y⟩ := by cases p; simp_all
        rw [← hp, if_pos h1]
        exact .inr (List.mem_singleton.2 rfl)
      · exact .inl ⟨h1, h2, k, by omega, h4⟩
theorem gridL_mem {P : Pt → Bool} {lo : Pt} {st : Int} {cols r : Nat} {p : Pt} : p ∈ gridL P lo st cols r ↔ P p = true ∧ (∃ k : Nat, k < r ∧ p.y = lo.y + (k : Int) * st) ∧ ∃ k : Nat, k < cols ∧ p.x = lo.x + (k : Int) * st := by
  induction r with
  | zero => simp [gridL]
  | succ r ih =>
    rw [gridL, List.mem_append, ih, rowL_mem]
    constructor
    · rintro (⟨h1, ⟨k, h2, h3⟩, h4⟩ | ⟨h1, h2, h4⟩)
      · exact ⟨h1, ⟨k, by omega, h3⟩, h4⟩
      · exact ⟨h1, ⟨r, by omega, h2⟩, h4⟩
    · rintro ⟨h1, ⟨k, h2, h3⟩, h4⟩
      by_cases e : k = r
      · subst e; exact .inr ⟨h1, h3, h4⟩
      · exact .inl ⟨h1, ⟨k, by omega, h3⟩, h4⟩
def cntF (lo hi : Pt) (st : Int) : Int := ((hi.x - lo.x) / st + 1) * ((hi.y - lo.y) / st + 1)
def stOk (st : Int) : Prop := 1 ≤ st ∧ st ≤ 10000
instance (st : Int) : Decidable (stOk st) := by unfold stOk; infer_instance
def whP (a : Air) (S : Nat → Sho) (n : Nat) (p : Pt) : Bool := decide (suitN a S n p)
def whE (a : Air) (S : Nat → Sho) (n : Nat) (lo hi : Pt) (st : Int) : Int := if VA a ∧ VSh S n then (if boxOk lo hi ∧ stOk st then (if cntF lo hi st > 10000 then 4 else 0) else 7) else 1
/-- What Where finds. -/
def whL (a : Air) (S : Nat → Sho) (n : Nat) (lo hi : Pt) (st : Int) : List Pt := if whE a S n lo hi st = 0 then gridL (whP a S n) lo st (colsN lo.x hi.x st) (colsN lo.y hi.y st) else []
theorem whE_ok {a : Air} {S : Nat → Sho} {n : Nat} {lo hi : Pt} {st : Int} (h : whE a S n lo hi st = 0) : VA a ∧ VSh S n ∧ boxOk lo hi ∧ stOk st := by
  unfold whE at h
  by_cases h1 : VA a ∧ VSh S n
  · rw [if_pos h1] at h
    by_cases h2 : boxOk lo hi ∧ stOk st
    · exact ⟨h1.1, h1.2, h2.1, h2.2⟩
    · rw [if_neg h2] at h; omega
  · rw [if_neg h1] at h; omega
/-- Each place that is found lies in the box and suits. -/
theorem whL_mem {a : Air} {S : Nat → Sho} {n : Nat} {lo hi : Pt} {st : Int} {p : Pt} (hp : p ∈ whL a S n lo hi st) : whE a S n lo hi st = 0 ∧ inBox lo hi p ∧ suitN a S n p := by
  unfold whL at hp
  by_cases h : whE a S n lo hi st = 0
  · rw [if_pos h] at hp
    obtain ⟨g1, ⟨k, g2, g3⟩, j, g4, g5⟩ := gridL_mem.1 hp
    obtain ⟨_, _, hb, hs⟩ := whE_ok h
    refine ⟨h, ?_, of_decide_eq_true g1⟩
    have c1 := (cols_lt hs.1 hb.2.2.1 j).2 g4
    have c2 := (cols_lt hs.1 hb.2.2.2 k).2 g2
    have e1 : 0 ≤ (j : Int) * st := Int.mul_nonneg (by omega) (by have := hs.1; omega)
    have e2 : 0 ≤ (k : Int) * st := Int.mul_nonneg (by omega) (by have := hs.1; omega)
    exact ⟨⟨by omega, by omega⟩, by omega, by omega⟩
  · rw [if_neg h] at hp; cases hp
/-- P5.4: a box that is excluded has none. -/
theorem whL_excl {a : Air} {S : Nat → Sho} {n : Nat} {lo hi : Pt} {st : Int} (hx : ¬ allB a lo hi S n) : whL a S n lo hi st = [] := by
  refine List.eq_nil_iff_forall_not_mem.2 fun p hp => ?_
  obtain ⟨h, hb, hs⟩ := whL_mem hp
  obtain ⟨ha, hv, hbo, _⟩ := whE_ok h
  refine hx fun j hj => ?_
  refine Classical.byContradiction fun g => ?_
  exact excl_no ha (hv.2.2 j hj).1 hbo hb g (hs j hj)
end Go.Proofs.Ythemoomfbbccjaa
