/-
  Contracts of the fractions: the reference's lowest terms; Make.
-/
import Derived.Test.YtchikfegpoonjaaF
namespace Go.Proofs.Ytchikfegpoonjaa
open Go.RowKit
set_option linter.unusedSimpArgs false

theorem low_gcd {n d : Int} (h0 : d ≠ 0) : (Int.gcd (lowN n d) (lowD n d) : Int) = 1 ∧ 1 ≤ lowD n d := by
  have hg := gcd_pos' (n := n) h0
  have hgn : 0 < Int.gcd n d := by omega
  have key : ∀ a b : Int, Int.gcd a b = Int.gcd n d → 0 < b → (Int.gcd (a / (Int.gcd n d : Int)) (b / (Int.gcd n d : Int)) : Int) = 1 ∧ 1 ≤ b / (Int.gcd n d : Int) := by
    intro a b hab hb
    refine ⟨?_, ?_⟩
    · have := Int.gcd_ediv_gcd_ediv_gcd (i := a) (j := b) (by omega)
      rw [hab] at this
      omega
    · have hd : (Int.gcd n d : Int) ∣ b := by rw [← hab]; exact Int.gcd_dvd_right _ _
      exact Int.le_ediv_of_mul_le hg (by have := Int.le_of_dvd hb hd; omega)
  unfold lowN lowD
  by_cases h : d < 0
  · rw [if_pos h, if_pos h]
    exact key (-n) (-d) (gcd_abs _ _ _ _ (.inr rfl) (.inr rfl)) (by omega)
  · rw [if_neg h, if_neg h]
    exact key n d rfl (by omega)

theorem low_vR {n d : Int} (h0 : d ≠ 0) : vR (lowN n d) (lowD n d) = true ↔ ¬ (1000000000 < lowD n d ∨ lowN n d < -1000000000 ∨ 1000000000 < lowN n d) := by
  obtain ⟨h1, h2⟩ := low_gcd (n := n) h0
  rw [vR_iff]
  constructor
  · rintro ⟨h, _⟩; omega
  · intro h; exact ⟨by omega, h1⟩

