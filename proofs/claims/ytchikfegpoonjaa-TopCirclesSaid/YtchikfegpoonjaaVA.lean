/-
  Package sight, pure: a proof's sights alone are contradictory.
-/
import Derived.Test.YtchikfegpoonjaaUA
namespace Go.Proofs.Ytchikfegpoonjaa
open Go.RowKit Go.Maps
set_option linter.unusedSimpArgs false
set_option linter.unusedVariables false

theorem tkn_as {S T : Nat → Sgt} {i k : Nat} (h : T i = S (k / 2)) : tkn T (2 * i + k % 2) = tkn S k := by
  have a1 : (2 * i + k % 2) / 2 = i := by omega
  have a2 : (2 * i + k % 2) % 2 = k % 2 := by omega
  unfold tkn
  rw [a1, a2, h]
/-- The sights of a proof, taken alone, are contradictory. -/
theorem prv_sub {R : Nat → Int} {S S' : Nat → Sgt} {m m' : Nat} (hR : ∀ k, k < 2 * m' → 0 ≤ R (tkn S' k).1.1.toNat) {T : Nat → Int} {n : Nat} (h : prvV R S m T n = true)
    (hs : ∀ j, j < n → ∃ i, i < m' ∧ S' i = S ((T j).toNat / 2)) : ¬ NoC R S' m' := by
  have hn : 1 ≤ n := by
    cases n with
    | zero => simp [prvV] at h
    | succ n => omega
  obtain ⟨f, hf⟩ : ∃ f : Nat → Nat, ∀ j, j < n → f j < m' ∧ S' (f j) = S ((T j).toNat / 2) := by
    refine ⟨fun j => if h : j < n then Classical.choose (hs j h) else 0, fun j hj => ?_⟩
    simp only [dif_pos hj]
    exact Classical.choose_spec (hs j hj)
  let U : Nat → Int := fun j => ((2 * f j + (T j).toNat % 2 : Nat) : Int)
  have hU : ∀ j, j < n → (U j).toNat = 2 * f j + (T j).toNat % 2 := fun j _ => Int.toNat_natCast _
  have hm : ∀ j, j < n → mkB m' (U j) = true := fun j hj => mkB_iff.2 (by
    have := (hf j hj).1
    show 0 ≤ ((2 * f j + (T j).toNat % 2 : Nat) : Int) ∧ ((2 * f j + (T j).toNat % 2 : Nat) : Int) < _
    omega)
  have ht : ∀ j, j < n → tkn S' (U j).toNat = tkn S (T j).toNat := fun j hj => by rw [hU j hj]; exact tkn_as (hf j hj).2
  have go : ∀ k, k ≤ n → ∀ p0 r, pvS R S m T p0 k = some r → pvS R S' m' U p0 k = some r := by
    intro k
    induction k with
    | zero => intro _ p0 r h; exact h
    | succ k ih =>
      intro hk p0 r h
      rw [pvS] at h
      cases e : pvS R S m T p0 k with
      | none => rw [e] at h; exact absurd h (by simp)
      | some u =>
        rw [e] at h
        simp only at h
        split at h
        · rename_i hc
          have := pvS_next (ih (by omega) p0 u e) (hm k (by omega)) (by rw [ht k (by omega)]; exact hc.2)
          rw [ht k (by omega)] at this
          rw [this]
          exact h
        · exact absurd h (by simp)
  refine prvV_not hR (T := U) (n := n) ?_
  unfold prvV at h ⊢
  rw [hm _ (by omega), ht _ (by omega)]
  simp only [Bool.and_eq_true] at h
  obtain ⟨_, h2⟩ := h
  cases e : pvS R S m T (tkn S (T (n - 1)).toNat).2.1 n with
  | none => rw [e] at h2; exact absurd h2 (by simp)
  | some u => rw [e] at h2; rw [go n (Nat.le_refl _) _ _ e, decide_eq_true hn]; simpa using h2
end Go.Proofs.Ytchikfegpoonjaa
