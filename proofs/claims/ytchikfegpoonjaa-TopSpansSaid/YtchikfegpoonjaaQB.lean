/-
  Package sight: whether a number is a mark; what a list of marks proves.
-/
import Derived.Test.YtchikfegpoonjaaQA
namespace Go.Proofs.Ytchikfegpoonjaa
open Go.RowKit Go.Maps
set_option linter.unusedSimpArgs false
set_option linter.unusedVariables false

/-- A number that a proof may hold. -/
def mkB (m : Nat) (k : Int) : Bool := decide (0 ≤ k) && decide (k < 2 * (m : Int))
theorem mkB_iff {m : Nat} {k : Int} : mkB m k = true ↔ 0 ≤ k ∧ k < 2 * (m : Int) := by simp [mkB]
/-- What a list of marks adds up to, from a point on: nothing if it breaks. -/
def prvF (R : Nat → Int) (S : Nat → Sgt) (m : Nat) : Spt → Int → List Int → Option Int
  | _, s, [] => some s
  | p, s, k :: l => if mkB m k = false then none else if (tkn S k.toNat).1.1 = p.1 then prvF R S m (tkn S k.toNat).2.1 (s + (crb R p (tkn S k.toNat).1 + (tkn S k.toNat).2.2)) l else none
/-- A list that adds up is a way. -/
theorem prvF_way {R : Nat → Int} {S : Nat → Sgt} {m : Nat} (hR : ∀ k, k < 2 * m → 0 ≤ R (tkn S k).1.1.toNat) {p0 p : Spt} {s z : Int} {l : List Int} (h : prvF R S m p s l = some z) (hw : Way R S m p0 p s) : ∃ q, Way R S m p0 q z ∧ (q = p ∧ l = [] ∨ ∃ k, l.getLast? = some k ∧ mkB m k = true ∧ q = (tkn S k.toNat).2.1) := by
  induction l generalizing p s with
  | nil =>
    simp only [prvF, Option.some.injEq] at h
    subst h
    exact ⟨p, hw, .inl ⟨rfl, rfl⟩⟩
  | cons k l ih =>
    rw [prvF] at h
    split at h
    · cases h
    · rename_i hk
      have hk' : mkB m k = true := by simpa using hk
      obtain ⟨k0, k1⟩ := mkB_iff.1 hk'
      split at h
      · rename_i he
        have hlt : k.toNat < 2 * m := by omega
        have h1 := hw.car (tkn S k.toNat).1 he.symm (by rw [← he]; exact hR _ hlt)
        have h2 := h1.sgt k.toNat hlt
        obtain ⟨q, g1, g2⟩ := ih h (h2.cast (by omega))
        refine ⟨q, g1, .inr ?_⟩
        rcases g2 with ⟨g3, rfl⟩ | ⟨k2, g3, g4, g5⟩
        · exact ⟨k, rfl, hk', g3⟩
        · refine ⟨k2, ?_, g4, g5⟩
          cases l with
          | nil => simp at g3
          | cons a l => simpa using g3
      · cases h
/-- A list of marks that goes round below nothing is a proof. -/
theorem prvF_not {R : Nat → Int} {S : Nat → Sgt} {m : Nat} (hR : ∀ k, k < 2 * m → 0 ≤ R (tkn S k).1.1.toNat) {l : List Int} {k z : Int} (hl : l.getLast? = some k) (h : prvF R S m (tkn S k.toNat).2.1 0 l = some z) (hz : z < 0) : ¬ NoC R S m := fun hN => by
  obtain ⟨q, h1, h2⟩ := prvF_way hR h (Way.nil _)
  rcases h2 with ⟨_, rfl⟩ | ⟨k2, g1, _, g3⟩
  · simp at hl
  · rw [hl] at g1
    cases g1
    rw [g3] at h1
    have := hN _ _ h1
    omega
end Go.Proofs.Ytchikfegpoonjaa
