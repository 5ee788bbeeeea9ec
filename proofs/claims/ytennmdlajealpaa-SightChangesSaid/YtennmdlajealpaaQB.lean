/-
  Package sight: whether a number is a mark; what a list of marks proves.
-/
import Derived.Test.YtennmdlajealpaaQA
namespace Go.Proofs.Ytennmdlajealpaa
open Go.RowKit Go.Maps
set_option linter.unusedSimpArgs false
set_option linter.unusedVariables false

/-- A number that a proof may hold. -/
def mkB (m : Nat) (k : Int) : Bool := decide (0 ≤ k) && decide (k < 2 * (m : Int))
theorem mkB_iff {m : Nat} {k : Int} : mkB m k = true ↔ 0 ≤ k ∧ k < 2 * (m : Int) := by simp [mkB]
set_option maxHeartbeats 800000 in
theorem isMark_any (A : Option Addr) (n c : Nat) (B : Option Addr) (m d : Nat) (k : Int) (w : World) (hk : rngS k) : Calls Try.prog 66 #[encN A n c B m d, .int .i64 k] w fun e w' => e = .returned (.bool (mkB m k)) ∧ Bl w w' := by
  have HS := Lib.hid (fun W => isSightS_any A n c B m d (k.tdiv 2) W)
  by_cases h0 : 0 ≤ k
  · have HM := Lib.hid (show clB m (k.tdiv 2) = mkB m k from by
      rw [Bool.eq_iff_iff, clB_iff, mkB_iff, Int.tdiv_eq_ediv_of_nonneg h0]; omega)
    have h1 : IntKind.i64.wrap (k.tdiv 2) = k.tdiv 2 := IntWalk.i64_in _ (by rw [Int.tdiv_eq_ediv_of_nonneg h0]; unfold rngS at hk; omega)
    go_enter Try.func66, Try.ntmps66
    go_wp2_with fail
    refine (HS.out _).mono ?_
    rintro e1 w1 ⟨rfl, hb⟩
    have HB := Lib.hid (Bl.tr (show Bl w _ by go_grown) hb)
    clear hb
    rw [HM.out]
    go_wp2_with fail
    go_ret
    exact ⟨rfl, HB.out⟩
  · have HM := Lib.hid (show mkB m k = false from by
      cases hb : mkB m k with
      | false => rfl
      | true => exact absurd (mkB_iff.1 hb).1 h0)
    go_enter Try.func66, Try.ntmps66
    go_wp2_with fail
    go_ret
    exact ⟨by rw [HM.out]; rfl, by go_grown⟩
/-- What a list of marks adds up to, from a point on: nothing if it breaks. -/
def prvF (R : Nat → Int) (S : Nat → Sgt) (m : Nat) : Spt → Int → List Int → Option Int
  | _, s, [] => some s
  | p, s, k :: l => if mkB m k = false then none else if (tkn S k.toNat).1.1 = p.1 then prvF R S m (tkn S k.toNat).2.1 (s + (crb R p (tkn S k.toNat).1 + (tkn S k.toNat).2.2)) l else none
/-- A list that adds up is a way. -/
theorem prvF_way {R : Nat → Int} {S : Nat → Sgt} {m : Nat} (hR : ∀ k, k < 2 * m → 0 ≤ R (tkn S k).1.1.toNat) {p0 p : Spt} {s z : Int} {l : List Int} (h : prvF R S m p s l = some z) (hw : Way R S m p0 p s) : ∃ q, Way R S m p0 q z ∧ (q = p ∧ l = [] ∨ ∃ k, l.getLast? = some k ∧ mkB m k = true ∧ q = (tkn S k.toNat).2.1) := by
  induction l generalizing p s with
  | nil =>
    simp only [prvF, Option.some.injEq] at h
    subst h
    exact ⟨p, hw, .inl ⟨rfl, rfl⟩⟩
  | cons k l ih =>
    rw [prvF] at h
    split at h
    · cases h
    · rename_i hk
      have hk' : mkB m k = true := by simpa using hk
      obtain ⟨k0, k1⟩ := mkB_iff.1 hk'
      split at h
      · rename_i he
        have hlt : k.toNat < 2 * m := by omega
        have h1 := hw.car (tkn S k.toNat).1 he.symm (by rw [← he]; exact hR _ hlt)
        have h2 := h1.sgt k.toNat hlt
        obtain ⟨q, g1, g2⟩ := ih h (h2.cast (by omega))
        refine ⟨q, g1, .inr ?_⟩
        rcases g2 with ⟨g3, rfl⟩ | ⟨k2, g3, g4, g5⟩
        · exact ⟨k, rfl, hk', g3⟩
        · refine ⟨k2, ?_, g4, g5⟩
          cases l with
          | nil => simp at g3
          | cons a l => simpa using g3
      · cases h
/-- A list of marks that goes round below nothing is a proof. -/
theorem prvF_not {R : Nat → Int} {S : Nat → Sgt} {m : Nat} (hR : ∀ k, k < 2 * m → 0 ≤ R (tkn S k).1.1.toNat) {l : List Int} {k z : Int} (hl : l.getLast? = some k) (h : prvF R S m (tkn S k.toNat).2.1 0 l = some z) (hz : z < 0) : ¬ NoC R S m := fun hN => by
  obtain ⟨q, h1, h2⟩ := prvF_way hR h (Way.nil _)
  rcases h2 with ⟨_, rfl⟩ | ⟨k2, g1, _, g3⟩
  · simp at hl
  · rw [hl] at g1
    cases g1
    rw [g3] at h1
    have := hN _ _ h1
    omega
end Go.Proofs.Ytennmdlajealpaa
