/-
  Pure side of NightRight: what a right list's chances, turns and idle times take.
-/
import Derived.Test.YtbmenpfpeadckaaNY
namespace Go.Proofs.Ytbmenpfpeadckaa
open Go.RowKit
set_option linter.unusedSimpArgs false
set_option linter.unusedVariables false

/-- What the first k chances of a list and the turns between them take. -/
def tsF (L : Nat → Ch) (per : Int) (T : Nat → Int) : Nat → Int
  | 0 => 0
  | k + 1 => tsF L per T k + ((L (T k).toNat).to - (L (T k).toNat).fr) + (if k = 0 then 0 else trn (L (T (k - 1)).toNat) (L (T k).toNat) per)
theorem ts_zero (L : Nat → Ch) (per : Int) (T : Nat → Int) {k : Nat} (h : k = 0) : tsF L per T (k + 1) = tsF L per T k + ((L (T k).toNat).to - (L (T k).toNat).fr) := by
  rw [tsF, if_pos h, Int.add_zero]
theorem ts_step (L : Nat → Ch) (per : Int) (T : Nat → Int) {k : Nat} (h : 1 ≤ k) : tsF L per T (k + 1) = tsF L per T k + ((L (T k).toNat).to - (L (T k).toNat).fr) + trn (L (T (k - 1)).toNat) (L (T k).toNat) per := by
  rw [tsF, if_neg (by omega)]
/-- Chances, turns and idle times are all the time from the first beginning to the last end. -/
theorem ts_id (L : Nat → Ch) (per : Int) (T : Nat → Int) {k : Nat} (h : 1 ≤ k) : idF L per T k + tsF L per T k = (L (T (k - 1)).toNat).to - (L (T 0).toNat).fr := by
  obtain ⟨j, rfl⟩ : ∃ j, k = j + 1 := ⟨k - 1, by omega⟩
  clear h
  induction j with
  | zero => rw [ts_zero L per T rfl]; simp [idF, tsF]
  | succ j ih =>
    rw [ts_step L per T (by omega), idF_step (by omega)]
    simp only [Nat.add_sub_cancel] at ih ⊢
    omega
theorem chk_none {L : Nat → Ch} {n : Nat} {per : Int} (hv : vdB L n = true) (hp : 0 ≤ per ∧ per ≤ 10000) : chkN L n (fun _ => ⟨0, 0⟩) 0 per = 0 := by
  have h2 : cldB (fun _ => (⟨0, 0⟩ : Sp2)) 0 = true := rfl
  rw [chkN, if_pos (by rw [hv, h2]; rfl), if_pos (inB_iff.2 hp)]
/-- What a right list is. -/
theorem rt_use {L : Nat → Ch} {n : Nat} {S : Nat → Sp2} {ms : Nat} {per : Int} {T : Nat → Int} {m : Nat} (h : rtB L n S ms per T m = true) :
    vdB L n = true ∧ (0 ≤ per ∧ per ≤ 10000) ∧ ixNo n T m = false ∧ anyTo (brkB L per T) m = false ∧ idR L n per T m = (idF L per T m, 0) := by
  unfold rtB at h
  simp only [Bool.and_eq_true, decide_eq_true_eq, Bool.not_eq_true'] at h
  obtain ⟨h1, h2, -, h4⟩ := h
  obtain ⟨v1, -, v3⟩ := chk_okR h1
  exact ⟨v1, v3, h2, h4, id_d (chk_none v1 v3) h2 h4⟩
/-- Bounds of the sums. -/
theorem ts_bd {L : Nat → Ch} {n : Nat} {per : Int} {T : Nat → Int} {m : Nat} (hv : ∀ j, j < n → vcB (L j) = true) (hx : ixNo n T m = false) (hb : anyTo (brkB L per T) m = false) (hp : 0 ≤ per ∧ per ≤ 10000) {k : Nat} (hk : k ≤ m) :
    0 ≤ tsF L per T k ∧ tsF L per T k ≤ 86400000 := by
  have h0 : 0 ≤ tsF L per T k := by
    induction k with
    | zero => exact Int.le_refl _
    | succ k ih =>
      have i1 := ih (by omega)
      obtain ⟨b1, b2⟩ := ixNo_at hx (show k < m by omega)
      have vx := vc_iff.1 (hv (T k).toNat (by omega))
      by_cases k1 : 1 ≤ k
      · rw [ts_step L per T k1]
        obtain ⟨c1, c2⟩ := ixNo_at hx (j := k - 1) (by omega)
        have vy := vc_iff.1 (hv (T (k - 1)).toNat (by omega))
        have ht := trn_bd (a := L (T (k - 1)).toNat) (b := L (T k).toNat) (per := per) ⟨vy.2.2.2.2.1, vy.2.2.2.2.2.1⟩ ⟨vx.2.2.2.2.1, vx.2.2.2.2.2.1⟩ hp
        have := vx.2.2.1
        omega
      · rw [ts_zero L per T (by omega)]
        have := vx.2.2.1
        omega
  refine ⟨h0, ?_⟩
  by_cases k1 : 1 ≤ k
  · have e := ts_id L per T k1
    have i := idF_bd hv hx hb hp hk
    obtain ⟨c1, c2⟩ := ixNo_at hx (j := k - 1) (by omega)
    obtain ⟨d1, d2⟩ := ixNo_at hx (j := 0) (by omega)
    have vy := vc_iff.1 (hv (T (k - 1)).toNat (by omega))
    have vz := vc_iff.1 (hv (T 0).toNat (by omega))
    have q1 := vy.2.2.2.1
    have q2 := vz.2.1
    omega
  · have k0 : k = 0 := by omega
    subst k0
    simp [tsF]
end Go.Proofs.Ytbmenpfpeadckaa
