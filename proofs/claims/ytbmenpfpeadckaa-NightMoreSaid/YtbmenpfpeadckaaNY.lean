/-
  Contracts of package night and of its reference: Idle.
-/
import Derived.Test.YtbmenpfpeadckaaNX
namespace Go.Proofs.Ytbmenpfpeadckaa
open Go.RowKit
set_option linter.unusedSimpArgs false
set_option linter.unusedVariables false

/-- How long the observer is idle between the first k chances of a list. -/
def idF (L : Nat → Ch) (per : Int) (T : Nat → Int) : Nat → Int
  | 0 => 0
  | k + 1 => if k = 0 then 0 else idF L per T k + ((L (T k).toNat).fr - (L (T (k - 1)).toNat).to - trn (L (T (k - 1)).toNat) (L (T k).toNat) per)
/-- What Idle returns. -/
def idR (L : Nat → Ch) (n : Nat) (per : Int) (T : Nat → Int) (m : Nat) : Int × Int :=
  if chkN L n (fun _ => ⟨0, 0⟩) 0 per = 0 then (if ixNo n T m = true then (0, 5) else if anyTo (brkB L per T) m = true then (0, 9) else (idF L per T m, 0)) else (0, chkN L n (fun _ => ⟨0, 0⟩) 0 per)
theorem idF_step {L : Nat → Ch} {per : Int} {T : Nat → Int} {k : Nat} (h : 1 ≤ k) : idF L per T (k + 1) = idF L per T k + ((L (T k).toNat).fr - (L (T (k - 1)).toNat).to - trn (L (T (k - 1)).toNat) (L (T k).toNat) per) := by
  rw [idF, if_neg (by omega)]
theorem idF_bd {L : Nat → Ch} {n : Nat} {per : Int} {T : Nat → Int} {m : Nat} (hv : ∀ j, j < n → vcB (L j) = true) (hx : ixNo n T m = false) (hb : anyTo (brkB L per T) m = false) (hp : 0 ≤ per ∧ per ≤ 10000) {k : Nat} (hk : k ≤ m) :
    0 ≤ idF L per T k ∧ idF L per T k ≤ 86400000 * (k : Int) := by
  induction k with
  | zero => exact ⟨Int.le_refl _, by simp [idF]⟩
  | succ k ih =>
    obtain ⟨i1, i2⟩ := ih (by omega)
    by_cases k1 : 1 ≤ k
    · rw [idF_step k1]
      obtain ⟨b1, b2⟩ := ixNo_at hx (show k < m by omega)
      obtain ⟨c1, c2⟩ := ixNo_at hx (j := k - 1) (by omega)
      have vx := vc_iff.1 (hv (T k).toNat (by omega))
      have vy := vc_iff.1 (hv (T (k - 1)).toNat (by omega))
      have q := anyTo_no.1 hb k (by omega)
      rw [brkB, decide_eq_true k1, Bool.true_and] at q
      have hf : (L (T (k - 1)).toNat).to + trn (L (T (k - 1)).toNat) (L (T k).toNat) per ≤ (L (T k).toNat).fr := by simpa [flw] using q
      have ht := trn_bd (a := L (T (k - 1)).toNat) (b := L (T k).toNat) (per := per) ⟨vy.2.2.2.2.1, vy.2.2.2.2.2.1⟩ ⟨vx.2.2.2.2.1, vx.2.2.2.2.2.1⟩ hp
      have h1 := vx.2.2.1
      have h2 := vx.2.2.2.1
      have h3 := vy.2.1
      have h4 := vy.2.2.1
      omega
    · have k0 : k = 0 := by omega
      subst k0
      simp [idF]
def SP (w : World) (ba bb : Nat) (y x : Ch) (W' : World) : Prop := Bl w W' ∧ W'.cell? ⟨ba, 0, none⟩ = some (.string y.nm) ∧ W'.cell? ⟨ba, 1, none⟩ = some (.int .i64 y.fr) ∧ W'.cell? ⟨ba, 2, none⟩ = some (.int .i64 y.to) ∧ W'.cell? ⟨ba, 3, none⟩ = some (.int .i64 y.tl) ∧ W'.cell? ⟨ba, 4, none⟩ = some (.int .i64 y.wo) ∧ W'.cell? ⟨bb, 0, none⟩ = some (.string x.nm) ∧ W'.cell? ⟨bb, 1, none⟩ = some (.int .i64 x.fr) ∧ W'.cell? ⟨bb, 2, none⟩ = some (.int .i64 x.to) ∧ W'.cell? ⟨bb, 3, none⟩ = some (.int .i64 x.tl) ∧ W'.cell? ⟨bb, 4, none⟩ = some (.int .i64 x.wo) ∧ ba < W'.heap.size ∧ bb < W'.heap.size
theorem SP.t {w : World} {ba bb : Nat} {y x : Ch} {W W' : World} (h : SP w ba bb y x W) (hb : Bl W W') : SP w ba bb y x W' := by
  obtain ⟨h0, a0, a1, a2, a3, a4, c0, c1, c2, c3, c4, l1, l2⟩ := h
  exact ⟨h0.tr hb, kcb hb a0, kcb hb a1, kcb hb a2, kcb hb a3, kcb hb a4, kcb hb c0, kcb hb c1, kcb hb c2, kcb hb c3, kcb hb c4, Nat.lt_of_lt_of_le l1 hb.size, Nat.lt_of_lt_of_le l2 hb.size⟩
theorem id_a {L : Nat → Ch} {n : Nat} {per : Int} {T : Nat → Int} {m : Nat} (h : ¬ chkN L n (fun _ => ⟨0, 0⟩) 0 per = 0) : idR L n per T m = (0, chkN L n (fun _ => ⟨0, 0⟩) 0 per) := if_neg h
theorem id_b {L : Nat → Ch} {n : Nat} {per : Int} {T : Nat → Int} {m : Nat} (h : chkN L n (fun _ => ⟨0, 0⟩) 0 per = 0) (h2 : ixNo n T m = true) : idR L n per T m = (0, 5) := by rw [idR, if_pos h, if_pos h2]
theorem id_c {L : Nat → Ch} {n : Nat} {per : Int} {T : Nat → Int} {m : Nat} (h : chkN L n (fun _ => ⟨0, 0⟩) 0 per = 0) (h2 : ixNo n T m = false) (h3 : anyTo (brkB L per T) m = true) : idR L n per T m = (0, 9) := by
  rw [idR, if_pos h, if_neg (by rw [h2]; decide), if_pos h3]
theorem id_d {L : Nat → Ch} {n : Nat} {per : Int} {T : Nat → Int} {m : Nat} (h : chkN L n (fun _ => ⟨0, 0⟩) 0 per = 0) (h2 : ixNo n T m = false) (h3 : anyTo (brkB L per T) m = false) : idR L n per T m = (idF L per T m, 0) := by
  rw [idR, if_pos h, if_neg (by rw [h2]; decide), if_neg (by rw [h3]; decide)]
theorem id_rt {L : Nat → Ch} {n : Nat} {per : Int} {T : Nat → Int} {m : Nat} (h : chkN L n (fun _ => ⟨0, 0⟩) 0 per = 0) (h2 : ixNo n T m = false) : rtB L n (fun _ => ⟨0, 0⟩) 0 per T m = !anyTo (brkB L per T) m := by
  have h3 : anyTo (nclrB L (fun _ => ⟨0, 0⟩) 0 T) m = false := anyTo_no.2 fun k _ => rfl
  rw [rtB, decide_eq_true h, h2, h3]
  rfl