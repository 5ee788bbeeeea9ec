/-
  The reference of package night: which chances may stand in one list; the same as in the package.
-/
import Derived.Test.YtbmenpfpeadckaaNE
namespace Go.Proofs.Ytbmenpfpeadckaa
open Go.RowKit
set_option linter.unusedSimpArgs false
set_option linter.unusedVariables false

theorem bytes_trans : ∀ {x y z : List UInt8}, Op.bytesLess x y = true → Op.bytesLess y z = true → Op.bytesLess x z = true
  | [], [], _, h, _ => by simp [Op.bytesLess] at h
  | [], _ :: _, [], _, h => by simp [Op.bytesLess] at h
  | [], _ :: _, _ :: _, _, _ => by simp [Op.bytesLess]
  | _ :: _, [], _, h, _ => by simp [Op.bytesLess] at h
  | _ :: _, _ :: _, [], _, h => by simp [Op.bytesLess] at h
  | a :: x, b :: y, c :: z, h1, h2 => by
    simp only [Op.bytesLess, Bool.or_eq_true, Bool.and_eq_true, decide_eq_true_eq, beq_iff_eq] at h1 h2 ⊢
    rcases h1 with h1 | ⟨rfl, h1⟩
    · rcases h2 with h2 | ⟨rfl, h2⟩
      · exact .inl (UInt8.lt_trans h1 h2)
      · exact .inl h1
    · rcases h2 with h2 | ⟨rfl, h2⟩
      · exact .inl h2
      · exact .inr ⟨rfl, bytes_trans h1 h2⟩
theorem bf_trans {a b c : Ch} (h1 : bfB a b = true) (h2 : bfB b c = true) : bfB a c = true := by
  simp only [bfB, ltS, Bool.or_eq_true, Bool.and_eq_true, decide_eq_true_eq] at h1 h2 ⊢
  rcases h1 with h1 | ⟨e1, h1⟩
  · rcases h2 with h2 | ⟨e2, h2⟩
    · exact .inl (by omega)
    · exact .inl (by omega)
  · rcases h2 with h2 | ⟨e2, h2⟩
    · exact .inl (by omega)
    · exact .inr ⟨by omega, bytes_trans h1 h2⟩
/-- What the reference does not bear of an earlier chance. -/
def rpB (o x : Ch) : Bool := decide (o.nm = x.nm) || decide (x.fr < o.fr) || (decide (o.fr = x.fr) && !ltS o.nm x.nm)
theorem rp_bf {o x : Ch} (h : ¬ o.nm = x.nm) : rpB o x = !bfB o x := by
  unfold rpB bfB
  rw [decide_eq_false h, Bool.false_or]
  by_cases h1 : o.fr < x.fr
  · rw [decide_eq_true h1, decide_eq_false (show ¬ x.fr < o.fr by omega), decide_eq_false (show ¬ o.fr = x.fr by omega)]; rfl
  · by_cases h2 : o.fr = x.fr
    · rw [decide_eq_false h1, decide_eq_false (show ¬ x.fr < o.fr by omega), decide_eq_true h2]
      cases ltS o.nm x.nm <;> rfl
    · rw [decide_eq_false h1, decide_eq_true (show x.fr < o.fr by omega), decide_eq_false h2]; rfl
def rvB (L : Nat → Ch) : Nat → Bool
  | 0 => true
  | k + 1 => rvB L k && vcB (L k) && !anyTo (fun j => rpB (L j) (L k)) k
theorem anyTo_no {P : Nat → Bool} {n : Nat} : anyTo P n = false ↔ ∀ k, k < n → P k = false := by
  constructor
  · intro h k hk
    cases q : P k with
    | false => rfl
    | true => rw [anyTo_at hk q] at h; cases h
  · intro h
    induction n with
    | zero => rfl
    | succ n ih => rw [anyTo, ih fun k hk => h k (by omega), h n (by omega)]; rfl
/-- In a valid list each chance comes before each later one. -/
theorem vd_chain {L : Nat → Ch} {n : Nat} (h : vdB L n = true) {i j : Nat} (hij : i < j) (hj : j < n) : bfB (L i) (L j) = true := by
  induction j with
  | zero => omega
  | succ j ih =>
    have hm := vd_at h hj
    have hb : bfB (L j) (L (j + 1)) = true := by
      simp only [msB, Bool.and_eq_true, Bool.or_eq_true, decide_eq_true_eq, Nat.add_one_sub_one] at hm
      rcases hm.2 with q | q
      · omega
      · exact q
    rcases Nat.lt_succ_iff_lt_or_eq.1 hij with q | q
    · exact bf_trans (ih q (by omega)) hb
    · subst q; exact hb
theorem names_eq {L : Nat → Ch} {k : Nat} {x : Ch} (hv : ∀ i j, i < j → j < k → bfB (L i) (L j) = true) :
    (!anyTo (fun j => decide ((L j).nm = x.nm)) k && (decide (k = 0) || bfB (L (k - 1)) x)) = !anyTo (fun j => rpB (L j) x) k := by
  rw [Bool.eq_iff_iff]
  simp only [Bool.and_eq_true, Bool.not_eq_true', Bool.or_eq_true, decide_eq_true_eq, anyTo_no, decide_eq_false_iff_not]
  constructor
  · rintro ⟨h1, h2⟩ j hj
    rw [rp_bf (h1 j hj)]
    have hb : bfB (L (k - 1)) x = true := by
      rcases h2 with q | q
      · omega
      · exact q
    by_cases e : j = k - 1
    · subst e; rw [hb]; rfl
    · rw [bf_trans (hv j (k - 1) (by omega) (by omega)) hb]; rfl
  · intro h
    have hn : ∀ j, j < k → ¬ (L j).nm = x.nm := fun j hj e => by
      have := h j hj
      rw [rpB, decide_eq_true e] at this
      cases this
    refine ⟨hn, ?_⟩
    by_cases e : k = 0
    · exact .inl e
    · refine .inr ?_
      have := h (k - 1) (by omega)
      rw [rp_bf (hn (k - 1) (by omega))] at this
      simpa using this
theorem rv_vd {L : Nat → Ch} (n : Nat) : (rvB L n && decide (n ≤ 20)) = vdB L n := by
  induction n with
  | zero => rfl
  | succ n ih =>
    cases hv : vdB L n with
    | false =>
      rw [hv] at ih
      rw [vdB, hv, Bool.false_and, rvB]
      simp only [Bool.and_eq_false_iff, decide_eq_false_iff_not] at ih ⊢
      rcases ih with h | h
      · exact .inl (.inl (.inl h))
      · exact .inr (by omega)
    | true =>
      rw [hv] at ih
      have ih' : rvB L n = true := by simp at ih; exact ih.1
      have hc := names_eq (L := L) (k := n) (x := L n) (fun i j h1 h2 => vd_chain hv h1 h2)
      rw [rvB, vdB, hv, ih', Bool.true_and, Bool.true_and, msB, ← hc]
      rw [show decide (n + 1 ≤ 20) = decide (n < 20) from rfl]
      cases decide (n < 20) <;> cases vcB (L n) <;> simp
end Go.Proofs.Ytbmenpfpeadckaa
