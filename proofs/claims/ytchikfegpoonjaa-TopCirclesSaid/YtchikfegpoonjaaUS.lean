/-
  Package sight, pure: the circle that conflict returns is a proof; Conflict.
-/
import Derived.Test.YtchikfegpoonjaaUC
namespace Go.Proofs.Ytchikfegpoonjaa
open Go.RowKit Go.Maps
set_option linter.unusedSimpArgs false
set_option linter.unusedVariables false

theorem noF_prefix (E : Nat → Edg) (b : Nat → Int) (v : Nat) {a p : Nat} (h : a ≤ p) : ∃ r, noF E b v p = noF E b v a ++ r := by
  induction p with
  | zero => obtain rfl : a = 0 := by omega
            exact ⟨[], by simp⟩
  | succ p ih =>
    by_cases e : a = p + 1
    · subst e; exact ⟨[], by simp⟩
    · obtain ⟨r, hr⟩ := ih (by omega)
      rw [noF]
      split
      · exact ⟨r, hr⟩
      · exact ⟨r ++ [(E (b (itF (prF E b) p v)).toNat).no], by rw [hr, List.append_assoc]⟩
/-- The first step back (from the circle's end on) that is a sight's. -/
theorem noF_first {E : Nat → Edg} {b : Nat → Int} {v p : Nat} (h : noF E b v p ≠ []) : ∃ j, j < p ∧ noF E b v j = [] ∧ (E (b (itF (prF E b) j v)).toNat).no ≠ -1 := by
  induction p with
  | zero => exact absurd rfl h
  | succ p ih =>
    by_cases q : noF E b v p = []
    · refine ⟨p, by omega, q, fun e => ?_⟩
      rw [noF, if_pos e] at h
      exact h q
    · obtain ⟨j, h1, h2⟩ := ih q
      exact ⟨j, by omega, h2⟩
/-- Conflict's list is a proof. -/
theorem cyc_proves {R : Nat → Int} {S : Nat → Sgt} {m n : Nat} {P : Nat → Spt} {E : Nat → Edg} {me : Nat} (C : Chart R S m P n E me) {b : Nat → Int} {y p : Nat} (h : Cyc E me b y p) {T : Nat → Int}
    (hT : ∀ j, j < (noF E b y p).length → T j = (noF E b y p).reverse.getD j 0) : prvV R S m T (noF E b y p).length = true ∧ ∀ j, j < (noF E b y p).length → mkB m (T j) = true := by
  have hcn : ∀ i, i < me → (E i).no = -1 → 0 ≤ (E i).co := fun i hi hne => by
    obtain ⟨h1, _, g⟩ := C.edge i hi
    rcases g with ⟨k, hk, _, _, _, e⟩ | ⟨_, e, _⟩
    · rw [e] at hne; omega
    · rw [e]; exact crb_nonneg (C.pos _ h1)
  have hnil := h.some hcn
  -- a step of the circle
  have stp : ∀ a, ∃ e, e < me ∧ b (itF (prF E b) a y) = (e : Int) ∧ (E e).to = itF (prF E b) a y ∧ (E e).fr = itF (prF E b) (a + 1) y := fun a => by
    obtain ⟨e, h1, h2, h3, h4⟩ := (h.has a).pr
    exact ⟨e, h1, h2, h3, h4.symm⟩
  have mk : ∀ {e : Nat}, e < me → (E e).no ≠ -1 → ∃ k, k < 2 * m ∧ (E e).no = (k : Int) ∧ P (E e).fr = (tkn S k).1 ∧ P (E e).to = (tkn S k).2.1 ∧ (E e).co = (tkn S k).2.2 := fun {e} he hne => by
    obtain ⟨_, _, g⟩ := C.edge e he
    rcases g with ⟨k, hk, g1, g2, g3, g4⟩ | ⟨_, _, g⟩
    · exact ⟨k, hk, g4, g1, g2, g3⟩
    · exact absurd g hne
  -- what the list holds where a mark was laid
  have at_ : ∀ a, a < p → (E (b (itF (prF E b) a y)).toNat).no ≠ -1 → T ((noF E b y p).length - (noF E b y (a + 1)).length) = (E (b (itF (prF E b) a y)).toNat).no ∧ (noF E b y (a + 1)).length = (noF E b y a).length + 1 := fun a ha hne => by
    have e1 : noF E b y (a + 1) = noF E b y a ++ [(E (b (itF (prF E b) a y)).toNat).no] := by rw [noF, if_neg hne]
    have hl : (noF E b y (a + 1)).length = (noF E b y a).length + 1 := by rw [e1]; simp
    obtain ⟨r, hr⟩ := noF_prefix E b y (show a + 1 ≤ p by omega)
    have hlen : (noF E b y p).length = (noF E b y a).length + 1 + r.length := by rw [hr, List.length_append, hl]
    refine ⟨?_, hl⟩
    rw [hT _ (by omega), List.getD_eq_getElem?_getD, List.getElem?_reverse (by omega)]
    rw [show (noF E b y p).length - 1 - ((noF E b y p).length - (noF E b y (a + 1)).length) = (noF E b y a).length by omega]
    rw [hr, e1]
    simp
  obtain ⟨j0, hj0, hz, hne0⟩ := noF_first hnil
  obtain ⟨e0, he0, hb0, ht0, _⟩ := stp j0
  rw [hb0, Int.toNat_natCast] at hne0
  obtain ⟨k0, hk0, hno0, _, hto0, _⟩ := mk he0 hne0
  have hlast := at_ j0 hj0 (by rw [hb0, Int.toNat_natCast]; exact hne0)
  have hj1 : (noF E b y (j0 + 1)).length = 1 := by rw [hlast.2, hz]; rfl
  rw [hz] at hlast
  simp only [List.length_nil, Nat.zero_add] at hlast
  rw [hlast.2, hb0, Int.toNat_natCast, hno0] at hlast
  have hN1 : 1 ≤ (noF E b y p).length := by
    obtain ⟨r, hr⟩ := noF_prefix E b y (show j0 + 1 ≤ p by omega)
    rw [hr, List.length_append]; omega
  have hTl : T ((noF E b y p).length - 1) = (k0 : Int) := hlast.1
  -- carries from the last mark's end to the circle's end
  have car0 : ∀ j, j ≤ j0 → (P (itF (prF E b) j y)).1 = (P y).1 ∧ crb R (P (itF (prF E b) j y)) (P y) ≤ smF E b y j := by
    intro j
    induction j with
    | zero => intro _; exact ⟨rfl, by show crb R (P y) (P y) ≤ 0; rw [crb_same]; exact Int.le_refl _⟩
    | succ j ih =>
      intro hj
      obtain ⟨i1, i2⟩ := ih (by omega)
      obtain ⟨e, he, hb, ht, hf⟩ := stp j
      have hno : (E e).no = -1 := by
        cases hd : decide ((E e).no = -1) with
        | true => exact of_decide_eq_true hd
        | false =>
          have hne := of_decide_eq_false hd
          exfalso
          have g := (at_ j (by omega) (by rw [hb, Int.toNat_natCast]; exact hne)).2
          obtain ⟨r, hr⟩ := noF_prefix E b y (show j + 1 ≤ j0 by omega)
          rw [hz] at hr
          have := congrArg List.length hr
          simp only [List.length_nil, List.length_append] at this
          omega
      obtain ⟨l1, _, g⟩ := C.edge e he
      rcases g with ⟨k, hk, _, _, _, g4⟩ | ⟨g1, g2, _⟩
      · rw [g4] at hno; omega
      · rw [ht, hf] at g1
        rw [hf, ht] at g2
        refine ⟨g1.trans i1, ?_⟩
        have htr := crb_tri (R := R) (p := P (itF (prF E b) (j + 1) y)) (q := P (itF (prF E b) j y)) (r := P y) (by rw [← hf]; exact C.pos _ l1) g1
        have e2 : smF E b y (j + 1) = smF E b y j + (E (b (itF (prF E b) j y)).toNat).co := rfl
        rw [hb, Int.toNat_natCast] at e2
        omega
  -- the marks one after another
  have go : ∀ t, t + j0 ≤ p → ∃ q s, pvS R S m T (P (itF (prF E b) j0 y)) ((noF E b y p).length - (noF E b y (p - t)).length) = some (q, s) ∧ q.1 = (P (itF (prF E b) (p - t) y)).1 ∧
      s + crb R q (P (itF (prF E b) (p - t) y)) ≤ smF E b y j0 + (smF E b y p - smF E b y (p - t)) ∧ (p - t = j0 → True) := by
    intro t
    induction t with
    | zero =>
      intro _
      obtain ⟨i1, i2⟩ := car0 j0 (Nat.le_refl _)
      refine ⟨P (itF (prF E b) j0 y), 0, by rw [Nat.sub_zero, Nat.sub_self]; rfl, ?_, ?_, fun _ => trivial⟩
      · rw [Nat.sub_zero, h.ret]; exact i1
      · rw [Nat.sub_zero, h.ret]; omega
    | succ t ih =>
      intro ht
      obtain ⟨q, s, g1, g2, g3, _⟩ := ih (by omega)
      obtain ⟨a, ha⟩ : ∃ a, p - t = a + 1 := ⟨p - t - 1, by omega⟩
      have ha' : p - (t + 1) = a := by omega
      rw [ha] at g1 g2 g3
      rw [ha']
      obtain ⟨e, he, hb, hto, hf⟩ := stp a
      have esm : smF E b y (a + 1) = smF E b y a + (E e).co := by
        have : smF E b y (a + 1) = smF E b y a + (E (b (itF (prF E b) a y)).toNat).co := rfl
        rw [hb, Int.toNat_natCast] at this
        exact this
      by_cases hno : (E e).no = -1
      · have e1 : noF E b y (a + 1) = noF E b y a := by rw [noF, if_pos (by rw [hb, Int.toNat_natCast]; exact hno)]
        rw [e1] at g1
        obtain ⟨l1, _, g⟩ := C.edge e he
        rcases g with ⟨k, hk, _, _, _, k4⟩ | ⟨k1, k2, _⟩
        · rw [k4] at hno; omega
        · rw [hto, hf] at k1
          rw [hf, hto] at k2
          refine ⟨q, s, g1, g2.trans k1, ?_, fun _ => trivial⟩
          have htr := crb_tri (R := R) (p := q) (q := P (itF (prF E b) (a + 1) y)) (r := P (itF (prF E b) a y)) (by rw [g2, ← hf]; exact C.pos _ l1) g2
          omega
      · obtain ⟨k, hk, k1, k2, k3, k4⟩ := mk he hno
        obtain ⟨u1, u2⟩ := at_ a (by omega) (by rw [hb, Int.toNat_natCast]; exact hno)
        rw [hb, Int.toNat_natCast, k1] at u1
        have hpre : (noF E b y (a + 1)).length ≤ (noF E b y p).length := by
          obtain ⟨r, hr⟩ := noF_prefix E b y (show a + 1 ≤ p by omega)
          rw [hr, List.length_append]; omega
        have hmk : mkB m (T ((noF E b y p).length - (noF E b y (a + 1)).length)) = true := by rw [u1]; exact mkB_iff.2 ⟨by omega, by omega⟩
        have hcl : (tkn S (T ((noF E b y p).length - (noF E b y (a + 1)).length)).toNat).1.1 = q.1 := by
          rw [u1, Int.toNat_natCast, ← k2, hf, g2]
        have nx := pvS_next g1 hmk hcl
        rw [u1, Int.toNat_natCast] at nx
        rw [show (noF E b y p).length - (noF E b y (a + 1)).length + 1 = (noF E b y p).length - (noF E b y a).length by omega] at nx
        refine ⟨_, _, nx, ?_, ?_, fun _ => trivial⟩
        · rw [← k3, hto]
        · rw [← k3, hto, crb_same, ← k2, hf, ← k4]
          omega
  obtain ⟨q, s, g1, g2, g3, _⟩ := go (p - j0) (by omega)
  rw [show p - (p - j0) = j0 by omega, hz] at g1
  rw [show p - (p - j0) = j0 by omega] at g2 g3
  simp only [List.length_nil, Nat.sub_zero] at g1
  have hq0 : 0 ≤ crb R q (P (itF (prF E b) j0 y)) := crb_nonneg (by rw [g2, ← ht0]; exact C.pos _ (C.ends e0 he0).2)
  have hneg := h.neg
  have hall : ∀ j, j < (noF E b y p).length → mkB m (T j) = true := by
    have mem : ∀ a, a ≤ p → ∀ x, x ∈ noF E b y a → mkB m x = true := by
      intro a
      induction a with
      | zero => intro _ x hx; simp [noF] at hx
      | succ a ih =>
        intro ha x hx
        rw [noF] at hx
        split at hx
        · exact ih (by omega) x hx
        · rename_i hne
          rcases List.mem_append.1 hx with hx | hx
          · exact ih (by omega) x hx
          · obtain ⟨e, he, hb, _, _⟩ := stp a
            rw [hb, Int.toNat_natCast] at hne hx
            obtain ⟨k, hk, k1, _⟩ := mk he hne
            simp only [List.mem_cons, List.not_mem_nil, or_false] at hx
            rw [hx, k1]
            exact mkB_iff.2 ⟨by omega, by omega⟩
    intro j hj
    rw [hT j hj]
    refine mem p (Nat.le_refl _) _ ?_
    rw [List.getD_eq_getElem?_getD, List.getElem?_eq_getElem (by simpa using hj)]
    exact List.mem_reverse.1 (List.getElem_mem _)
  have hst : (tkn S (T ((noF E b y p).length - 1)).toNat).2.1 = P (itF (prF E b) j0 y) := by rw [hTl, Int.toNat_natCast, ← hto0, ht0]
  rw [← hst] at g1
  refine ⟨?_, hall⟩
  rw [prvV_some hN1 (hall _ (by omega)) g1]
  exact decide_eq_true (by omega)
end Go.Proofs.Ytchikfegpoonjaa
