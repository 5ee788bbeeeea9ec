/-
  Package night: the first of the right lists, by its last chance, is the first of all (pure).
-/
import Derived.Test.YtbmenpfpeadckaaNZ
import Derived.Test.YtbmenpfpeadckaaNX
import Derived.Test.YtbmenpfpeadckaaNK
namespace Go.Proofs.Ytbmenpfpeadckaa
open Go.RowKit
set_option linter.unusedSimpArgs false
set_option linter.unusedVariables false

/-- A right list of some chances. -/
def RLs (fol : Int → Int → Bool) (G : Nat → Int) (m : Nat) (l : List Int) : Prop :=
  ∀ k, k < l.length → (∃ j, j < m ∧ l.getD k 0 = G j) ∧ (1 ≤ k → l.getD (k - 1) 0 < l.getD k 0 ∧ fol (l.getD (k - 1) 0) (l.getD k 0) = true)
theorem getD_app_lt {l : List Int} {i : Int} {k : Nat} (h : k < l.length) : (l ++ [i]).getD k 0 = l.getD k 0 := by
  simp [List.getD, List.getElem?_append_left h]
theorem getD_app_last (l : List Int) (i : Int) : (l ++ [i]).getD l.length 0 = i := by simp [List.getD]
section
variable {fol : Int → Int → Bool} {G : Nat → Int}
theorem RLs.nil (m : Nat) : RLs fol G m [] := fun k hk => by simp at hk
theorem RLs.one {m j : Nat} (hj : j < m) : RLs fol G m [G j] := fun k hk => by
  have : k = 0 := by simpa using hk
  subst this
  exact ⟨⟨j, hj, rfl⟩, fun h => by omega⟩
theorem RLs.init {m : Nat} {l : List Int} {i : Int} (h : RLs fol G m (l ++ [i])) : RLs fol G m l := fun k hk => by
  have := h k (by simp; omega)
  rw [getD_app_lt hk] at this
  refine ⟨this.1, fun h1 => ?_⟩
  have h2 := this.2 h1
  rw [getD_app_lt (by omega)] at h2
  exact h2
theorem RLs.last {m : Nat} {l : List Int} {i : Int} (h : RLs fol G m (l ++ [i])) : ∃ j, j < m ∧ i = G j := by
  have := (h l.length (by simp)).1
  rwa [getD_app_last] at this
theorem RLs.two {m : Nat} {l : List Int} {y i : Int} (h : RLs fol G m (l ++ [y] ++ [i])) : y < i ∧ fol y i = true := by
  have := (h (l ++ [y]).length (by simp)).2 (by simp)
  rw [getD_app_last, getD_app_lt (by simp), show (l ++ [y]).length - 1 = l.length by simp, getD_app_last] at this
  exact this
theorem RLs.snoc {m : Nat} {l : List Int} {y i : Int} (h : RLs fol G m (l ++ [y])) (hi : ∃ j, j < m ∧ i = G j) (h1 : y < i) (h2 : fol y i = true) : RLs fol G m (l ++ [y] ++ [i]) := fun k hk => by
  by_cases q : k < (l ++ [y]).length
  · rw [getD_app_lt q]
    refine ⟨(h k q).1, fun h1 => ?_⟩
    rw [getD_app_lt (by omega)]
    exact (h k q).2 h1
  · have hk : k = (l ++ [y]).length := by simp at hk q ⊢; omega
    subst hk
    rw [getD_app_last, getD_app_lt (by simp), show (l ++ [y]).length - 1 = l.length by simp, getD_app_last]
    exact ⟨hi, fun _ => ⟨h1, h2⟩⟩
theorem RLs.mono {m m' : Nat} {l : List Int} (h : RLs fol G m l) (hm : m ≤ m') : RLs fol G m' l := fun k hk => by
  obtain ⟨⟨j, hj, e⟩, h2⟩ := h k hk
  exact ⟨⟨j, by omega, e⟩, h2⟩
/-- A list that ends with the j-th chance has none behind it. -/
theorem RLs.low : ∀ (N : Nat) (l : List Int), l.length = N → ∀ {m j : Nat}, (∀ a b, a < b → b < m → G a < G b) → j < m → RLs fol G m (l ++ [G j]) → RLs fol G (j + 1) (l ++ [G j])
  | 0, l, hl, m, j, _, _, _ => by
    obtain rfl := List.eq_nil_of_length_eq_zero hl
    exact RLs.one (by omega)
  | N + 1, l, hl, m, j, hG, hj, h => by
    have hne : l ≠ [] := by intro e; rw [e] at hl; simp at hl
    obtain ⟨l', y, rfl⟩ : ∃ l' x, l = l' ++ [x] := ⟨_, _, (List.dropLast_concat_getLast hne).symm⟩
    obtain ⟨h1, h2⟩ := h.two
    obtain ⟨i, hi, rfl⟩ := h.init.last
    have hij : i < j := by
      rcases Nat.lt_trichotomy i j with q | q | q
      · exact q
      · subst q; omega
      · have := hG j i q hi; omega
    have := RLs.low N l' (by simpa using hl) hG hi h.init
    exact RLs.snoc (this.mono (by omega)) ⟨j, by omega, rfl⟩ h1 h2
end
/-- What is asked of a comparison. -/
structure CmpOk (cmp : List Int → List Int → Int) : Prop where
  refl : ∀ a, cmp a a ≤ 0
  trans : ∀ a b c, cmp a b ≤ 0 → cmp b c ≤ 0 → cmp a c ≤ 0
  tot : ∀ a b, ¬ cmp a b < 0 → cmp b a ≤ 0
  snoc : ∀ a b i, cmp a b ≤ 0 → cmp (a ++ [i]) (b ++ [i]) ≤ 0
section
variable {fol : Int → Int → Bool} {cmp : List Int → List Int → Int} {G : Nat → Int}
/-- The first list that ends with the j-th chance. -/
def EndOk (fol : Int → Int → Bool) (cmp : List Int → List Int → Int) (G : Nat → Int) (j : Nat) (e : List Int) : Prop :=
  (∃ a, e = a ++ [G j] ∧ RLs fol G (j + 1) e) ∧ ∀ x, RLs fol G (j + 1) (x ++ [G j]) → cmp e (x ++ [G j]) ≤ 0
theorem end_dp (hc : CmpOk cmp) {E : Int → List Int} {k m : Nat} (hk : k < m) (hG : ∀ a b, a < b → b < m → G a < G b) (hE : ∀ j, j < k → EndOk fol cmp G j (E (G j))) :
    ∀ t, t ≤ k → (∃ a, endF fol cmp E G (G k) t = a ++ [G k] ∧ RLs fol G (k + 1) (a ++ [G k])) ∧ cmp (endF fol cmp E G (G k) t) [G k] ≤ 0 ∧ ∀ j, j < t → ∀ x, RLs fol G (j + 1) (x ++ [G j]) → fol (G j) (G k) = true → cmp (endF fol cmp E G (G k) t) (x ++ [G j] ++ [G k]) ≤ 0 := by
  intro t
  induction t with
  | zero => exact fun _ => ⟨⟨[], rfl, RLs.one (by omega)⟩, hc.refl _, fun j hj => by omega⟩
  | succ t ih =>
    intro ht
    obtain ⟨i1, i2, i3⟩ := ih (by omega)
    obtain ⟨⟨a, ea, ra⟩, oa⟩ := hE t (by omega)
    unfold endF
    by_cases q : fol (G t) (G k) = true ∧ cmp (E (G t) ++ [G k]) (endF fol cmp E G (G k) t) < 0
    · rw [if_pos q]
      have hle : cmp (E (G t) ++ [G k]) (endF fol cmp E G (G k) t) ≤ 0 := by omega
      refine ⟨⟨E (G t), rfl, ?_⟩, hc.trans _ _ _ hle i2, fun j hj x hx hf => ?_⟩
      · rw [ea] at ra ⊢
        exact RLs.snoc (ra.mono (by omega)) ⟨k, by omega, rfl⟩ (hG t k (by omega) hk) q.1
      · by_cases e : j = t
        · subst e; exact hc.snoc _ _ _ (oa x hx)
        · exact hc.trans _ _ _ hle (i3 j (by omega) x hx hf)
    · rw [if_neg q]
      refine ⟨i1, i2, fun j hj x hx hf => ?_⟩
      by_cases e : j = t
      · subst e
        have := hc.tot _ _ (fun h => q ⟨hf, h⟩)
        exact hc.trans _ _ _ this (hc.snoc _ _ _ (oa x hx))
      · exact i3 j (by omega) x hx hf
theorem st_dp (hc : CmpOk cmp) {m : Nat} (hG : ∀ a b, a < b → b < m → G a < G b) :
    ∀ k, k ≤ m → (∀ j, j < k → EndOk fol cmp G j ((stF fol cmp G k).E (G j))) ∧ RLs fol G k (stF fol cmp G k).b ∧ ∀ x, RLs fol G k x → cmp (stF fol cmp G k).b x ≤ 0 := by
  intro k
  induction k with
  | zero =>
    intro _
    refine ⟨fun j hj => by omega, RLs.nil _, fun x hx => ?_⟩
    have : x = [] := by
      cases x with
      | nil => rfl
      | cons y r => obtain ⟨⟨j, hj, -⟩, -⟩ := hx 0 (by simp); omega
    subst this
    exact hc.refl _
  | succ k ih =>
    intro hk
    obtain ⟨i1, i2, i3⟩ := ih (by omega)
    obtain ⟨⟨a, ea, ra⟩, o1, o2⟩ := end_dp hc (show k < m by omega) hG i1 k (Nat.le_refl _)
    have hbest : EndOk fol cmp G k (endF fol cmp (stF fol cmp G k).E G (G k) k) := by
      refine ⟨⟨a, ea, by rw [ea]; exact ra⟩, fun x hx => ?_⟩
      by_cases e : x = []
      · subst e; exact o1
      · obtain ⟨x', y, rfl⟩ : ∃ l' z, x = l' ++ [z] := ⟨_, _, (List.dropLast_concat_getLast e).symm⟩
        obtain ⟨h1, h2⟩ := hx.two
        obtain ⟨j, hj, rfl⟩ := hx.init.last
        have hjk : j < k := by
          rcases Nat.lt_or_ge j k with q | q
          · exact q
          · have : j = k := by omega
            subst this; omega
        exact o2 j hjk x' (RLs.low _ x' rfl (fun a b h h' => hG a b h (by omega)) hj hx.init) h2
    refine ⟨fun j hj => ?_, ?_, fun x hx => ?_⟩
    · simp only [stF]
      by_cases e : j = k
      · subst e; rw [if_pos rfl]; exact hbest
      · rw [if_neg (fun q => by have := hG j k (by omega) (by omega); omega)]; exact i1 j (by omega)
    · simp only [stF]
      split
      · exact hbest.1.choose_spec.2
      · exact i2.mono (by omega)
    · have hle : (stF fol cmp G (k + 1)).b = if cmp (endF fol cmp (stF fol cmp G k).E G (G k) k) (stF fol cmp G k).b < 0 then endF fol cmp (stF fol cmp G k).E G (G k) k else (stF fol cmp G k).b := rfl
      have h1 : cmp (stF fol cmp G (k + 1)).b (endF fol cmp (stF fol cmp G k).E G (G k) k) ≤ 0 := by
        rw [hle]; split
        · exact hc.refl _
        · rename_i q; exact hc.tot _ _ q
      have h2 : cmp (stF fol cmp G (k + 1)).b (stF fol cmp G k).b ≤ 0 := by
        rw [hle]; split
        · rename_i q; omega
        · exact hc.refl _
      by_cases e : x = []
      · subst e; exact hc.trans _ _ _ h2 (i3 _ (RLs.nil _))
      · obtain ⟨x', y, rfl⟩ : ∃ l' z, x = l' ++ [z] := ⟨_, _, (List.dropLast_concat_getLast e).symm⟩
        obtain ⟨j, hj, rfl⟩ := hx.last
        by_cases ej : j = k
        · subst ej; exact hc.trans _ _ _ h1 (hbest.2 _ hx)
        · have := RLs.low _ x' rfl (fun a b h h' => hG a b h (by omega)) hj hx
          exact hc.trans _ _ _ h2 (i3 _ (this.mono (by omega)))
end
theorem lex_refl : ∀ a : List Int, lexL a a = 0
  | [] => rfl
  | x :: a => by rw [lexL, if_neg (by omega), if_neg (by omega)]; exact lex_refl a
theorem lex_trans : ∀ a b c : List Int, lexL a b ≤ 0 → lexL b c ≤ 0 → lexL a c ≤ 0
  | [], b, [], _, _ => by simp [lexL]
  | [], b, _ :: _, _, _ => by simp [lexL]
  | _ :: _, [], c, h, _ => by simp [lexL] at h
  | _ :: _, _ :: _, [], _, h => by simp [lexL] at h
  | x :: a, y :: b, z :: c, h1, h2 => by
    rw [lexL] at h1 h2 ⊢
    by_cases p1 : x < y
    · by_cases p2 : y < z
      · rw [if_pos (by omega)]; omega
      · rw [if_neg p2] at h2
        by_cases p3 : z < y
        · rw [if_pos p3] at h2; omega
        · rw [if_pos (by omega)]; omega
    · rw [if_neg p1] at h1
      by_cases p4 : y < x
      · rw [if_pos p4] at h1; omega
      · rw [if_neg p4] at h1
        have : x = y := by omega
        subst this
        by_cases p2 : x < z
        · rw [if_pos p2]; omega
        · rw [if_neg p2] at h2 ⊢
          by_cases p3 : z < x
          · rw [if_pos p3] at h2; omega
          · rw [if_neg p3] at h2 ⊢
            exact lex_trans a b c h1 h2
theorem lex_tot : ∀ a b : List Int, ¬ lexL a b < 0 → lexL b a ≤ 0
  | [], [], _ => by simp [lexL]
  | [], _ :: _, h => by simp [lexL] at h
  | _ :: _, [], _ => by simp [lexL]
  | x :: a, y :: b, h => by
    rw [lexL] at h ⊢
    by_cases p1 : x < y
    · rw [if_pos p1] at h; omega
    · rw [if_neg p1] at h
      by_cases p2 : y < x
      · rw [if_pos p2]; omega
      · rw [if_neg p2] at h ⊢
        rw [if_neg p1]; exact lex_tot a b h
theorem lex_snoc : ∀ (a b : List Int) (i : Int), a.length = b.length → lexL a b ≤ 0 → lexL (a ++ [i]) (b ++ [i]) ≤ 0
  | [], [], i, _, _ => by rw [show ([] : List Int) ++ [i] = [i] from rfl, lex_refl]; omega
  | [], _ :: _, _, h, _ => by simp at h
  | _ :: _, [], _, h, _ => by simp at h
  | x :: a, y :: b, i, h, h2 => by
    rw [List.cons_append, List.cons_append, lexL]
    rw [lexL] at h2
    by_cases p1 : x < y
    · rw [if_pos p1]; omega
    · rw [if_neg p1] at h2 ⊢
      by_cases p2 : y < x
      · rw [if_pos p2] at h2; omega
      · rw [if_neg p2] at h2 ⊢
        exact lex_snoc a b i (by simpa using h) h2
theorem wth_app (L : Nat → Ch) (l : List Int) (i : Int) {k : Nat} (hk : k ≤ l.length) : wthF L (l ++ [i]) k = wthF L l k := by
  induction k with
  | zero => rfl
  | succ k ih => rw [wthF, wthF, ih (by omega), getD_app_lt (by omega)]
theorem wth_snoc (L : Nat → Ch) (l : List Int) (i : Int) : wthF L (l ++ [i]) (l ++ [i]).length = wthF L l l.length + (L i.toNat).wo := by
  rw [List.length_append, List.length_singleton, wthF, wth_app L l i (Nat.le_refl _), getD_app_last]
theorem cmp_le {L : Nat → Ch} {a b : List Int} : cmpL L a b ≤ 0 ↔ wthF L b b.length < wthF L a a.length ∨ (wthF L b b.length = wthF L a a.length ∧ (a.length < b.length ∨ (a.length = b.length ∧ lexL a b ≤ 0))) := by
  unfold cmpL orF sgn
  by_cases p1 : wthF L b b.length < wthF L a a.length
  · simp [p1]
  · by_cases p2 : wthF L a a.length < wthF L b b.length
    · rw [if_neg p1, if_pos p2]; simp; omega
    · have : wthF L b b.length = wthF L a a.length := by omega
      rw [if_neg p1, if_neg p2]
      by_cases p3 : (a.length : Int) < b.length
      · simp [p3]; omega
      · by_cases p4 : (b.length : Int) < a.length
        · rw [if_neg p3, if_pos p4]; simp; omega
        · rw [if_neg p3, if_neg p4]; simp; omega
theorem cmp_lt {L : Nat → Ch} {a b : List Int} : cmpL L a b < 0 ↔ wthF L b b.length < wthF L a a.length ∨ (wthF L b b.length = wthF L a a.length ∧ (a.length < b.length ∨ (a.length = b.length ∧ lexL a b < 0))) := by
  unfold cmpL orF sgn
  by_cases p1 : wthF L b b.length < wthF L a a.length
  · simp [p1]
  · by_cases p2 : wthF L a a.length < wthF L b b.length
    · rw [if_neg p1, if_pos p2]; simp; omega
    · have : wthF L b b.length = wthF L a a.length := by omega
      rw [if_neg p1, if_neg p2]
      by_cases p3 : (a.length : Int) < b.length
      · simp [p3]; omega
      · by_cases p4 : (b.length : Int) < a.length
        · rw [if_neg p3, if_pos p4]; simp; omega
        · rw [if_neg p3, if_neg p4]; simp; omega
theorem cmp_ok (L : Nat → Ch) : CmpOk (cmpL L) where
  refl a := cmp_le.2 (.inr ⟨rfl, .inr ⟨rfl, by rw [lex_refl]; omega⟩⟩)
  trans a b c h1 h2 := by
    rw [cmp_le] at h1 h2 ⊢
    rcases h1 with h1 | ⟨e1, h1⟩ <;> rcases h2 with h2 | ⟨e2, h2⟩
    · left; omega
    · left; omega
    · left; omega
    · right
      refine ⟨by omega, ?_⟩
      rcases h1 with h1 | ⟨l1, h1⟩ <;> rcases h2 with h2 | ⟨l2, h2⟩
      · left; omega
      · left; omega
      · left; omega
      · right; exact ⟨by omega, lex_trans _ _ _ h1 h2⟩
  tot a b h := by
    rw [cmp_lt] at h
    rw [cmp_le]
    by_cases p1 : wthF L a a.length < wthF L b b.length
    · exact .inl p1
    · have e : wthF L a a.length = wthF L b b.length := by
        by_cases p2 : wthF L b b.length < wthF L a a.length
        · exact absurd (.inl p2) h
        · omega
      refine .inr ⟨e, ?_⟩
      by_cases p3 : b.length < a.length
      · exact .inl p3
      · have e2 : b.length = a.length := by
          by_cases p4 : a.length < b.length
          · exact absurd (.inr ⟨e.symm, .inl p4⟩) h
          · omega
        exact .inr ⟨e2, lex_tot _ _ fun q => h (.inr ⟨e.symm, .inr ⟨e2.symm, q⟩⟩)⟩
  snoc a b i h := by
    rw [cmp_le] at h ⊢
    rw [wth_snoc, wth_snoc]
    simp only [List.length_append, List.length_singleton]
    rcases h with h | ⟨e, h | ⟨l, h⟩⟩
    · left; omega
    · right; exact ⟨by omega, .inl (by omega)⟩
    · right; exact ⟨by omega, .inr ⟨by omega, lex_snoc a b i l h⟩⟩
/-- The clear chances are in ascending order, and what they are. -/
theorem clr_asc (S : Nat → Sp2) (m : Nat) (L : Nat → Ch) (n : Nat) : ∀ a b, a < b → b < (clrL S m L n).length → (clrL S m L n).getD a 0 < (clrL S m L n).getD b 0 := by
  induction n with
  | zero => intro a b _ h; simp [clrL] at h
  | succ n ih =>
    intro a b hab hb
    unfold clrL at hb ⊢
    by_cases q : clrB S m (L n) = true
    · rw [if_pos q] at hb ⊢
      simp only [List.length_append, List.length_singleton] at hb
      rw [getD_app_lt (l := clrL S m L n) (by omega)]
      by_cases e : b < (clrL S m L n).length
      · rw [getD_app_lt e]; exact ih a b hab e
      · have : b = (clrL S m L n).length := by omega
        subst this
        rw [getD_app_last]
        have := inx_at (clrL_inx S m L n) (k := a) hab
        omega
    · rw [if_neg q] at hb ⊢; exact ih a b hab hb
theorem clr_mem {S : Nat → Sp2} {m : Nat} {L : Nat → Ch} {n : Nat} {i : Int} : i ∈ clrL S m L n ↔ 0 ≤ i ∧ i < n ∧ clrB S m (L i.toNat) = true := by
  induction n with
  | zero => simp [clrL]; omega
  | succ n ih =>
    unfold clrL
    by_cases q : clrB S m (L n) = true
    · rw [if_pos q, List.mem_append, ih, List.mem_singleton]
      constructor
      · rintro (⟨h1, h2, h3⟩ | rfl)
        · exact ⟨h1, by omega, h3⟩
        · exact ⟨by omega, by omega, by simpa using q⟩
      · rintro ⟨h1, h2, h3⟩
        by_cases e : i = (n : Int)
        · exact .inr e
        · exact .inl ⟨h1, by omega, h3⟩
    · rw [if_neg q, ih]
      constructor
      · rintro ⟨h1, h2, h3⟩; exact ⟨h1, by omega, h3⟩
      · rintro ⟨h1, h2, h3⟩
        refine ⟨h1, ?_, h3⟩
        by_cases e : i = (n : Int)
        · subst e; exact absurd (by simpa using h3) q
        · omega
/-- A right list. -/
def RtL (L : Nat → Ch) (n : Nat) (S : Nat → Sp2) (m : Nat) (per : Int) (l : List Int) : Prop :=
  ∀ k, k < l.length → (0 ≤ l.getD k 0 ∧ l.getD k 0 < n ∧ clrB S m (L (l.getD k 0).toNat) = true) ∧ (1 ≤ k → l.getD (k - 1) 0 < l.getD k 0 ∧ flw (L (l.getD (k - 1) 0).toNat) (L (l.getD k 0).toNat) per = true)
theorem rt_rls {L : Nat → Ch} {n : Nat} {S : Nat → Sp2} {m : Nat} {per : Int} {l : List Int} :
    RtL L n S m per l ↔ RLs (fun j i => flw (L j.toNat) (L i.toNat) per) (fun k => (clrL S m L n).getD k 0) (clrL S m L n).length l := by
  have key : ∀ i : Int, (0 ≤ i ∧ i < n ∧ clrB S m (L i.toNat) = true) ↔ ∃ j, j < (clrL S m L n).length ∧ i = (clrL S m L n).getD j 0 := by
    intro i
    rw [← clr_mem, List.mem_iff_getElem]
    constructor
    · rintro ⟨j, hj, e⟩; exact ⟨j, hj, by simp [List.getD, List.getElem?_eq_getElem hj, e]⟩
    · rintro ⟨j, hj, e⟩; exact ⟨j, hj, by simp [List.getD, List.getElem?_eq_getElem hj] at e; exact e.symm⟩
  unfold RtL RLs
  constructor
  · intro h k hk; exact ⟨(key _).1 (h k hk).1, (h k hk).2⟩
  · intro h k hk; exact ⟨(key _).2 (h k hk).1, (h k hk).2⟩
/-- Best is right, and no right list comes before it. -/
theorem best_ok (L : Nat → Ch) (n : Nat) (S : Nat → Sp2) (m : Nat) (per : Int) : RtL L n S m per (bestL L n S m per) ∧ ∀ x, RtL L n S m per x → cmpL L (bestL L n S m per) x ≤ 0 := by
  have h := st_dp (fol := fun j i => flw (L j.toNat) (L i.toNat) per) (cmp_ok L) (clr_asc S m L n) (clrL S m L n).length (Nat.le_refl _)
  exact ⟨rt_rls.2 h.2.1, fun x hx => h.2.2 x (rt_rls.1 hx)⟩
theorem best_worth (L : Nat → Ch) (n : Nat) (S : Nat → Sp2) (m : Nat) (per : Int) {x : List Int} (h : RtL L n S m per x) : wthF L x x.length ≤ wthF L (bestL L n S m per) (bestL L n S m per).length := by
  have := cmp_le.1 ((best_ok L n S m per).2 x h)
  omega
theorem RtL.inx {L : Nat → Ch} {n : Nat} {S : Nat → Sp2} {m : Nat} {per : Int} {l : List Int} (h : RtL L n S m per l) : ixNo n (fun j => l.getD j 0) l.length = false := by
  refine anyTo_no.2 fun k hk => ?_
  have := (h k hk).1
  show (!(decide (0 ≤ l.getD k 0) && decide (l.getD k 0 < n))) = false
  rw [decide_eq_true this.1, decide_eq_true this.2.1]; rfl
theorem RtL.asc {L : Nat → Ch} {n : Nat} {S : Nat → Sp2} {m : Nat} {per : Int} {l : List Int} (h : RtL L n S m per l) : anyTo (dscB (fun j => l.getD j 0)) l.length = false := by
  refine anyTo_no.2 fun k hk => ?_
  unfold dscB
  by_cases q : 1 ≤ k
  · have := ((h k hk).2 q).1
    rw [decide_eq_true q, Bool.true_and]
    exact decide_eq_false (by show ¬ (l.getD k 0 ≤ l.getD (k - 1) 0); omega)
  · rw [decide_eq_false q, Bool.false_and]
/-- What a right list is worth. -/
theorem RtL.wr {L : Nat → Ch} {n : Nat} {S : Nat → Sp2} {m : Nat} {per : Int} {l : List Int} (h : RtL L n S m per l) (hv : vdB L n = true) : wrR L n l = (wthF L l l.length, 0) := wr_d hv h.inx h.asc
end Go.Proofs.Ytbmenpfpeadckaa
