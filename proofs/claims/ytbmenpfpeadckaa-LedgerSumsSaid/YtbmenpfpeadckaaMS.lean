/-
  Package ledger: what Letters, Streak and Worst find, beside each other (pure).
-/
import Derived.Test.YtbmenpfpeadckaaML0
import Derived.Test.YtbmenpfpeadckaaMMR
import Derived.Test.YtbmenpfpeadckaaMK
namespace Go.Proofs.Ytbmenpfpeadckaa
open Go.RowKit Go.Maps Go.Shelf
set_option linter.unusedSimpArgs false
set_option linter.unusedVariables false

theorem split_at (l : List Int) {j : Nat} (hj : j < l.length) : l = l.take j ++ l.getD j 0 :: l.drop (j + 1) := by
  have h1 := List.take_append_drop (j + 1) l
  rw [take_succ_getD l hj, List.append_assoc] at h1
  exact h1.symm
/-- The place of a day among those that are picked. -/
theorem kth_yes {l : List Int} {p : Int → Bool} {j : Nat} (hj : j < l.length) (hp : p (l.getD j 0) = true) :
    ((l.take j).filter p).length < (l.filter p).length ∧ (l.filter p).getD ((l.take j).filter p).length 0 = l.getD j 0 := by
  have e := split_at l hj
  obtain ⟨d, hd⟩ : ∃ d, d = l.getD j 0 := ⟨_, rfl⟩
  rw [← hd] at e hp ⊢
  obtain ⟨a, ha⟩ : ∃ a, a = l.take j := ⟨_, rfl⟩
  obtain ⟨b, hb⟩ : ∃ b, b = l.drop (j + 1) := ⟨_, rfl⟩
  rw [← ha, ← hb] at e
  rw [← ha]
  have e2 : l.filter p = a.filter p ++ d :: b.filter p := by rw [e, List.filter_append, List.filter_cons, if_pos hp]
  rw [e2]
  refine ⟨by simp, ?_⟩
  simp [List.getD]
theorem kth_no {l : List Int} {p : Int → Bool} {j : Nat} (ha : l.Pairwise (· < ·)) (hj : j < l.length) (hp : p (l.getD j 0) = false) :
    ((l.take j).filter p).length < (l.filter p).length → (l.filter p).getD ((l.take j).filter p).length 0 ≠ l.getD j 0 := by
  have e := split_at l hj
  obtain ⟨d, hd⟩ : ∃ d, d = l.getD j 0 := ⟨_, rfl⟩
  rw [← hd] at e hp ⊢
  obtain ⟨a, haa⟩ : ∃ a, a = l.take j := ⟨_, rfl⟩
  obtain ⟨b, hb⟩ : ∃ b, b = l.drop (j + 1) := ⟨_, rfl⟩
  rw [← haa, ← hb] at e
  rw [← haa]
  have e2 : l.filter p = a.filter p ++ b.filter p := by rw [e, List.filter_append, List.filter_cons, if_neg (by rw [hp]; decide)]
  rw [e] at ha
  obtain ⟨-, h2, -⟩ := List.pairwise_append.1 ha
  have h3 := (List.pairwise_cons.1 h2).1
  rw [e2, List.length_append]
  intro hlt
  have hlt : 0 < (b.filter p).length := by omega
  have hm : (a.filter p ++ b.filter p).getD (a.filter p).length 0 ∈ b.filter p := by
    simp only [List.getD, List.getElem?_append_right (Nat.le_refl _), Nat.sub_self]
    cases hbf : b.filter p with
    | nil => rw [hbf] at hlt; simp at hlt
    | cons x r => simp
  have := h3 _ (List.mem_filter.1 hm).1
  omega
/-- The longest stretch has its days in the list. -/
def SOk (l : List Int) (s : Int × Int × Int × Int) : Prop :=
  (l = [] ∧ s = (0, -1, 0, 0)) ∨ (l ≠ [] ∧ s.1 < s.2.1 ∧ 0 ≤ s.1 ∧ 1 ≤ s.2.2.2 ∧ (∀ i, s.1 ≤ i → i < s.2.1 → i ∈ l) ∧ ∀ i, s.2.2.1 ≤ i → i < s.2.2.1 + s.2.2.2 → i ∈ l)
theorem sF_ok : ∀ (m : Nat) (l : List Int), l.length = m → (∀ d, d ∈ l → 0 ≤ d) → SOk l (sF l)
  | 0, l, hl, _ => by
    obtain rfl := List.eq_nil_of_length_eq_zero hl
    exact .inl ⟨rfl, rfl⟩
  | m + 1, l, hl, hp => by
    have hne : l ≠ [] := by intro e; rw [e] at hl; simp at hl
    obtain ⟨l', x, rfl⟩ : ∃ l' x, l = l' ++ [x] := ⟨_, _, (List.dropLast_concat_getLast hne).symm⟩
    have ih := sF_ok m l' (by simpa using hl) (fun d hd => hp d (by simp [hd]))
    have hx : 0 ≤ x := hp x (by simp)
    rw [sF_snoc]
    generalize sF l' = s at ih
    obtain ⟨b, nx, f, k⟩ := s
    refine .inr ⟨by simp, ?_⟩
    unfold sStep fst9
    simp only
    rcases ih with ⟨rfl, h⟩ | ⟨-, h1, h0, h2, h3, h4⟩
    · simp only [Prod.mk.injEq] at h
      obtain ⟨rfl, rfl, rfl, rfl⟩ := h
      rw [if_neg (show ¬ x = -1 by omega), if_pos (show (0 : Int) < x + 1 - x by omega)]
      refine ⟨by show x < x + 1; omega, hx, by show 1 ≤ x + 1 - x; omega, fun i a c => ?_, fun i a c => ?_⟩
      · have a : x ≤ i := a
        have c : i < x + 1 := c
        simp; omega
      · have a : x ≤ i := a
        have c : i < x + (x + 1 - x) := c
        simp; omega
    · simp only at h1 h2 h3 h4 h0
      have key : ∀ B, (B = b ∧ x = nx ∨ B = x) → B < x + 1 ∧ 0 ≤ B ∧ ∀ i, B ≤ i → i < x + 1 → i ∈ l' ++ [x] := by
        rintro B (⟨rfl, rfl⟩ | rfl)
        · refine ⟨by omega, h0, fun i a c => ?_⟩
          by_cases q : i = x
          · simp [q]
          · exact List.mem_append_left _ (h3 i a (by omega))
        · refine ⟨by omega, hx, fun i a c => ?_⟩
          have : i = B := by omega
          simp [this]
      have hB : (if x = nx then b else x) = b ∧ x = nx ∨ (if x = nx then b else x) = x := by
        split
        · rename_i h; exact .inl ⟨rfl, h⟩
        · exact .inr rfl
      obtain ⟨k1, k0, k2⟩ := key _ hB
      generalize (if x = nx then b else x) = B at k1 k0 k2
      by_cases q : k < x + 1 - B
      · rw [if_pos q]
        exact ⟨k1, k0, by show 1 ≤ x + 1 - B; omega, k2, fun i a c => k2 i a (by have c : i < B + (x + 1 - B) := c; omega)⟩
      · rw [if_neg q]
        exact ⟨k1, k0, h2, k2, fun i a c => List.mem_append_left _ (h4 i a c)⟩
/-- How many days of a list lie in a stretch that it has whole. -/
def insB (a m : Int) (d : Int) : Bool := decide (a ≤ d) && decide (d < a + m)
theorem ins_count {l : List Int} (ha : l.Pairwise (· < ·)) (a m : Int) (hm : 0 ≤ m) (h : ∀ i, a ≤ i → i < a + m → i ∈ l) : ((l.filter (insB a m)).length : Int) = m := by
  have e : l.filter (insB a m) = (List.range m.toNat).map fun (j : Nat) => a + (j : Int) := by
    refine asc_ext (ha.sublist List.filter_sublist) ?_ fun d => ?_
    · rw [List.pairwise_map]
      exact List.pairwise_lt_range.imp (fun h => by omega)
    · rw [List.mem_filter, List.mem_map]
      constructor
      · rintro ⟨-, hd⟩
        simp only [insB, Bool.and_eq_true, decide_eq_true_eq] at hd
        exact ⟨(d - a).toNat, List.mem_range.2 (by omega), by omega⟩
      · rintro ⟨j, hj, rfl⟩
        have := List.mem_range.1 hj
        exact ⟨h _ (by omega) (by omega), by simp [insB]; omega⟩
  rw [e, List.length_map, List.length_range]
  omega
/-- The worst of days with their offs. -/
theorem wF_worst : ∀ (m : Nat) (l : List (Int × Int)), l.length = m → l ≠ [] → (∃ y, y ∈ l ∧ wF (-1, -1) l = (y.1, absI y.2)) ∧ ∀ z, z ∈ l → absI z.2 ≤ (wF (-1, -1) l).2
  | 0, l, hl, hne => absurd (List.eq_nil_of_length_eq_zero hl) hne
  | m + 1, l, hl, hne => by
    obtain ⟨l', x, rfl⟩ : ∃ l' x, l = l' ++ [x] := ⟨_, _, (List.dropLast_concat_getLast hne).symm⟩
    rw [wF_snoc]
    have hx := abs_nn x.2
    cases l' with
    | nil =>
      have e : wStep (wF (-1, -1) []) x = (x.1, absI x.2) := by
        show wStep (-1, -1) x = _
        unfold wStep; rw [if_pos (show (-1 : Int) < _ by omega)]
      rw [e]
      exact ⟨⟨x, by simp, rfl⟩, fun z hz => by
        have : z = x := by simpa using hz
        rw [this]; exact Int.le_refl _⟩
    | cons c r =>
      obtain ⟨⟨y, hy, ey⟩, h2⟩ := wF_worst m (c :: r) (by simpa using hl) (by simp)
      generalize wF (-1, -1) (c :: r) = s at ey h2
      subst ey
      have h2 : ∀ z, z ∈ c :: r → absI z.2 ≤ absI y.2 := h2
      unfold wStep
      by_cases q : absI y.2 < absI x.2
      · rw [if_pos (show ((y.1, absI y.2) : Int × Int).2 < absI x.2 from q)]
        refine ⟨⟨x, by simp, rfl⟩, fun z hz => ?_⟩
        show absI z.2 ≤ absI x.2
        rcases List.mem_append.1 hz with h | h
        · have := h2 z h; omega
        · have : z = x := by simpa using h
          rw [this]; exact Int.le_refl _
      · rw [if_neg (show ¬ ((y.1, absI y.2) : Int × Int).2 < absI x.2 from q)]
        refine ⟨⟨y, List.mem_append_left _ hy, rfl⟩, fun z hz => ?_⟩
        show absI z.2 ≤ absI y.2
        rcases List.mem_append.1 hz with h | h
        · exact h2 z h
        · have : z = x := by simpa using h
          rw [this]; omega
theorem pick_asc (L : Nat → En) (n : Nat) (P : Int → Int → Bool) : (pickF L n P).Pairwise (· < ·) := (dys_is L n).1.sublist List.filter_sublist
/-- An off of a day that is picked. -/
theorem off_yes {L : Nat → En} {n : Nat} {d x : Int} (hv : vlB L n = true) (hd : 0 ≤ d ∧ d ≤ 182985) (h : offO L n d = some x) : offP L n d = (x, 0) := by
  unfold offP errL
  rw [if_pos hv, if_pos (by unfold dayB; simp; omega), h]
/-- What the law holds of all three. -/
structure LtFacts (L : Nat → En) (n : Nat) (q : Int) (l F : List Int) (fr len G wd H : Int) (bG bH : Bool) : Prop where
  str : strE L n q = (fr, len, G)
  wor : worE L n = (wd, H)
  g : (G == 0) = bG
  lt : decide ((F.length : Int) < (l.length : Int)) = bG
  h : (H == 0) = bH
  pos : decide (0 < (l.length : Int)) = bH
  cnt : ((l.filter (insB fr len)).length : Int) = len
  nlen : bG = false → len = 0
  rg : -9000000000 ≤ fr ∧ fr ≤ 9000000000 ∧ 0 ≤ len ∧ len ≤ 9000000000
  good : ∀ d, d ∈ l → insB fr len d = true → selB (vL L n) (mletterP q) d = false
  wst : bH = true → ∃ y, offP L n wd = (y, 0) ∧ -172800000 ≤ y ∧ y ≤ 172800000 ∧ ∀ d x, d ∈ l → offO L n d = some x → absI x ≤ absI y
  wrg : -1 ≤ wd ∧ wd ≤ 182985
theorem ltFacts (L : Nat → En) (n : Nat) (q : Int) (hC : lC L n q = 0) : ∃ fr len G wd H bG bH, LtFacts L n q (pickF L n mallP) (pickF L n (mletterP q)) fr len G wd H bG bH := by
  have hv : vlB L n = true := by
    cases hv : vlB L n with
    | true => rfl
    | false => rw [lC_1 hv] at hC; cases hC
  have hl : ∀ d, d ∈ pickF L n mallP → (0 ≤ d ∧ d ≤ 182985) ∧ ∃ x, offO L n d = some x ∧ -172800000 ≤ x ∧ x ≤ 172800000 := fun d hd => pick_mem hv hd
  have hF : ∀ P, (pickF L n mallP).filter (selB (vL L n) P) = pickF L n P := fun P => pick_pick L n P
  have hasc := pick_asc L n mallP
  have hS : ∀ d, d ∈ pickF L n (mstreakP q) → d ∈ pickF L n mallP ∧ selB (vL L n) (mletterP q) d = false := fun d hd => by
    rw [← hF] at hd
    obtain ⟨h1, h2⟩ := List.mem_filter.1 hd
    obtain ⟨-, x, hx, -⟩ := hl d h1
    rw [sel_at hx] at h2 ⊢
    unfold mstreakP at h2
    unfold mletterP
    exact ⟨h1, decide_eq_false (by have := of_decide_eq_true h2; omega)⟩
  have hS2 : ∀ d, d ∈ pickF L n mallP → selB (vL L n) (mletterP q) d = false → d ∈ pickF L n (mstreakP q) := fun d hd h => by
    rw [← hF (mstreakP q)]
    refine List.mem_filter.2 ⟨hd, ?_⟩
    obtain ⟨-, x, hx, -⟩ := hl d hd
    rw [sel_at hx] at h ⊢
    unfold mletterP at h
    unfold mstreakP
    exact decide_eq_true (by have := of_decide_eq_false h; omega)
  have hs := sF_ok _ (pickF L n (mstreakP q)) rfl (fun d hd => (hl d (hS d hd).1).1.1)
  -- the worst
  have hW : ∃ wd H bH, worE L n = (wd, H) ∧ (H == 0) = bH ∧ decide (0 < ((pickF L n mallP).length : Int)) = bH ∧ (bH = true → ∃ y, offP L n wd = (y, 0) ∧ -172800000 ≤ y ∧ y ≤ 172800000 ∧ ∀ d x, d ∈ pickF L n mallP → offO L n d = some x → absI x ≤ absI y) ∧ -1 ≤ wd ∧ wd ≤ 182985 := by
    unfold worE
    rw [if_pos hv]
    by_cases hne : pickF L n mallP = []
    · have e : dvL L n = [] := by unfold dvL; rw [hne]; rfl
      rw [e, if_pos (show (wF (-1, -1) []).1 < 0 by decide), hne]
      exact ⟨0, 8, false, rfl, rfl, rfl, (fun h => by cases h), by omega, by omega⟩
    · have hdv : dvL L n ≠ [] := by unfold dvL; simpa using hne
      obtain ⟨⟨y, hy, ey⟩, h2⟩ := wF_worst _ (dvL L n) rfl hdv
      obtain ⟨d, hd, rfl⟩ := List.mem_map.1 hy
      obtain ⟨hdr, x, hx, hxb⟩ := hl d hd
      rw [ey] at h2 ⊢
      rw [hx] at h2 ⊢
      rw [if_neg (show ¬ d < 0 by omega)]
      refine ⟨d, 0, true, rfl, rfl, decide_eq_true (by have : 0 < (pickF L n mallP).length := List.length_pos_iff.2 hne; omega), fun _ => ⟨x, off_yes hv hdr hx, hxb.1, hxb.2, fun d' x' hd' hx' => ?_⟩, by omega, by omega⟩
      have := h2 (d', (offO L n d').getD 0) (List.mem_map.2 ⟨d', hd', rfl⟩)
      rw [hx'] at this
      exact this
  obtain ⟨wd, H, bH, w1, w2, w3, w4, w5⟩ := hW
  have hlate : ∀ p : Int → Bool, (pickF L n mallP).filter p = pickF L n mallP ↔ ∀ d, d ∈ pickF L n mallP → p d = true := fun p => List.filter_eq_self
  rcases hs with ⟨e1, e2⟩ | ⟨e1, e2, e3, e4, e5, e6⟩
  · refine ⟨0, 0, 8, wd, H, false, bH, ⟨by unfold strE; rw [if_pos hC, e2, if_pos rfl], w1, rfl, ?_, w2, w3, ?_, (fun _ => rfl), by omega, (fun d hd h => ?_), w4, w5⟩⟩
    · refine decide_eq_false ?_
      rw [← hF (mletterP q), (hlate _).2 fun d hd => ?_]
      · omega
      · cases h : selB (vL L n) (mletterP q) d with
        | true => rfl
        | false => have := hS2 d hd h; rw [e1] at this; cases this
    · exact ins_count hasc 0 0 (by omega) (fun i a c => by omega)
    · unfold insB at h; simp at h; omega
  · have hmem : ∀ i, (sF (pickF L n (mstreakP q))).2.2.1 ≤ i → i < (sF (pickF L n (mstreakP q))).2.2.1 + (sF (pickF L n (mstreakP q))).2.2.2 → i ∈ pickF L n (mstreakP q) := e6
    have hstr : strE L n q = ((sF (pickF L n (mstreakP q))).2.2.1, (sF (pickF L n (mstreakP q))).2.2.2, 0) := by
      unfold strE; rw [if_pos hC, if_neg (by omega)]
    generalize (sF (pickF L n (mstreakP q))).2.2.1 = fr at hmem hstr
    generalize (sF (pickF L n (mstreakP q))).2.2.2 = len at hmem hstr e4
    have r1 := hl fr (hS fr (hmem fr (by omega) (by omega))).1
    have r2 := hl (fr + len - 1) (hS _ (hmem (fr + len - 1) (by omega) (by omega))).1
    refine ⟨fr, len, 0, wd, H, true, bH, ⟨hstr, w1, rfl, ?_, w2, w3, ?_, (fun h => by cases h), by omega, (fun d hd h => ?_), w4, w5⟩⟩
    · refine decide_eq_true ?_
      have h0 : pickF L n (mletterP q) ≠ pickF L n mallP := by
        rw [← hF (mletterP q)]
        intro h
        obtain ⟨hm1, hm2⟩ := hS fr (hmem fr (by omega) (by omega))
        have := (hlate _).1 h fr hm1
        rw [hm2] at this; cases this
      have h1 : (pickF L n (mletterP q)).Sublist (pickF L n mallP) := by rw [← hF (mletterP q)]; exact List.filter_sublist
      have h2 := h1.length_le
      have h3 : (pickF L n (mletterP q)).length ≠ (pickF L n mallP).length := fun h => h0 (h1.eq_of_length h)
      omega
    · exact ins_count hasc fr len (by omega) (fun i a c => (hS i (hmem i a c)).1)
    · unfold insB at h
      simp only [Bool.and_eq_true, decide_eq_true_eq] at h
      exact (hS d (hmem d h.1 h.2)).2
end Go.Proofs.Ytbmenpfpeadckaa
