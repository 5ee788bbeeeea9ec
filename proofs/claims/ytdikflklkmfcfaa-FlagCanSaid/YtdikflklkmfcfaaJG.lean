/-
  Which hoists are among those of a number, pure.
-/
import Derived.Test.YtdikflklkmfcfaaJD
namespace Go.Proofs.Ytdikflklkmfcfaa
open Go.RowKit
set_option linter.unusedSimpArgs false
set_option linter.unusedVariables false

theorem sIB_iff7 {a b : Nat} {f g : Nat → Int} : sIB a f b g = true ↔ a = b ∧ ∀ j, j < a → f j = g j := by
  have key : ∀ m, eqTo f g m = true ↔ ∀ j, j < m → f j = g j := by
    intro m
    induction m with
    | zero => simp [eqTo]
    | succ m ih =>
      rw [eqTo, Bool.and_eq_true, decide_eq_true_eq, ih]
      constructor
      · intro ⟨x, y⟩ j hj; by_cases e : j = m; (subst e; exact y); exact x j (by omega)
      · intro h; exact ⟨fun j hj => h j (by omega), h m (by omega)⟩
  unfold sIB
  rw [Bool.and_eq_true, decide_eq_true_eq, key]
theorem okH_left {h : List Nat} {f : Nat} (h0 : h.length ≠ 0) (e : okH (h ++ [f]) = true) : okH h = true := by
  have hl : (h ++ [f]).length = h.length + 1 := by simp
  obtain ⟨h14, ht⟩ := vhB_iff.1 e
  rw [hl] at h14 ht
  refine vhB_iff.2 ⟨by omega, ?_⟩
  rw [hoTo, Bool.and_eq_true] at ht
  rw [← hoTo_congr (H := gI (h ++ [f])) (fun j hj => gI_left hj)]
  exact ht.1
theorem lst_left {D : Nat → Int} {h : List Nat} {f r : Nat} (hr : h.length = r) (e : mnH (h ++ [f]) = lst D (r + 1)) : mnH h = lst D r := by
  rw [mnH_snoc, lst_snoc] at e
  exact (List.append_inj' e rfl).1
theorem mem_itr (D : Nat → Int) (L r : Nat) (hr : r ≤ 4) : ∀ x, x ∈ itr D L r [[]] ↔ (x.length = r ∧ (∀ f, f ∈ x → hasB L f = true) ∧ (r = 0 ∨ okH x = true) ∧ mnH x = lst D r) := by
  induction r with
  | zero =>
    intro x
    constructor
    · intro hx
      obtain rfl : x = [] := by simpa [itr] using hx
      exact ⟨rfl, (fun f hf => by cases hf), .inl rfl, rfl⟩
    · rintro ⟨h, -⟩
      obtain rfl := List.length_eq_zero_iff.1 h
      simp [itr]
  | succ r ih =>
    intro x
    rw [itr_snoc, List.mem_flatMap]
    constructor
    · rintro ⟨h, hh, hx⟩
      obtain ⟨a1, a2, a3, a4⟩ := (ih (by omega) h).1 hh
      rw [extH, List.mem_flatMap] at hx
      obtain ⟨f, hf, hx⟩ := hx
      split at hx
      · rename_i hc
        obtain rfl : x = h ++ [f] := by simpa using hx
        simp only [cH, Bool.and_eq_true, beq_iff_eq] at hc
        obtain ⟨⟨c1, c2⟩, c3⟩ := hc
        refine ⟨by simp [a1], fun g hg => ?_, .inr c2, by rw [c3, a1]⟩
        rcases List.mem_append.1 hg with hg | hg
        · exact a2 g hg
        · obtain rfl : g = f := by simpa using hg
          exact c1
      · cases hx
    · rintro ⟨a1, a2, a3, a4⟩
      have a3 : okH x = true := a3.resolve_left (by omega)
      rcases List.eq_nil_or_concat x with rfl | ⟨h, f, rfl⟩
      · simp at a1
      · rw [List.concat_eq_append] at a1 a2 a3 a4 ⊢
        have hl : h.length = r := by simpa using a1
        have hk : r = 0 ∨ okH h = true := by
          by_cases h0 : r = 0
          · exact .inl h0
          · exact .inr (okH_left (by omega) a3)
        have hm : mnH h = lst D r := lst_left hl a4
        have hs : okS h := by
          rcases hk with h0 | h0
          · obtain rfl := List.length_eq_zero_iff.1 (hl.trans h0); unfold okS; rfl
          · exact (vhB_iff.1 h0).2
        have hf : f < 13 := by
          have := okH_snoc (f := f) hs (by omega)
          rw [a3] at this
          simp only [Bool.true_eq, Bool.and_eq_true, decide_eq_true_eq] at this
          exact this.1.1
        refine ⟨h, (ih (by omega) h).2 ⟨hl, fun g hg => a2 g (by simp [hg]), hk, hm⟩, ?_⟩
        rw [extH, List.mem_flatMap]
        refine ⟨f, List.mem_range.2 hf, ?_⟩
        have hc : cH D L h f = true := by
          simp only [cH, Bool.and_eq_true, beq_iff_eq]
          exact ⟨⟨a2 f (by simp), a3⟩, by rw [hl]; exact a4⟩
        rw [if_pos hc]; simp
theorem flg_has {H : Nat → Int} {m : Nat} (h : ∀ j, j < m → 0 ≤ H j) (f : Nat) : hasB (flgF H m) f = true ↔ ∃ j, j < m ∧ H j = f := by
  induction m with
  | zero => simp [flgF, hasB]
  | succ m ih =>
    rw [flgF, hasB_pls, Bool.or_eq_true, ih (fun j hj => h j (by omega)), decide_eq_true_eq]
    have hm := h m (by omega)
    constructor
    · rintro (⟨j, hj, e⟩ | e)
      · exact ⟨j, by omega, e⟩
      · exact ⟨m, by omega, by omega⟩
    · rintro ⟨j, hj, e⟩
      by_cases he : j = m
      · subst he; right; omega
      · left; exact ⟨j, by omega, e⟩
/-- The flags of U that are not in L. -/
def outB (U L : Nat) : Bool := (List.range 13).all fun f => !hasB U f || hasB L f
theorem outB_iff {U L : Nat} (hU : U < 8192) : outB U L = true ↔ ∀ f, hasB U f = true → hasB L f = true := by
  have e : outB U L = true ↔ ∀ f, f < 13 → hasB U f = true → hasB L f = true := by
    unfold outB
    rw [List.all_eq_true]
    constructor
    · intro h f hf hu
      have := h f (List.mem_range.2 hf)
      rw [hu] at this
      simpa using this
    · intro h f hf
      have := h f (List.mem_range.1 hf)
      cases hu : hasB U f with
      | false => rfl
      | true => rw [this hu]; rfl
  rw [e]
  constructor
  · intro h f hf
    refine h f ?_ hf
    by_cases h13 : f < 13
    · exact h13
    · have : U.testBit f = false := Nat.testBit_lt_two_pow (Nat.lt_of_lt_of_le (show U < 2 ^ 13 from hU) (Nat.pow_le_pow_right (by decide) (by omega)))
      unfold hasB at hf
      rw [this] at hf; cases hf
  · intro h f _ hf; exact h f hf
theorem andNot_zero {U L : Nat} (hU : U < 8192) (hL : L < 8192) : (bits .andNot .i64 (U : Int) (L : Int) == 0) = outB U L := by
  have e : bits .andNot .i64 (U : Int) (L : Int) = ((U &&& (2 ^ 64 - 1 - L) : Nat) : Int) := by
    show IntKind.i64.wrap ((BitVec.ofInt 64 (U : Int) &&& ~~~BitVec.ofInt 64 (L : Int)).toNat : Int) = _
    rw [BitVec.toNat_and, BitVec.toNat_not, ofInt_u64 U (by omega), ofInt_u64 L (by omega)]
    exact Lib.wrap_i64_small _ (by have := Nat.and_le_left (n := U) (m := 2 ^ 64 - 1 - L); omega)
  have hb : ∀ i, (U &&& (2 ^ 64 - 1 - L)).testBit i = (U.testBit i && (decide (i < 64) && !L.testBit i)) := fun i => by
    rw [Nat.testBit_and, show 2 ^ 64 - 1 - L = 2 ^ 64 - (L + 1) by omega, Nat.testBit_two_pow_sub_succ (by omega)]
  rw [e, Bool.eq_iff_iff, beq_iff_eq, outB_iff hU]
  have hbig : ∀ i, 64 ≤ i → U.testBit i = false := fun i hi => Nat.testBit_lt_two_pow (Nat.lt_of_lt_of_le (show U < 2 ^ 64 by omega) (Nat.pow_le_pow_right (by decide) hi))
  constructor
  · intro h f hf
    have h0 : (U &&& (2 ^ 64 - 1 - L)) = 0 := by omega
    have := hb f
    rw [h0, Nat.zero_testBit] at this
    unfold hasB at hf ⊢
    rw [hf] at this
    by_cases h64 : f < 64
    · simpa [h64] using this
    · rw [hbig f (by omega)] at hf; cases hf
  · intro h
    have h0 : (U &&& (2 ^ 64 - 1 - L)) = 0 := by
      refine Nat.eq_of_testBit_eq fun i => ?_
      rw [hb i, Nat.zero_testBit]
      cases hu : U.testBit i with
      | false => rfl
      | true => have := h i hu; unfold hasB at this; simp [this]
    rw [h0]; rfl
/-- Some hoist of the list is the one that is asked about. -/
def anyB (l : List (List Nat)) (m : Nat) (H : Nat → Int) (k : Nat) : Bool := (l.take k).any fun x => sIB x.length (gI x) m H
theorem anyB_zero (l : List (List Nat)) (m : Nat) (H : Nat → Int) : anyB l m H 0 = false := by simp [anyB]
theorem anyB_succ {l : List (List Nat)} {m : Nat} {H : Nat → Int} {k : Nat} (hk : k < l.length) : anyB l m H (k + 1) = (anyB l m H k || sIB (l.getD k []).length (gI (l.getD k [])) m H) := by
  unfold anyB
  rw [List.take_succ_eq_append_getElem hk, List.any_append, List.getD_eq_getElem?_getD, List.getElem?_eq_getElem hk]
  simp
theorem gI_lst {H : Nat → Int} {m j : Nat} (hj : j < m) (h0 : 0 ≤ H j) : gI (lst H m) j = H j := lst_at hj h0
theorem hoists_mem {n m : Nat} {D H : Nat → Int} {L : Nat} (hv : vdB n D = true) (hh : vhB m H = true) :
    anyB (hstL n D L) m H (hstL n D L).length = (sIB m (gI (dgs H m)) n D && outB (flgF H m) L) := by
  obtain ⟨h14, hd⟩ := vdB_iff.1 hv
  obtain ⟨m14, ht⟩ := vhB_iff.1 hh
  have hH : ∀ j, j < m → 0 ≤ H j := fun j hj => by obtain ⟨f, e, _⟩ := okF_nat (hoTo_at ht hj); omega
  rw [hst_itr hv, Bool.eq_iff_iff]
  unfold anyB
  rw [List.take_length, List.any_eq_true, Bool.and_eq_true, outB_iff (flgF_lt ht (Nat.le_refl _)), sIB_iff7]
  constructor
  · rintro ⟨x, hx, hs⟩
    obtain ⟨x1, x2, x3, x4⟩ := (mem_itr D L n h14.2 x).1 hx
    obtain ⟨s1, s2⟩ := sIB_iff7.1 hs
    have hmn : m = n := by omega
    have e1 : dgs H m = lst D n := by rw [← x4]; unfold mnH; rw [s1]; exact (dgs_congr (fun j hj => s2 j (by omega))).symm
    refine ⟨⟨hmn, fun j hj => by rw [e1]; exact lst_at (by omega) (dgTo_at hd (by omega)).1⟩, fun f hf => ?_⟩
    obtain ⟨j, hj, e⟩ := (flg_has hH f).1 hf
    have e2 := s2 j (by omega)
    rw [e] at e2
    refine x2 f ?_
    unfold gI at e2
    rw [List.getD_eq_getElem?_getD, List.getElem?_eq_getElem (by omega)] at e2
    have e2 : ((x[j]'(by omega) : Nat) : Int) = f := e2
    have e3 : x[j]'(by omega) = f := by omega
    rw [← e3]; exact List.getElem_mem _
  · rintro ⟨⟨hmn, hs⟩, hf⟩
    subst hmn
    have e1 : dgs H m = lst D m := by
      refine List.ext_getElem (by rw [dgs_len, lst_len]) fun j h1 h2 => ?_
      have hj : j < m := by rw [dgs_len] at h1; exact h1
      have e := hs j hj
      unfold gI at e
      rw [List.getD_eq_getElem?_getD, List.getElem?_eq_getElem h1] at e
      have e' : gI (lst D m) j = D j := lst_at hj (dgTo_at hd hj).1
      unfold gI at e'
      rw [List.getD_eq_getElem?_getD, List.getElem?_eq_getElem h2] at e'
      have e : (((dgs H m)[j] : Nat) : Int) = D j := e
      have e' : (((lst D m)[j] : Nat) : Int) = D j := e'
      omega
    have hg : ∀ j, j < m → gI (lst H m) j = H j := fun j hj => lst_at hj (hH j hj)
    refine ⟨lst H m, (mem_itr D L m h14.2 _).2 ⟨lst_len H m, fun f hx => ?_, .inr ?_, ?_⟩, ?_⟩
    · obtain ⟨j, hj, rfl⟩ := List.mem_map.1 hx
      have hj := List.mem_range.1 hj
      exact hf _ ((flg_has hH _).2 ⟨j, hj, by have := hH j hj; omega⟩)
    · unfold okH
      rw [lst_len]
      refine vhB_iff.2 ⟨m14, ?_⟩
      rw [hoTo_congr hg]; exact ht
    · unfold mnH
      rw [lst_len, dgs_congr hg, e1]
    · rw [lst_len]
      exact sIB_iff7.2 ⟨rfl, hg⟩
end Go.Proofs.Ytdikflklkmfcfaa
