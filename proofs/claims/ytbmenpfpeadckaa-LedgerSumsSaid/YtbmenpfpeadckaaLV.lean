/-
  Package ledger: the entries that count; pure.
-/
import Derived.Test.YtbmenpfpeadckaaLT
import Derived.Test.YtbmenpfpeadckaaLU
import Derived.Test.YtbmenpfpeadckaaLL
namespace Go.Proofs.Ytbmenpfpeadckaa
open Go.RowKit Go.Maps
set_option linter.unusedSimpArgs false
set_option linter.unusedVariables false

/-- What counts, as a function of day and kind. -/
abbrev vL (L : Nat → En) (n : Nat) : Int → Bool → Option Int := fun d f => lst L d f n
/-- The days of entries, in ascending order. -/
def dysOf (L : Nat → En) (n : Nat) : List Int := Lib.compact (srt ((List.range n).map fun j => (L j).day))
theorem dys_is (L : Nat → En) (n : Nat) : IsDys (vL L n) (dysOf L n) := by
  have hc := compact_asc (sorted_le ((List.range n).map fun j => (L j).day))
  refine ⟨hc.1, fun d => ?_⟩
  rw [show (∃ f, (vL L n d f).isSome = true) ↔ ∃ j, j < n ∧ (L j).day = d from lst_some_iff]
  unfold dysOf
  rw [hc.2.1 d, List.mem_mergeSort, List.mem_map]
  constructor
  · rintro ⟨j, hj, e⟩; exact ⟨j, List.mem_range.1 hj, e⟩
  · rintro ⟨j, hj, e⟩; exact ⟨j, List.mem_range.2 hj, e⟩
theorem dys_len (L : Nat → En) (n : Nat) : (dysOf L n).length ≤ n := by
  have hc := compact_asc (sorted_le ((List.range n).map fun j => (L j).day))
  refine Nat.le_trans hc.2.2 ?_
  rw [srt_len]; simp
theorem dys_eq {L : Nat → En} {n : Nat} {l : List Int} (h : IsDys (vL L n) l) : l = dysOf L n := h.unique (dys_is L n)
theorem dys_mem {L : Nat → En} {n : Nat} {d : Int} : d ∈ dysOf L n ↔ ∃ j, j < n ∧ (L j).day = d := ((dys_is L n).2 d).trans lst_some_iff
theorem lst_out {L : Nat → En} {n : Nat} {d : Int} (h : d ∉ dysOf L n) (f : Bool) : lst L d f n = none := by
  cases q : lst L d f n with
  | none => rfl
  | some x => exact absurd (((dys_is L n).2 d).2 ⟨f, by show (lst L d f n).isSome = true; rw [q]; rfl⟩) h
/-- A list of entries as a function. -/
def lE (l : List En) (j : Nat) : En := l.getD j ⟨0, false, 0⟩
theorem lE_lt (E F : List En) {j : Nat} (hj : j < E.length) : lE (E ++ F) j = lE E j := by unfold lE; simp [List.getD, List.getElem?_append_left hj]
theorem lE_last (E : List En) (x : En) : lE (E ++ [x]) E.length = x := by unfold lE; simp [List.getD]
theorem lst_snoc (E : List En) (x : En) (d : Int) (f : Bool) : lst (lE (E ++ [x])) d f (E ++ [x]).length = if slotB x d f then some x.er else lst (lE E) d f E.length := by
  rw [List.length_append, List.length_singleton, lst, lE_last, lst_congr (M := lE E) fun j hj => lE_lt E [x] hj]
theorem cor_snoc (E : List En) (x : En) : corF (lE (E ++ [x])) (E ++ [x]).length = if (lst (lE E) x.day x.fo E.length).isSome = true then corF (lE E) E.length ++ [(E.length : Int)] else corF (lE E) E.length := by
  rw [List.length_append, List.length_singleton, corF, lE_last, lst_congr (M := lE E) fun j hj => lE_lt E [x] hj]
  have : ∀ k, k ≤ E.length → corF (lE (E ++ [x])) k = corF (lE E) k := by
    intro k
    induction k with
    | zero => intro _; rfl
    | succ k ih =>
      intro hk
      rw [corF, corF, ih (by omega), lE_lt E [x] (by omega), lst_congr (M := lE E) fun j hj => lE_lt E [x] (by omega)]
  rw [this _ (Nat.le_refl _)]
/-- What counts of a day and kind. -/
def ptE (V : Int → Bool → Option Int) (d : Int) (f : Bool) : List En := match V d f with | some x => [⟨d, f, x⟩] | none => []
theorem pt_none {V : Int → Bool → Option Int} {d : Int} {f : Bool} (h : V d f = none) : ptE V d f = [] := by simp [ptE, h]
theorem pt_some {V : Int → Bool → Option Int} {d : Int} {f : Bool} {x : Int} (h : V d f = some x) : ptE V d f = [⟨d, f, x⟩] := by simp [ptE, h]
def enD (V : Int → Bool → Option Int) (d : Int) : List En := ptE V d false ++ ptE V d true
def lstL (V : Int → Bool → Option Int) : List Int → List En
  | [] => []
  | d :: l => enD V d ++ lstL V l
theorem lstL_snoc (V : Int → Bool → Option Int) (l : List Int) (d : Int) : lstL V (l ++ [d]) = lstL V l ++ enD V d := by
  induction l with
  | nil => simp [lstL]
  | cons x l ih => rw [List.cons_append, lstL, ih, lstL, List.append_assoc]
theorem pt_len (V : Int → Bool → Option Int) (d : Int) (f : Bool) : (ptE V d f).length ≤ 1 := by unfold ptE; split <;> simp
theorem lstL_len (V : Int → Bool → Option Int) (l : List Int) : (lstL V l).length ≤ 2 * l.length := by
  induction l with
  | nil => simp [lstL]
  | cons x l ih =>
    have h1 := pt_len V x false
    have h2 := pt_len V x true
    rw [lstL, enD]; simp only [List.length_append, List.length_cons]; omega
theorem lst_pt (V : Int → Bool → Option Int) (E : List En) (x : Int) (g : Bool) (d : Int) (f : Bool) (h0 : lst (lE E) x g E.length = none) :
    lst (lE (E ++ ptE V x g)) d f (E ++ ptE V x g).length = (if x = d ∧ g = f then V x g else lst (lE E) d f E.length) ∧ (corF (lE E) E.length = [] → corF (lE (E ++ ptE V x g)) (E ++ ptE V x g).length = []) := by
  cases hv : V x g with
  | none =>
    rw [pt_none hv, List.append_nil]
    refine ⟨?_, id⟩
    by_cases q : x = d ∧ g = f
    · obtain ⟨rfl, rfl⟩ := q; rw [if_pos ⟨rfl, rfl⟩, h0]
    · rw [if_neg q]
  | some y =>
    rw [pt_some hv]
    refine ⟨?_, fun hc => ?_⟩
    · rw [lst_snoc]
      by_cases q : x = d ∧ g = f
      · rw [if_pos q, if_pos (slot_iff.2 q)]
      · rw [if_neg q, if_neg (fun z => q (slot_iff.1 z))]
    · rw [cor_snoc, h0]
      simpa using hc
theorem lstL_spec (V : Int → Bool → Option Int) : ∀ (m : Nat) (l : List Int), l.length = m → l.Pairwise (· < ·) → (∀ d f, lst (lE (lstL V l)) d f (lstL V l).length = if d ∈ l then V d f else none) ∧ corF (lE (lstL V l)) (lstL V l).length = []
  | 0, l, hl, _ => by
    obtain rfl := List.eq_nil_of_length_eq_zero hl
    exact ⟨fun d f => rfl, rfl⟩
  | m + 1, l, hl, hp => by
    have hne : l ≠ [] := by intro e; rw [e] at hl; simp at hl
    obtain ⟨l', x, rfl⟩ : ∃ l' x, l = l' ++ [x] := ⟨_, _, (List.dropLast_concat_getLast hne).symm⟩
    obtain ⟨p1, -, p3⟩ := List.pairwise_append.1 hp
    have hx : x ∉ l' := fun h => by have := p3 x h x (by simp); omega
    obtain ⟨i1, i2⟩ := lstL_spec V m l' (by simpa using hl) p1
    have n0 : ∀ f, lst (lE (lstL V l')) x f (lstL V l').length = none := fun f => by rw [i1, if_neg hx]
    rw [lstL_snoc, enD, ← List.append_assoc]
    have a1 := fun d f => (lst_pt V (lstL V l') x false d f (n0 false)).1
    have a2 := (lst_pt V (lstL V l') x false 0 false (n0 false)).2 i2
    have n1 : lst (lE (lstL V l' ++ ptE V x false)) x true (lstL V l' ++ ptE V x false).length = none := by rw [a1, if_neg (by simp), n0]
    have b1 := fun d f => (lst_pt V (lstL V l' ++ ptE V x false) x true d f n1).1
    have b2 := (lst_pt V (lstL V l' ++ ptE V x false) x true 0 false n1).2 a2
    refine ⟨fun d f => ?_, b2⟩
    rw [b1, a1, i1]
    by_cases e : x = d
    · subst e
      rw [if_pos (show x ∈ l' ++ [x] by simp)]
      cases f <;> simp [hx]
    · have : (d ∈ l' ++ [x]) ↔ d ∈ l' := by simp; intro q; exact absurd q.symm e
      rw [if_neg (fun q => e q.1), if_neg (fun q => e q.1)]
      by_cases q : d ∈ l'
      · rw [if_pos q, if_pos (this.2 q)]
      · rw [if_neg q, if_neg (fun z => q (this.1 z))]
theorem lE_mem {E : List En} {j : Nat} (hj : j < E.length) : lE E j ∈ E := by unfold lE; simp [List.getD, hj]
theorem lstL_mem {V : Int → Bool → Option Int} {l : List Int} {x : En} (h : x ∈ lstL V l) : V x.day x.fo = some x.er := by
  induction l with
  | nil => cases h
  | cons d l ih =>
    rw [lstL, enD] at h
    have key : ∀ f, x ∈ ptE V d f → V x.day x.fo = some x.er := fun f hx => by
      cases hv : V d f with
      | none => rw [pt_none hv] at hx; cases hx
      | some y =>
        rw [pt_some hv] at hx
        obtain rfl := List.mem_singleton.1 hx
        exact hv
    rcases List.mem_append.1 h with h | h
    · rcases List.mem_append.1 h with h | h
      · exact key _ h
      · exact key _ h
    · exact ih h
/-- The entries that count. -/
def lastE (L : Nat → En) (n : Nat) : List En := lstL (vL L n) (dysOf L n)
theorem last_len (L : Nat → En) (n : Nat) : (lastE L n).length ≤ 2 * n := Nat.le_trans (lstL_len _ _) (by have := dys_len L n; omega)
theorem last_lst (L : Nat → En) (n : Nat) (d : Int) (f : Bool) : lst (lE (lastE L n)) d f (lastE L n).length = lst L d f n := by
  unfold lastE
  rw [(lstL_spec (vL L n) _ _ rfl (dys_is L n).1).1]
  split
  · rfl
  · rename_i h; exact (lst_out h f).symm
theorem last_cor (L : Nat → En) (n : Nat) : corF (lE (lastE L n)) (lastE L n).length = [] := (lstL_spec (vL L n) _ _ rfl (dys_is L n).1).2
theorem last_valid {L : Nat → En} {n : Nat} (hv : vlB L n = true) (hn : n ≤ 500) : vlB (lE (lastE L n)) (lastE L n).length = true := by
  refine vl_iff.2 ⟨by have := last_len L n; omega, fun k hk => ?_⟩
  have hx := lstL_mem (lE_mem hk)
  have h1 := lst_bd (vl_iff.1 hv).2 hx
  have h2 := lst_day (vl_iff.1 hv).2 hx
  exact en_iff.2 ⟨h2.1, h2.2, h1.1, h1.2⟩
theorem last_said {L : Nat → En} {n : Nat} (hv : vlB L n = true) (hn : n ≤ 500) (f : Bool) (d : Int) : saidP (lE (lastE L n)) (lastE L n).length f d = saidP L n f d := by
  unfold saidP errL
  rw [last_lst, hv, last_valid hv hn]
/-- Entries that the call owns. -/
def OwnE (w : World) (base : Nat) (v : Value) (E : List En) : Prop := w.ownsRow base 78 3 v E.length (eC (lE E) E.length)
theorem ownE_nil (w : World) (base : Nat) : OwnE w base (.slice none 0 0) [] := World.ownsRow_nil _ _ _ _
theorem ownE_snoc {w : World} {base : Nat} {v : Value} {E : List En} {x : En} (h : w.ownsRow base 78 3 v (E.length + 1) (eC (catE E.length (lE E) (fun _ => x)) (E.length + 1))) : OwnE w base v (E ++ [x]) := by
  unfold OwnE
  rw [List.length_append, List.length_singleton]
  rw [eC_congr (M := catE E.length (lE E) (fun _ => x)) fun j hj => ?_]
  · exact h
  · by_cases q : j < E.length
    · rw [lE_lt E [x] q, cat_lt q]
    · rw [show j = E.length by omega, lE_last, catE, if_neg (by omega)]
end Go.Proofs.Ytbmenpfpeadckaa
