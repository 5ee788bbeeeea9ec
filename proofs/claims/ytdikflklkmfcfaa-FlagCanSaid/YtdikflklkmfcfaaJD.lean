/-
  The hoists of a number place by place, pure: the reference's list is the tree's.
-/
import Derived.Test.YtdikflklkmfcfaaFZ
namespace Go.Proofs.Ytdikflklkmfcfaa
open Go.RowKit
set_option linter.unusedSimpArgs false
set_option linter.unusedVariables false

theorem newTo_congr {H G : Nat → Int} {x : Int} {n : Nat} (h : ∀ j, j < n → H j = G j) : newTo H x n = newTo G x n := by
  induction n with
  | zero => rfl
  | succ n ih => rw [newTo, newTo, ih (fun j hj => h j (by omega)), h n (by omega)]
theorem okF_congr {H G : Nat → Int} {k : Nat} (h : ∀ j, j ≤ k → H j = G j) : okF H k = okF G k := by
  unfold okF
  rw [h k (Nat.le_refl _), newTo_congr (fun j hj => h j (by omega))]
theorem hoTo_congr {H G : Nat → Int} {n : Nat} (h : ∀ j, j < n → H j = G j) : hoTo H n = hoTo G n := by
  induction n with
  | zero => rfl
  | succ n ih => rw [hoTo, hoTo, ih (fun j hj => h j (by omega)), okF_congr (fun j hj => h j (by omega))]
theorem dgs_congr {H G : Nat → Int} {n : Nat} (h : ∀ j, j < n → H j = G j) : dgs H n = dgs G n := by
  induction n with
  | zero => rfl
  | succ n ih => rw [dgs, dgs, ih (fun j hj => h j (by omega)), h n (by omega)]
/-- A beginning of a hoist that is valid so far. -/
def okS (h : List Nat) : Prop := hoTo (gI h) h.length = true
theorem newTo_mem {h : List Nat} {f : Nat} : newTo (gI h) (f : Int) h.length = !h.contains f := by
  rw [Bool.eq_iff_iff, newTo_iff]
  simp only [Bool.not_eq_true', List.contains_eq_mem, decide_eq_false_iff_not]
  constructor
  · intro hh hm
    obtain ⟨j, hj, e⟩ := List.getElem_of_mem hm
    refine hh j hj ?_
    unfold gI
    rw [List.getD_eq_getElem?_getD, List.getElem?_eq_getElem hj, e]; rfl
  · intro hh j hj e
    apply hh
    unfold gI at e
    rw [List.getD_eq_getElem?_getD, List.getElem?_eq_getElem hj] at e
    have e : (f : Int) = (h[j] : Int) := by simpa using e
    have e : f = h[j] := by omega
    rw [e]; exact List.getElem_mem hj
theorem okH_snoc {h : List Nat} {f : Nat} (hs : okS h) (h3 : h.length ≤ 3) : okH (h ++ [f]) = (decide (f < 13) && mayB f h.length && !h.contains f) := by
  have hl : (h ++ [f]).length = h.length + 1 := by simp
  unfold okH vhB
  rw [hl, show inB ((h.length + 1 : Nat) : Int) 1 4 = true from inB_iff.2 (by omega), Bool.true_and, hoTo, hoTo_congr (G := gI h) (fun j hj => gI_left hj), show hoTo (gI h) h.length = true from hs, Bool.true_and, okF, newTo_congr (G := gI h) (fun j hj => gI_left hj), gI_last, newTo_mem]
  congr 1
  rw [Bool.eq_iff_iff]
  simp only [Bool.and_eq_true, inB_iff, decide_eq_true_eq, mayB]
  omega
theorem okS_snoc {h : List Nat} {f : Nat} (e : okH (h ++ [f]) = true) : okS (h ++ [f]) := (vhB_iff.1 e).2
theorem mnH_snoc (h : List Nat) (f : Nat) : mnH (h ++ [f]) = mnH h ++ [digF f (mnH h)] := by
  have hl : (h ++ [f]).length = h.length + 1 := by simp
  unfold mnH
  rw [hl, dgs, dgs_congr (G := gI h) (fun j hj => gI_left hj), gI_last, Int.toNat_natCast]
theorem fm_congr {α β : Type} {l : List α} {f g : α → List β} (h : ∀ x, x ∈ l → f x = g x) : l.flatMap f = l.flatMap g := by
  induction l with
  | nil => rfl
  | cons a l ih => rw [List.flatMap_cons, List.flatMap_cons, h a (by simp), ih (fun x hx => h x (by simp [hx]))]
/-- The flags that may hang below h, as the reference asks. -/
def cH (D : Nat → Int) (L : Nat) (h : List Nat) (f : Nat) : Bool := hasB L f && okH (h ++ [f]) && (mnH (h ++ [f]) == lst D (h.length + 1))
def extH (D : Nat → Int) (L : Nat) (h : List Nat) : List (List Nat) := (List.range 13).flatMap fun f => if cH D L h f then [h ++ [f]] else []
def itr (D : Nat → Int) (L : Nat) : Nat → List (List Nat) → List (List Nat)
  | 0, l => l
  | r + 1, l => itr D L r (l.flatMap (extH D L))
theorem itr_snoc (D : Nat → Int) (L : Nat) (r : Nat) : ∀ l, itr D L (r + 1) l = (itr D L r l).flatMap (extH D L) := by
  induction r with
  | zero => intro l; rfl
  | succ r ih => intro l; rw [itr, ih]; rfl
theorem itr_nil (D : Nat → Int) (L r : Nat) : itr D L r [] = [] := by
  induction r with
  | zero => rfl
  | succ r ih => rw [itr, List.flatMap_nil, ih]
theorem itr_app (D : Nat → Int) (L r : Nat) : ∀ a b, itr D L r (a ++ b) = itr D L r a ++ itr D L r b := by
  induction r with
  | zero => intro a b; rfl
  | succ r ih => intro a b; rw [itr, List.flatMap_append, ih]; rfl
theorem itr_flat (D : Nat → Int) (L r : Nat) {α : Type} (g : α → List (List Nat)) (l : List α) : itr D L r (l.flatMap g) = l.flatMap fun x => itr D L r (g x) := by
  induction l with
  | nil => exact itr_nil D L r
  | cons x l ih => rw [List.flatMap_cons, itr_app, ih, List.flatMap_cons]
theorem tre_itr {n : Nat} {D : Nat → Int} {L : Nat} (hd : dgTo D n = true) (hn4 : n ≤ 4) (r : Nat) : ∀ (h : List Nat) (left : Nat), h.length + r = n → okS h → mnH h = lst D h.length → (∀ f, f < 13 → hasB left f = (hasB L f && !h.contains f)) →
    tre (wnB D) r h (lst D h.length) left = itr D L r [h] := by
  induction r with
  | zero => intro h left _ _ _ _; rfl
  | succ r ih =>
    intro h left hlen hs hm hl
    have hi : h.length < n := by omega
    have h3 : h.length ≤ 3 := by omega
    have key : ∀ f, f < 13 → canB (wnB D) h (lst D h.length) left f = cH D L h f := by
      intro f hf
      have hD := dgTo_at hd hi
      have e1 : (mnH (h ++ [f]) == lst D (h.length + 1)) = wnB D h.length (digF f (lst D h.length)) := by
        rw [mnH_snoc, hm, lst_snoc, wnB, Bool.eq_iff_iff, beq_iff_eq, beq_iff_eq]
        constructor
        · intro e
          have e : digF f (lst D h.length) = (D h.length).toNat := by simpa using List.append_cancel_left e
          omega
        · intro e
          rw [e, Int.toNat_natCast]
      unfold canB cH
      rw [hl f hf, okH_snoc hs h3, e1, decide_eq_true hf]
      cases hasB L f <;> cases h.contains f <;> cases mayB f h.length <;> simp
    rw [itr, List.flatMap_cons, List.flatMap_nil, List.append_nil, extH, itr_flat, tre]
    refine fm_congr fun f hf => ?_
    have hf := List.mem_range.1 hf
    rw [key f hf]
    cases hc : cH D L h f with
    | false => simp [itr_nil]
    | true =>
      rw [if_pos rfl, if_pos rfl]
      simp only [cH, Bool.and_eq_true, beq_iff_eq] at hc
      obtain ⟨⟨c1, c2⟩, c3⟩ := hc
      have hl1 : (h ++ [f]).length = h.length + 1 := by simp
      have e3 : lst D h.length ++ [digF f (lst D h.length)] = lst D (h ++ [f]).length := by
        rw [hl1, ← c3, mnH_snoc, hm]
      rw [e3]
      refine ih (h ++ [f]) (clr left f) (by rw [hl1]; omega) (okS_snoc c2) (by rw [c3, hl1]) fun g hg => ?_
      rw [hasB_clr, hl g hg]
      simp only [List.contains_eq_mem, List.mem_append, List.mem_singleton]
      by_cases e : f = g
      · subst e; simp
      · have e' : ¬ g = f := fun h => e h.symm
        simp [e, e']
/-- The reference's hoists are the tree's. -/
theorem hst_itr {n : Nat} {D : Nat → Int} {L : Nat} (hv : vdB n D = true) : hstL n D L = itr D L n [[]] := by
  obtain ⟨h14, hd⟩ := vdB_iff.1 hv
  exact tre_itr hd h14.2 n [] L (by simp) (by unfold okS; rfl) rfl (fun f hf => by simp)
end Go.Proofs.Ytdikflklkmfcfaa
