/-
  Package night: the first one of the lists, pure; maps of whatever values.
-/
import Derived.Test.YtbmenpfpeadckaaNH
import Derived.Maps.OwnOps
import Derived.Maps.Views
namespace Go.Proofs.Ytbmenpfpeadckaa
open Go.RowKit Go.Maps
set_option linter.unusedSimpArgs false
set_option linter.unusedVariables false

section
variable (fol : Int → Int → Bool) (cmp : List Int → List Int → Int)
/-- The first list that ends with i, when the first k of the chances before it have been looked at. -/
def endF (E : Int → List Int) (G : Nat → Int) (i : Int) : Nat → List Int
  | 0 => [i]
  | k + 1 => if fol (G k) i = true ∧ cmp (E (G k) ++ [i]) (endF E G i k) < 0 then E (G k) ++ [i] else endF E G i k
structure FS where
  E : Int → List Int
  b : List Int
/-- What is known behind k of the chances. -/
def stF (G : Nat → Int) : Nat → FS
  | 0 => ⟨fun _ => [], []⟩
  | k + 1 => ⟨fun j => if j = G k then endF fol cmp (stF G k).E G (G k) k else (stF G k).E j, if cmp (endF fol cmp (stF G k).E G (G k) k) (stF G k).b < 0 then endF fol cmp (stF G k).E G (G k) k else (stF G k).b⟩
end
/-- A list of indexes, not too long. -/
def okL (n k : Nat) (l : List Int) : Prop := inx n l ∧ l.length ≤ k
theorem okL.mono {n k k' : Nat} {l : List Int} (h : okL n k l) (hk : k ≤ k') : okL n k' l := ⟨h.1, Nat.le_trans h.2 hk⟩
theorem okL.snoc {n k : Nat} {l : List Int} {i : Int} (h : okL n k l) (hi : 0 ≤ i ∧ i < (n : Int)) : okL n (k + 1) (l ++ [i]) := by
  refine ⟨fun x hx => ?_, by have := h.2; simp; omega⟩
  rcases List.mem_append.1 hx with q | q
  · exact h.1 x q
  · simp at q; subst q; exact hi
theorem end_ok {fol : Int → Int → Bool} {cmp : List Int → List Int → Int} {E : Int → List Int} {G : Nat → Int} {i : Int} {n K : Nat} (hi : 0 ≤ i ∧ i < (n : Int)) (hE : ∀ j, okL n K (E j)) (k : Nat) : okL n (K + 1) (endF fol cmp E G i k) ∧ endF fol cmp E G i k ≠ [] := by
  induction k with
  | zero => exact ⟨⟨fun x hx => by simp [endF] at hx; subst hx; exact hi, by simp [endF]⟩, by simp [endF]⟩
  | succ k ih =>
    unfold endF
    split
    · exact ⟨(hE _).snoc hi, by simp⟩
    · exact ih
theorem st_ok {fol : Int → Int → Bool} {cmp : List Int → List Int → Int} {G : Nat → Int} {n m : Nat} (hG : ∀ k, k < m → 0 ≤ G k ∧ G k < (n : Int)) (k : Nat) (hk : k ≤ m) :
    (∀ j, okL n k ((stF fol cmp G k).E j)) ∧ okL n k (stF fol cmp G k).b ∧ ∀ j, j < k → (stF fol cmp G k).E (G j) ≠ [] := by
  induction k with
  | zero => exact ⟨fun j => ⟨fun x hx => by simp [stF] at hx, by simp [stF]⟩, ⟨fun x hx => by simp [stF] at hx, by simp [stF]⟩, fun j hj => by omega⟩
  | succ k ih =>
    obtain ⟨h1, h2, h3⟩ := ih (by omega)
    have he := end_ok (fol := fol) (cmp := cmp) (G := G) (hG k (by omega)) h1 k
    refine ⟨fun j => ?_, ?_, fun j hj => ?_⟩
    · simp only [stF]
      split
      · exact he.1
      · exact (h1 j).mono (by omega)
    · simp only [stF]
      split
      · exact he.1
      · exact h2.mono (by omega)
    · simp only [stF]
      split
      · exact he.2
      · rename_i hne
        rcases Nat.lt_succ_iff_lt_or_eq.1 hj with q | q
        · exact h3 j q
        · subst q; exact absurd rfl hne
/-- How a map's elements of whatever type read: as themselves. -/
def heldR (v : Value) : Option (DataW Value × List MemPlace) := some (.held v, [])
/-- A block is a map from numbers to these values. -/
def MapV (w : World) (B k : Nat) (V : Int → Value) : Prop :=
  ∃ D : DataW Value, w.ownsMap Try.prog 3 heldR B k D ∧ IsMap D ∧ ∀ j : Int, D.atKey (.int .i64 j) (.held (.slice none 0 0)) = .held (V j)
theorem MapV.made (w : World) : MapV (w.alloc (.map #[] 0)) w.heap.size 0 (fun _ => .slice none 0 0) := ⟨.map [], World.ownsMap_made _ _ _ _, isMap_empty, fun j => rfl⟩
theorem MapV.kept {w w' : World} {B k : Nat} {V : Int → Value} {row : Option Nat} (h : MapV w B k V) (hg : w.grownBy w' row) (hne : some B ≠ row) : MapV w' B k V := by
  obtain ⟨D, h1, h2, h3⟩ := h
  exact ⟨D, h1.kept hg hne, h2, h3⟩
theorem bl_grownN {w w' : World} (hb : Bl w w') : w.grownBy w' none := ⟨hb.os, hb.tape, hb.output, hb.size, fun i hi _ => hb.block i hi⟩
theorem MapV.below {w w' : World} {B k : Nat} {V : Int → Value} (h : MapV w B k V) (hb : Bl w w') : MapV w' B k V := h.kept (bl_grownN hb) (by simp)
theorem slice_zero (w : World) : (zeroValue 24).run Try.prog w = .ok (.slice none 0 0) w := by kernel_rfl
theorem keyI {j : Int} (h : -9223372036854775808 ≤ j ∧ j ≤ 9223372036854775807) : keyOf Try.prog 3 (.int .i64 j) = some (.int .i64 j) := keyOf_int_mk Try.underlying3 (by simp only [Lit.wf, Bool.and_eq_true, decide_eq_true_eq]; exact h)
/-- A look-up in a map of whatever values. -/
theorem wpList_lookup_heldN {w : World} {ops : Array Oper} {rest : List Oper} {o : Oper} {a : Act} {Q : Exit → Act → World → Prop} (hg : o.guard = none) (m x : Operand) (t : TypeId) (hop : o.op = Op.lookup t m x false) (ht : Try.prog.underlying t = some (.map 3 24))
    (B k : Nat) (V : Int → Value) (hm : a.eval m = .map (some B)) (hown : MapV w B k V) (j : Int) (hx : a.eval x = .int .i64 j) (hj : -9223372036854775808 ≤ j ∧ j ≤ 9223372036854775807) (u : Value) (hu : V j = u)
    (hK : wpList Try.prog ops Q rest (a.put o.dst u) w) : wpList Try.prog ops Q (o :: rest) a w := by
  refine wpList_plain hg fun K' hK' => ?_
  subst hu
  obtain ⟨D, h1, h2, h3⟩ := hown
  obtain ⟨v, ps, hrun, hv⟩ := h1.lookup (int_keyed Try.underlying3) ht (slice_zero w) (zd := .held (.slice none 0 0)) (zp := []) rfl (keyI hj)
  rw [h3 j] at hv
  obtain rfl : v = V j := by simp [heldR] at hv; exact hv.1
  unfold Oper.wp
  simp [execOp, hop, hm, hx, hrun, Result.andThen]
  exact hK' _ _ hK
theorem wpList_update_heldN {w : World} {ops : Array Oper} {rest : List Oper} {o : Oper} {a : Act} {Q : Exit → Act → World → Prop} (hg : o.guard = none) (m x y : Operand) (t : TypeId) (hop : o.op = Op.mapUpdate t m x y) (ht : Try.prog.underlying t = some (.map 3 24))
    (B k : Nat) (V : Int → Value) (hm : a.eval m = .map (some B)) (hown : MapV w B k V) (hk : k < maxLen) (j : Int) (hx : a.eval x = .int .i64 j) (hj : -9223372036854775808 ≤ j ∧ j ≤ 9223372036854775807) (v : Value) (hv : a.eval y = v)
    (hK : ∀ w', MapV w' B (k + 1) (fun i => if i = j then v else V i) → w.grownBy w' (some B) → wpList Try.prog ops Q rest (a.put o.dst undef) w') : wpList Try.prog ops Q (o :: rest) a w := by
  obtain ⟨D, h1, h2, h3⟩ := hown
  refine wpList_mapUpdate_own w hg m x y t hop 3 24 (int_keyed Try.underlying3) ht heldR B k D hm h1 hk _ v _ hx hv (keyI hj) (.held v) [] rfl fun w' r1 r2 => hK w' ⟨_, r1, h2.put _ _, fun i => ?_⟩ r2
  show _ = DataW.held (if i = j then v else V i)
  by_cases e : i = j
  · rw [if_pos e, e, atKey_put_same (k := .int .i64 j) h2 trivial]
  · rw [if_neg e, atKey_put_other (fun q => e (by injection q)), h3 i]
theorem IsL.kept {w w' : World} {B lo : Nat} {v : Value} {l : List Int} (h : IsL w lo v l) (hg : w.grownBy w' (some B)) (hB : B < lo) : IsL w' lo v l := by
  obtain ⟨A, c, h0, h1, h2, h3, h4⟩ := h
  refine ⟨A, c, h0, h1, h2, fun hn => ?_, h4⟩
  obtain ⟨b, off, e, hl, hc⟩ := h3 hn
  have hb : lo ≤ b := h4 _ e
  exact ⟨b, off, e, Nat.lt_of_lt_of_le hl hg.size, fun j hj => (hg.cell_far ⟨b, off + j, none⟩ hl (by intro q; have : b = B := Option.some.inj q; omega)).trans (hc j hj)⟩
theorem isL_nil (w : World) (lo : Nat) : IsL w lo (.slice none 0 0) [] := ⟨none, 0, rfl, Nat.le_refl _, Nat.zero_le _, fun h => absurd h (by simp), fun a e => by cases e⟩
theorem isL_one {w : World} {lo b : Nat} {i : Int} (h : w.cell? ⟨b, 0, none⟩ = some (.int .i64 i)) (hb : lo ≤ b) : IsL w lo (.slice (some ⟨b, 0, none⟩) 1 1) [i] :=
  ⟨some ⟨b, 0, none⟩, 1, rfl, Nat.le_refl _, by decide, fun _ => ⟨b, 0, rfl, ltb h, fun j hj => by
    have hj : j < 1 := hj
    obtain rfl : j = 0 := by omega
    exact h⟩, fun a e => by cases e; exact hb⟩
theorem inC_intL (l : List Int) : inC8 (fun j => l.getD j 0) l.length = intL l := by
  apply List.ext_getElem?
  intro j
  by_cases hj : j < l.length
  · rw [inC_atN _ hj]; simp [intL, List.getD, List.getElem?_eq_getElem hj]
  · rw [List.getElem?_eq_none (by rw [inC_lenN]; omega), List.getElem?_eq_none (by rw [intL_len]; omega)]
end Go.Proofs.Ytbmenpfpeadckaa
