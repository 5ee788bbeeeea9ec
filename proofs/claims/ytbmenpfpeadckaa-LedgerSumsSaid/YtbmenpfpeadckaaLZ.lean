/-
  Package ledger: days with their offs; what rounds keep; the closures that say what an off must be.
-/
import Derived.Test.YtbmenpfpeadckaaLV
import Derived.Test.YtbmenpfpeadckaaSO
import Derived.Laws.EntriesVeiled
import Derived.RangeFuncNested
import Derived.RangeFuncBound
import Derived.RangeFuncCalls
import Derived.RangeFuncLeaves
import Derived.RangeFuncFrom
import Derived.RangeFuncBox
import Derived.Shelf.Abstract
import Derived.WalkKit
import Derived.OwnWalkIn
import Derived.TacticsInMore
import Derived.LoopNIn
import Derived.LoopIn
namespace Go.Proofs.Ytbmenpfpeadckaa
open Go.RowKit Go.Maps Go.Shelf
set_option linter.unusedSimpArgs false
set_option linter.unusedVariables false

/-- A day and its off. -/
abbrev DO := { x : Int × Int // 0 ≤ x.1 ∧ x.1 ≤ 182985 ∧ -172800000 ≤ x.2 ∧ x.2 ≤ 172800000 }
def encD (x : DO) : Array Value := #[.int .i64 x.1.1, .int .i64 x.1.2]
def toDO (d o : Int) : DO := if h : 0 ≤ d ∧ d ≤ 182985 ∧ -172800000 ≤ o ∧ o ≤ 172800000 then ⟨(d, o), h⟩ else ⟨(0, 0), by omega⟩
theorem toDO_at {d o : Int} (h : 0 ≤ d ∧ d ≤ 182985 ∧ -172800000 ≤ o ∧ o ≤ 172800000) : (toDO d o).1 = (d, o) := by rw [toDO, dif_pos h]
/-- What a day hands over. -/
def selD (V : Int → Bool → Option Int) (P : Int → Int → Bool) (d : Int) : List DO :=
  match offV V d with
  | some o => if P d o = true then [toDO d o] else []
  | none => []
theorem sel_none {V : Int → Bool → Option Int} {P : Int → Int → Bool} {d : Int} (h : offV V d = none) : selD V P d = [] := by simp [selD, h]
theorem sel_no {V : Int → Bool → Option Int} {P : Int → Int → Bool} {d o : Int} (h : offV V d = some o) (hp : P d o = false) : selD V P d = [] := by simp [selD, h, hp]
theorem sel_yes {V : Int → Bool → Option Int} {P : Int → Int → Bool} {d o : Int} (h : offV V d = some o) (hp : P d o = true) : selD V P d = [toDO d o] := by simp [selD, h, hp]
def oL (V : Int → Bool → Option Int) (P : Int → Int → Bool) : List Int → List DO
  | [] => []
  | d :: l => selD V P d ++ oL V P l
theorem oL_snoc (V : Int → Bool → Option Int) (P : Int → Int → Bool) (l : List Int) (d : Int) : oL V P (l ++ [d]) = oL V P l ++ selD V P d := by
  induction l with
  | nil => simp [oL]
  | cons x l ih => rw [List.cons_append, oL, ih, oL, List.append_assoc]
theorem sel_len (V : Int → Bool → Option Int) (P : Int → Int → Bool) (d : Int) : (selD V P d).length ≤ 1 := by
  unfold selD
  split
  · split <;> simp
  · simp
theorem oL_len (V : Int → Bool → Option Int) (P : Int → Int → Bool) (l : List Int) : (oL V P l).length ≤ l.length := by
  induction l with
  | nil => simp [oL]
  | cons x l ih => have := sel_len V P x; rw [oL]; simp only [List.length_append, List.length_cons]; omega
theorem oL_lt (V : Int → Bool → Option Int) (P : Int → Int → Bool) {l : List Int} {k : Nat} (hk : k < l.length) (hl : l.length ≤ 1000) : (oL V P (l.take k)).length < 1001 := by
  have := oL_len V P (l.take k)
  have h2 : (l.take k).length ≤ k := by simp [List.length_take]; omega
  omega
/-- Some blocks lie as they lay. -/
def KpS (K : Nat → Prop) (X Y : World) : Prop := X.heap.size ≤ Y.heap.size ∧ ∀ k, K k → Y.heap[k]? = X.heap[k]?
theorem KpS.trans {K : Nat → Prop} {A B C : World} (h : KpS K A B) (k : KpS K B C) : KpS K A C := ⟨Nat.le_trans h.1 k.1, fun i hi => (k.2 i hi).trans (h.2 i hi)⟩
theorem KpS.rf (K : Nat → Prop) (W : World) : KpS K W W := ⟨Nat.le_refl _, fun _ _ => rfl⟩
theorem KpS.put {K : Nat → Prop} {n₀ : Nat} (hK : ∀ k, K k → k < n₀) (W : World) (l : Nat) (o : Obj) (h : n₀ ≤ l) : KpS K W (W.putObj l o) :=
  ⟨by simp, fun k hk => World.putObj_heap_other (by have := hK k hk; omega)⟩
theorem KpS.bl {K : Nat → Prop} {X Y : World} (hb : Bl X Y) (hK : ∀ k, K k → k < X.heap.size) : KpS K X Y := ⟨hb.size, fun k hk => hb.block k (hK k hk)⟩
theorem KpS.cell {K : Nat → Prop} {X Y : World} (h : KpS K X Y) {b o : Nat} {v : Value} (hk : K b) (hc : X.cell? ⟨b, o, none⟩ = some v) : Y.cell? ⟨b, o, none⟩ = some v :=
  (World.cell?_of_block (h.2 b hk)).trans hc
theorem Rec.same {w w' : World} {B k : Nat} {V : Int → Bool → Option Int} (h : Rec w B k V) (hb : w'.heap[B]? = w.heap[B]?) : Rec w' B k V := by
  obtain ⟨D, ⟨es, clock, h0, h1, h2, h3⟩, hm, hd⟩ := h
  exact ⟨D, ⟨es, clock, hb.trans h0, h1, h2, h3⟩, hm, hd⟩
theorem row_kept {W W' : World} {base : Nat} {e : TypeId} {size : Nat} {v : Value} {n : Nat} {xs : List Value} (h : W.ownsRow base e size v n xs) (hk : ∀ g, v.ownBlock = some g → W'.heap[g]? = W.heap[g]?) : W'.ownsRow base e size v n xs := by
  refine ⟨h.1, ?_⟩
  rcases h.2 with h0 | ⟨g, cap, cur, rfl, hb, hg, rest⟩
  · exact .inl h0
  · exact .inr ⟨g, cap, cur, rfl, hb, (hk g rfl).trans hg, rest⟩
end Go.Proofs.Ytbmenpfpeadckaa
