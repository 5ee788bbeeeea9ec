/-
  Package ledger: what counts, kept in a map whose keys are structs.
-/
import Derived.Test.YtbmenpfpeadckaaLA
import Derived.Maps.OwnOps
import Derived.Maps.OwnSet
import Derived.Maps.Views
import Derived.DeepKeys4
namespace Go.Proofs.Ytbmenpfpeadckaa
open Go.RowKit Go.Maps
set_option linter.unusedSimpArgs false
set_option linter.unusedVariables false

abbrev slotV (d : Int) (f : Bool) : Value := .agg #[.int .i64 d, .bool f]
theorem laidOutL : laidOutB Try.prog = true := by kernel_rfl
theorem slotRow : (112 : TypeId) < Try.prog.types.size := of_decide_eq_true (by kernel_rfl)
theorem slotWide : (match Try.prog.underlying 112 with | some (.array _ _) | some (.struct _) => true | _ => false) = true := by kernel_rfl
theorem slotKey : Try.prog.keyType 112 = true := by kernel_rfl
theorem slotCells : Try.prog.cellsOf 112 = 2 := by kernel_rfl
set_option maxRecDepth 100000 in
theorem slotKeyed : Keyed Try.prog 112 := Keyed.of_law (deep_law_laid laidOutL (m := 2) (by omega) slotRow (by kernel_rfl) slotWide)
theorem succ_of_lt {a b : Nat} (h : a < b) : ∃ m, b = m + 1 := ⟨b - 1, by omega⟩
theorem typesSucc : ∃ m, Try.prog.types.size = m + 1 := succ_of_lt slotRow
def keyL (d : Int) (f : Bool) : Lit := .string (keyBytes [.int .i64 d, .bool f])
theorem keyOf_slot {d : Int} {f : Bool} (h : -9223372036854775808 ≤ d ∧ d ≤ 9223372036854775807) : keyOf Try.prog 112 (slotV d f) = some (keyL d f) := by
  have hw : (Lit.int .i64 d).wf = true := by simp only [Lit.wf, Bool.and_eq_true, decide_eq_true_eq]; exact h
  obtain ⟨m, hm⟩ := typesSucc
  have hf : (slotV d f).formed Try.prog 112 = true := by simp [Value.formed, Try.underlying112, slotCells]
  have hl : Try.prog.keyLits (Try.prog.types.size + 1) 112 (slotV d f).cells.toList = some [.int .i64 d, .bool f] := by
    rw [hm]
    have ci : Try.prog.cellsOf 3 = 1 := by kernel_rfl
    have cb : Try.prog.cellsOf 4 = 1 := by kernel_rfl
    simp [Program.keyLits, Try.underlying112, Try.underlying3, Try.underlying4, hw, slotCells, ci, cb, Value.cells]
  unfold keyOf
  rw [Try.underlying112]
  simp only [slotKey, hf, hl, Bool.and_self, if_true, Option.map_some, keyL]
theorem keyL_inj {d d' : Int} {f f' : Bool} (h : -9223372036854775808 ≤ d ∧ d ≤ 9223372036854775807) (h' : -9223372036854775808 ≤ d' ∧ d' ≤ 9223372036854775807) (e : keyL d f = keyL d' f') : d = d' ∧ f = f' := by
  have := slotKeyed.inj (keyOf_slot h) (by rw [e]; exact keyOf_slot h')
  simpa using this
theorem keyL_key (d : Int) (f : Bool) : WideAt.IsKeyLit (keyL d f) := trivial
def rng (d : Int) : Prop := -9223372036854775808 ≤ d ∧ d ≤ 9223372036854775807
/-- A block is a map from slots to these errors. -/
def Rec (w : World) (B k : Nat) (V : Int → Bool → Option Int) : Prop :=
  ∃ D : DataW Unit, w.ownsMap Try.prog 112 (plainElem Try.prog 3) B k D ∧ IsMap D ∧
    ∀ d f, rng d → Maps.has D (keyL d f) = (V d f).isSome ∧ D.atKey (keyL d f) (.lit (.int .i64 0)) = .lit (.int .i64 ((V d f).getD 0))
theorem Rec.made (w : World) : Rec (w.alloc (.map #[] 0)) w.heap.size 0 (fun _ _ => none) := ⟨.map [], World.ownsMap_made _ _ _ _, isMap_empty, fun d f _ => ⟨rfl, rfl⟩⟩
theorem Rec.kept {w w' : World} {B k : Nat} {V : Int → Bool → Option Int} {row : Option Nat} (h : Rec w B k V) (hg : w.grownBy w' row) (hne : some B ≠ row) : Rec w' B k V := by
  obtain ⟨D, h1, h2, h3⟩ := h
  exact ⟨D, h1.kept hg hne, h2, h3⟩
theorem bl_grownL {w w' : World} (hb : Bl w w') : w.grownBy w' none := ⟨hb.os, hb.tape, hb.output, hb.size, fun i hi _ => hb.block i hi⟩
theorem Rec.below {w w' : World} {B k : Nat} {V : Int → Bool → Option Int} (h : Rec w B k V) (hb : Bl w w') : Rec w' B k V := h.kept (bl_grownL hb) (by simp)
theorem Rec.lt {w : World} {B k : Nat} {V : Int → Bool → Option Int} (h : Rec w B k V) : B < w.heap.size := by
  obtain ⟨D, h1, _⟩ := h
  exact h1.lt
theorem Rec.congr {w : World} {B k : Nat} {V V' : Int → Bool → Option Int} (h : Rec w B k V) (e : ∀ d f, V d f = V' d f) : Rec w B k V' := by
  obtain ⟨D, h1, h2, h3⟩ := h
  exact ⟨D, h1, h2, fun d f hd => by rw [← e]; exact h3 d f hd⟩
theorem int_zeroL (w : World) : (zeroValue 3).run Try.prog w = .ok (.int .i64 0) w := by kernel_rfl
theorem wf64 {x : Int} (h : rng x) : (Lit.int .i64 x).wf = true := by simp only [Lit.wf, Bool.and_eq_true, decide_eq_true_eq]; exact h
/-- What the operations do, as equations. -/
theorem Rec.run_ok {w : World} {B k : Nat} {V : Int → Bool → Option Int} (hown : Rec w B k V) {d : Int} {f : Bool} (hd : rng d) {u : Option Int} (hu : V d f = u) :
    (Instr.lookup 84 (.map (some B)) (slotV d f) true).run Try.prog w = .ok (.tuple #[.int .i64 (u.getD 0), .bool u.isSome]) w := by
  subst hu
  obtain ⟨D, h1, h2, h3⟩ := hown
  obtain ⟨e1, e2⟩ := h3 d f hd
  obtain ⟨v, ps, hrun, hv⟩ := h1.look_ok slotKeyed Try.underlying84 (int_zeroL w) (zd := .lit (.int .i64 0)) (zp := []) (plainElem_int Try.underlying3 rfl) (keyOf_slot hd)
  rw [e2] at hv
  rw [e1] at hrun
  obtain ⟨c, rfl, hc, _⟩ := plainElem_int_inv Try.underlying3 hv
  obtain rfl : (V d f).getD 0 = c := by
    have := congrArg Prod.fst hc
    simpa using this
  exact hrun
theorem Rec.run_at {w : World} {B k : Nat} {V : Int → Bool → Option Int} (hown : Rec w B k V) {d : Int} {f : Bool} (hd : rng d) {u : Int} (hu : (V d f).getD 0 = u) :
    (Instr.lookup 84 (.map (some B)) (slotV d f) false).run Try.prog w = .ok (.int .i64 u) w := by
  subst hu
  obtain ⟨D, h1, h2, h3⟩ := hown
  obtain ⟨e1, e2⟩ := h3 d f hd
  obtain ⟨v, ps, hrun, hv⟩ := h1.lookup slotKeyed Try.underlying84 (int_zeroL w) (zd := .lit (.int .i64 0)) (zp := []) (plainElem_int Try.underlying3 rfl) (keyOf_slot hd)
  rw [e2] at hv
  obtain ⟨c, rfl, hc, _⟩ := plainElem_int_inv Try.underlying3 hv
  obtain rfl : (V d f).getD 0 = c := by
    have := congrArg Prod.fst hc
    simpa using this
  exact hrun
theorem Rec.run_put {w : World} {B k : Nat} {V : Int → Bool → Option Int} (hown : Rec w B k V) (hk : k < maxLen) {d : Int} {f : Bool} (hd : rng d) {v : Int} (hv : rng v) :
    ∃ w', (Instr.mapUpdate 84 (.map (some B)) (slotV d f) (.int .i64 v)).run Try.prog w = .ok () w' ∧ Rec w' B (k + 1) (fun d' f' => if d = d' ∧ f = f' then some v else V d' f') ∧ w.grownBy w' (some B) := by
  obtain ⟨D, h1, h2, h3⟩ := hown
  obtain ⟨w', hrun, r1, r2⟩ := h1.update slotKeyed Try.underlying84 hk (keyOf_slot (f := f) hd) (plainElem_int Try.underlying3 (wf64 hv))
  refine ⟨w', hrun, ⟨_, r1, h2.put _ _, fun d' f' hd' => ?_⟩, r2⟩
  by_cases e : d = d' ∧ f = f'
  · obtain ⟨rfl, rfl⟩ := e
    dsimp only
    rw [if_pos ⟨rfl, rfl⟩, has_put_same h2 (keyL_key _ _), atKey_put_same h2 (keyL_key _ _)]
    exact ⟨rfl, rfl⟩
  · have hne : keyL d' f' ≠ keyL d f := fun q => e (by obtain ⟨h, h'⟩ := keyL_inj hd' hd q; exact ⟨h.symm, h'.symm⟩)
    dsimp only
    rw [if_neg e, has_put_other hne, atKey_put_other hne]
    exact h3 d' f' hd'
end Go.Proofs.Ytbmenpfpeadckaa
