/-
  Package sight: the numbers of points, a map whose keys are structs.
-/
import Derived.Test.YtchikfegpoonjaaPD
import Derived.Test.YtchikfegpoonjaaPC
import Derived.Maps.OwnOps
import Derived.Maps.OwnSet
import Derived.Maps.Views
import Derived.DeepKeys4
namespace Go.Proofs.Ytchikfegpoonjaa
open Go.RowKit Go.Maps
set_option linter.unusedSimpArgs false
set_option linter.unusedVariables false

theorem bl_drS (w : World) : Bl w w.drew := ⟨rfl, rfl, rfl, Nat.le_refl _, fun _ _ => rfl⟩
theorem bl_drN (w : World) (n : Nat) : Bl w (w.drewN n) := ⟨rfl, rfl, rfl, Nat.le_refl _, fun _ _ => rfl⟩
abbrev encT (p : Spt) : Value := .agg #[.int .i64 p.1, .int .i64 p.2]
abbrev pntV (d : Int) (f : Int) : Value := .agg #[.int .i64 d, .int .i64 f]
theorem laidOutS : laidOutB Try.prog = true := by kernel_rfl
theorem pntRow : (69 : TypeId) < Try.prog.types.size := of_decide_eq_true (by kernel_rfl)
theorem pntWide : (match Try.prog.underlying 69 with | some (.array _ _) | some (.struct _) => true | _ => false) = true := by kernel_rfl
theorem pntKey : Try.prog.keyType 69 = true := by kernel_rfl
theorem pntCells : Try.prog.cellsOf 69 = 2 := by kernel_rfl
set_option maxRecDepth 100000 in
theorem pntKeyed : Keyed Try.prog 69 := Keyed.of_law (deep_law_laid laidOutS (m := 2) (by omega) pntRow (by kernel_rfl) pntWide)
theorem succ_of_ltS {a b : Nat} (h : a < b) : ∃ m, b = m + 1 := ⟨b - 1, by omega⟩
theorem typesSuccS : ∃ m, Try.prog.types.size = m + 1 := succ_of_ltS pntRow
def keyT (d : Int) (f : Int) : Lit := .string (keyBytes [.int .i64 d, .int .i64 f])
theorem keyOf_pnt {d : Int} {f : Int} (h : -9223372036854775808 ≤ d ∧ d ≤ 9223372036854775807) (hf0 : -9223372036854775808 ≤ f ∧ f ≤ 9223372036854775807) : keyOf Try.prog 69 (pntV d f) = some (keyT d f) := by
  have hw : (Lit.int .i64 d).wf = true := by simp only [Lit.wf, Bool.and_eq_true, decide_eq_true_eq]; exact h
  have hw2 : (Lit.int .i64 f).wf = true := by simp only [Lit.wf, Bool.and_eq_true, decide_eq_true_eq]; exact hf0
  obtain ⟨m, hm⟩ := typesSuccS
  have hf : (pntV d f).formed Try.prog 69 = true := by simp [Value.formed, Try.underlying69, pntCells]
  have hl : Try.prog.keyLits (Try.prog.types.size + 1) 69 (pntV d f).cells.toList = some [.int .i64 d, .int .i64 f] := by
    rw [hm]
    have ci : Try.prog.cellsOf 3 = 1 := by kernel_rfl
    simp [Program.keyLits, Try.underlying69, Try.underlying3, hw, hw2, pntCells, ci, Value.cells]
  unfold keyOf
  rw [Try.underlying69]
  simp only [pntKey, hf, hl, Bool.and_self, if_true, Option.map_some, keyT]
theorem keyT_inj {d d' : Int} {f f' : Int} (h : -9223372036854775808 ≤ d ∧ d ≤ 9223372036854775807) (h' : -9223372036854775808 ≤ d' ∧ d' ≤ 9223372036854775807) (k : -9223372036854775808 ≤ f ∧ f ≤ 9223372036854775807) (k' : -9223372036854775808 ≤ f' ∧ f' ≤ 9223372036854775807) (e : keyT d f = keyT d' f') : d = d' ∧ f = f' := by
  have := pntKeyed.inj (keyOf_pnt h k) (by rw [e]; exact keyOf_pnt h' k')
  simpa using this
theorem keyT_key (d : Int) (f : Int) : WideAt.IsKeyLit (keyT d f) := trivial
def rngS (d : Int) : Prop := -9223372036854775808 ≤ d ∧ d ≤ 9223372036854775807
/-- A block is a map from slots to these errors. -/
def Num (w : World) (B k : Nat) (V : Int → Int → Option Int) : Prop :=
  ∃ D : DataW Unit, w.ownsMap Try.prog 69 (plainElem Try.prog 3) B k D ∧ IsMap D ∧
    ∀ d f, rngS d → rngS f → Maps.has D (keyT d f) = (V d f).isSome ∧ D.atKey (keyT d f) (.lit (.int .i64 0)) = .lit (.int .i64 ((V d f).getD 0))
theorem Num.made (w : World) : Num (w.alloc (.map #[] 0)) w.heap.size 0 (fun _ _ => none) := ⟨.map [], World.ownsMap_made _ _ _ _, isMap_empty, fun d f _ _ => ⟨rfl, rfl⟩⟩
theorem Num.kept {w w' : World} {B k : Nat} {V : Int → Int → Option Int} {row : Option Nat} (h : Num w B k V) (hg : w.grownBy w' row) (hne : some B ≠ row) : Num w' B k V := by
  obtain ⟨D, h1, h2, h3⟩ := h
  exact ⟨D, h1.kept hg hne, h2, h3⟩
theorem bl_grownS {w w' : World} (hb : Bl w w') : w.grownBy w' none := ⟨hb.os, hb.tape, hb.output, hb.size, fun i hi _ => hb.block i hi⟩
theorem Num.below {w w' : World} {B k : Nat} {V : Int → Int → Option Int} (h : Num w B k V) (hb : Bl w w') : Num w' B k V := h.kept (bl_grownS hb) (by simp)
theorem Num.lt {w : World} {B k : Nat} {V : Int → Int → Option Int} (h : Num w B k V) : B < w.heap.size := by
  obtain ⟨D, h1, _⟩ := h
  exact h1.lt
theorem Num.congr {w : World} {B k : Nat} {V V' : Int → Int → Option Int} (h : Num w B k V) (e : ∀ d f, V d f = V' d f) : Num w B k V' := by
  obtain ⟨D, h1, h2, h3⟩ := h
  exact ⟨D, h1, h2, fun d f hd hf => by rw [← e]; exact h3 d f hd hf⟩
theorem int_zeroS (w : World) : (zeroValue 3).run Try.prog w = .ok (.int .i64 0) w := by kernel_rfl
theorem wf64S {x : Int} (h : rngS x) : (Lit.int .i64 x).wf = true := by simp only [Lit.wf, Bool.and_eq_true, decide_eq_true_eq]; exact h
/-- What the operations do, as equations. -/
theorem Num.run_ok {w : World} {B k : Nat} {V : Int → Int → Option Int} (hown : Num w B k V) {d : Int} {f : Int} (hd : rngS d) (hf : rngS f) {u : Option Int} (hu : V d f = u) :
    (Instr.lookup 64 (.map (some B)) (pntV d f) true).run Try.prog w = .ok (.tuple #[.int .i64 (u.getD 0), .bool u.isSome]) w := by
  subst hu
  obtain ⟨D, h1, h2, h3⟩ := hown
  obtain ⟨e1, e2⟩ := h3 d f hd hf
  obtain ⟨v, ps, hrun, hv⟩ := h1.look_ok pntKeyed Try.underlying64 (int_zeroS w) (zd := .lit (.int .i64 0)) (zp := []) (plainElem_int Try.underlying3 rfl) (keyOf_pnt hd hf)
  rw [e2] at hv
  rw [e1] at hrun
  obtain ⟨c, rfl, hc, _⟩ := plainElem_int_inv Try.underlying3 hv
  obtain rfl : (V d f).getD 0 = c := by
    have := congrArg Prod.fst hc
    simpa using this
  exact hrun
theorem Num.run_at {w : World} {B k : Nat} {V : Int → Int → Option Int} (hown : Num w B k V) {d : Int} {f : Int} (hd : rngS d) (hf : rngS f) {u : Int} (hu : (V d f).getD 0 = u) :
    (Instr.lookup 64 (.map (some B)) (pntV d f) false).run Try.prog w = .ok (.int .i64 u) w := by
  subst hu
  obtain ⟨D, h1, h2, h3⟩ := hown
  obtain ⟨e1, e2⟩ := h3 d f hd hf
  obtain ⟨v, ps, hrun, hv⟩ := h1.lookup pntKeyed Try.underlying64 (int_zeroS w) (zd := .lit (.int .i64 0)) (zp := []) (plainElem_int Try.underlying3 rfl) (keyOf_pnt hd hf)
  rw [e2] at hv
  obtain ⟨c, rfl, hc, _⟩ := plainElem_int_inv Try.underlying3 hv
  obtain rfl : (V d f).getD 0 = c := by
    have := congrArg Prod.fst hc
    simpa using this
  exact hrun
theorem Num.run_put {w : World} {B k : Nat} {V : Int → Int → Option Int} (hown : Num w B k V) (hk : k < maxLen) {d : Int} {f : Int} (hd : rngS d) (hf : rngS f) {v : Int} (hv : rngS v) :
    ∃ w', (Instr.mapUpdate 64 (.map (some B)) (pntV d f) (.int .i64 v)).run Try.prog w = .ok () w' ∧ Num w' B (k + 1) (fun d' f' => if d = d' ∧ f = f' then some v else V d' f') ∧ w.grownBy w' (some B) := by
  obtain ⟨D, h1, h2, h3⟩ := hown
  obtain ⟨w', hrun, r1, r2⟩ := h1.update pntKeyed Try.underlying64 hk (keyOf_pnt hd hf) (plainElem_int Try.underlying3 (wf64S hv))
  refine ⟨w', hrun, ⟨_, r1, h2.put _ _, fun d' f' hd' hf' => ?_⟩, r2⟩
  by_cases e : d = d' ∧ f = f'
  · obtain ⟨rfl, rfl⟩ := e
    dsimp only
    rw [if_pos ⟨rfl, rfl⟩, has_put_same h2 (keyT_key _ _), atKey_put_same h2 (keyT_key _ _)]
    exact ⟨rfl, rfl⟩
  · have hne : keyT d' f' ≠ keyT d f := fun q => e (by obtain ⟨h, h'⟩ := keyT_inj hd' hd hf' hf q; exact ⟨h.symm, h'.symm⟩)
    dsimp only
    rw [if_neg e, has_put_other hne, atKey_put_other hne]
    exact h3 d' f' hd' hf'
end Go.Proofs.Ytchikfegpoonjaa
