/-
  What the row of the words takes of the package's variable, and a world that holds it; how a list of numbers that came in reads.
-/
import Derived.Test.YtajlfflbphbjnaaDoorCards
import Derived.Test.YtajlfflbphbjnaaDoorTie
import Derived.Test.YtajlfflbphbjnaaDoorBZW
import Derived.ProofKit
import Derived.OpenShut
import Derived.Deep.Slices
import Derived.Deep.DeepHandedRow
import Derived.Lib.LaidU8
import Derived.Lib.SmallJoins
import Derived.Stop.LaidErr
namespace Go.Proofs.YtajlfflbphbjnaaDoor
open Go.ChangeShapes Go.WideShapes Go.ChangeAt Go.RowKit Go.Joins Go.Deep
set_option linter.unusedSimpArgs false
set_option linter.unusedVariables false

theorem own : ownKnob Tryd.prog.godebug = none := by kernel_rfl
theorem gWd : Tryd.prog.globalNamed "noongun/ball.words" = some 0 := by kernel_rfl
theorem gWdT : (Tryd.prog.globals[0]?).map (·.type) = some 49 := by kernel_rfl
theorem cWd : Tryd.prog.cellsOf 49 = 6 := by kernel_rfl
theorem cStrW : Tryd.prog.cellsOf 9 = 1 := by kernel_rfl
theorem kIntW : Tryd.prog.cellsOf 3 = 1 := by kernel_rfl
/-- An array of strings that reads as a table holds the table's strings, cell for cell. -/
theorem cells_of_strs {H : Type} {enc : TypeId × Value → H} {P : Program} {w : World} {base : Nat} {sp : Nat → Bool} {held : Bool} {fuel : Nat} {t e : TypeId} {n : Nat} {cs : List Value} {zs : List (List UInt8)} {p : List MemPlace}
    (ht : P.underlying t = some (.array n e)) (he : P.underlying e = some .string) (hce : P.cellsOf e = 1) (hct : P.cellsOf t = n)
    (h : DataW.trod enc P w base sp held fuel t cs = some (.agg (zs.map fun z => .lit (.string z)), p)) : cs = zs.map fun z => Value.string ⟨z.toArray⟩ := by
  cases fuel with
  | zero => simp [DataW.trod] at h
  | succ fuel =>
    simp only [DataW.trod, ht, hce, hct, Nat.mul_one] at h
    split at h
    · rename_i hl
      obtain ⟨xs, hm, hx⟩ := Option.map_eq_some_iff.1 h
      have hxs : xs.map (·.1) = zs.map fun z => (DataW.lit (.string z) : DataW H) := by
        have := congrArg Prod.fst hx
        simpa using this
      have hxl : xs.length = n := by simpa using Lib.mapM_length hm
      have hzl : zs.length = n := by
        have := congrArg List.length hxs
        simp at this
        omega
      apply List.ext_getElem?
      intro i
      by_cases hi : i < n
      · obtain ⟨b, hb, hf⟩ := Lib.mapM_at hm i i (by simp [hi])
        obtain ⟨s, hc, hz, _⟩ := DataW.trod_string he hf
        have h1 : cs[i]? = some (.string s) := by
          have := congrArg (·[0]?) hc
          simpa [List.getElem?_take, List.getElem?_drop] using this
        have h2 : (xs.map (·.1))[i]? = some b.1 := by simp [hb]
        rw [hxs, hz] at h2
        simp only [List.getElem?_map, Option.map_eq_some_iff, DataW.lit.injEq, Lit.string.injEq] at h2
        obtain ⟨z', hz', e⟩ := h2
        rw [h1, List.getElem?_map, hz', e]
        rfl
      · rw [List.getElem?_eq_none (by omega), List.getElem?_eq_none (by simp; omega)]
    · cases h
theorem wdOf {W : World} (h : laidMetH Tryd.prog Rows.ballWordsRow.laid W) : Wd W := by
  have h0 : laidMet Tryd.prog Rows.ballWordsRow.laid W := h
  obtain ⟨g, t, cs, fuel, p, hg, ht, hvar, hd⟩ := Lib.laidMet.reads h0 (n := "noongun/ball.words") (d := Rows.laid_noongun_ball_words) (by exact List.mem_cons_self)
  obtain rfl := Option.some.inj (gWd.symm.trans hg)
  obtain rfl := Option.some.inj (gWdT.symm.trans ht)
  have hl := cells_of_strs (zs := wdL) Tryd.underlying49 Tryd.underlying9 cStrW cWd hd
  have hc : ∀ i, W.cell? ⟨0, i, none⟩ = cs[i]? := fun i => World.var?_cell gWd hvar i
  have hcs : cs = (wdL.map fun z => Value.string ⟨z.toArray⟩).toArray := by rw [← hl]
  subst hcs
  exact ⟨hc 0, hc 1, hc 2, hc 3, hc 4, hc 5⟩
set_option maxRecDepth 100000 in
theorem op_intsW {H : Type} {enc : TypeId × Value → H} {w : World} {base : Nat} {spare : Nat → Bool} {held : Bool} {r : Reach} {b0 : Nat} {v : Value} {d : DataW H} {p : List MemPlace} (hv : Value.okWide Tryd.prog w r b0 22 v) (h : DataW.Trod enc Tryd.prog w base spare held 22 v d p) :
    ∃ (A : Option Addr) (n c : Nat) (f : Nat → Int), v = .slice A n c ∧ n ≤ maxLen ∧ Sn w A n f := by
  obtain ⟨A, n, c, rfl⟩ := okWide_slice Tryd.underlying22 hv
  obtain ⟨fuel, hf⟩ := h
  rcases open_ints Tryd.underlying22 Tryd.underlying3 kIntW hf with ⟨hcs, _⟩ | ⟨a, len, cap, zs, hcs, _, hl, hm, hz, _, hcell, _⟩
  · simp [Value.cells] at hcs
    obtain ⟨rfl, rfl, rfl⟩ := hcs
    exact ⟨none, 0, 0, fun _ => 0, rfl, by decide, fun h => absurd h (by omega)⟩
  · simp [Value.cells] at hcs
    obtain ⟨rfl, rfl, rfl⟩ := hcs
    refine ⟨some a, n, c, fun j => zs.getD j 0, rfl, by omega, fun hn => ?_⟩
    have hzl : n ≤ zs.length := by rw [hz]; split <;> omega
    obtain ⟨b, off, spot⟩ := a
    have hspot : spot = none := by simpa [Addr.add] using World.cell?_spot (hcell 0 (by omega))
    subst hspot
    refine ⟨b, off, rfl, ?_, fun j hj => by rw [← add_plain]; exact hcell j (by omega)⟩
    have := hcell 0 (by omega)
    exact World.block_lt_of_cell? w _ (by rw [add_plain] at this; exact this)
/-- A new content for a block of cells. -/
def refillW (cs : Array Value) : Obj → Obj
  | .cells _ t frozen => .cells cs t frozen
  | o => o
/-- A world for the witness: the settled one, the listed variable holding what its initialiser lays. -/
noncomputable def laidWorldW (os : Os) : World :=
  { World.holding Tryd.prog os ⟨#[], #[], []⟩ with heap := (World.holding Tryd.prog os ⟨#[], #[], []⟩).heap.modify 0 (refillW #[.string ⟨#[103, 111, 111, 100]⟩, .string ⟨#[119, 114, 111, 110, 103]⟩, .string ⟨#[102, 97, 108, 115, 101]⟩, .string ⟨#[97, 103, 97, 105, 110]⟩, .string ⟨#[116, 111, 108, 100]⟩, .string ⟨#[115, 105, 108, 101, 110, 116]⟩]) }
end Go.Proofs.YtajlfflbphbjnaaDoor
