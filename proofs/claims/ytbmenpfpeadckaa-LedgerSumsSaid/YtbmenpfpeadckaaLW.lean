/-
  Contracts of package ledger and of its reference: Last.
-/
import Derived.Test.YtbmenpfpeadckaaLV
import Derived.StillTailTactics
namespace Go.Proofs.Ytbmenpfpeadckaa
open Go.RowKit Go.Maps
set_option linter.unusedSimpArgs false
set_option linter.unusedVariables false

/-- What Last returns. -/
def LastPost (L : Nat → En) (n : Nat) (w : World) (e : Ending) (w' : World) : Prop :=
  Bl w w' ∧ ((vlB L n = false ∧ e = .returned (.tuple #[.slice none 0 0, .int .i64 1])) ∨ (vlB L n = true ∧ ∃ v, e = .returned (.tuple #[v, .int .i64 0]) ∧ OwnE w' w.heap.size v (lastE L n)))
theorem ownE_bl {w w' : World} {base : Nat} {v : Value} {E : List En} (h : OwnE w base v E) (hb : Bl w w') : OwnE w' base v E := own_bN h hb
theorem ownE_mono {w : World} {base base' : Nat} {v : Value} {E : List En} (h : OwnE w base v E) (hb : base' ≤ base) : OwnE w base' v E := own_mono h hb
theorem lastE_take (L : Nat → En) (n : Nat) : lstL (vL L n) ((dysOf L n).take (dysOf L n).length) = lastE L n := by rw [List.take_length]; rfl
theorem take_succ_getD (l : List Int) {k : Nat} (hk : k < l.length) : l.take (k + 1) = l.take k ++ [l.getD k 0] := by
  rw [List.take_add_one, List.getElem?_eq_getElem hk]
  simp [List.getD, hk]
theorem take_len2 (V : Int → Bool → Option Int) (l : List Int) (k : Nat) (hl : l.length ≤ 1000) : (lstL V (l.take k)).length ≤ 2000 := by
  have := lstL_len V (l.take k)
  have h2 : (l.take k).length ≤ l.length := by simp [List.length_take]; omega
  omega
theorem asg_at {l : List Int} {k : Nat} {w : World} {A : Option Addr} (h : Sl w A l.length (fun j => l.getD j 0)) (hk : k < l.length) : ∃ b off, A = some ⟨b, off, none⟩ ∧ b < w.heap.size ∧ w.cell? ⟨b, off + k, none⟩ = some (.int .i64 (l.getD k 0)) := by
  obtain ⟨b, off, e, hl, hc⟩ := h (by omega)
  exact ⟨b, off, e, hl, hc k hk⟩