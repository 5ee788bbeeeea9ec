/-
  Contracts of package span and of its reference: spans (validity, sums, opposites, hulls, meets, wider spans).
-/
import Derived.Test.YtchikfegpoonjaaRows
import Derived.WalkKit
import Derived.WalkSpells
import Derived.WalkLawsBesides
import Derived.Handy
import Derived.Lib.Hide
namespace Go.Proofs.Ytchikfegpoonjaa
open Go.RowKit

/-- The world has at most grown. -/
abbrev Bl (w w' : World) : Prop := Below w.heap.size w w'

theorem Bl.rf (w : World) : Bl w w := Below.refl _ _
theorem Bl.tr {a b c : World} (h : Bl a b) (k : Bl b c) : Bl a c := Below.trans h (k.mono h.size)
theorem bcell {W w1 : World} (hb : Bl W w1) : (∀ b o, b < W.heap.size → w1.cell? ⟨b, o, none⟩ = W.cell? ⟨b, o, none⟩) ∧ (∀ b o, b < W.heap.size → w1.frozen? ⟨b, o, none⟩ = W.frozen? ⟨b, o, none⟩) :=
  ⟨fun b o h => hb.cell (p := ⟨b, o, none⟩) h, fun b o h => hb.frozen (p := ⟨b, o, none⟩) h⟩
theorem ret_bool {a b : Bool} (h : a = b) : Ending.returned (.bool a) = .returned (.bool b) := by rw [h]
theorem ret_int {k : IntKind} {a b : Int} (h : a = b) : Ending.returned (.int k a) = .returned (.int k b) := by rw [h]

def vS (lo hi : Int) : Bool := decide (-1000000000000 ≤ lo) && decide (lo ≤ hi) && decide (hi ≤ 1000000000000)

set_option maxHeartbeats 400000 in
theorem validSpan_any (lo hi : Int) (w : World) :
    Calls Try.prog 35 #[.agg #[.int .i64 lo, .int .i64 hi]] w fun e w' => e = .returned (.bool (vS lo hi)) ∧ Bl w w' := by
  go_enter Try.func35, Try.ntmps35
  go_wp2
  all_goals (go_ret; exact ⟨ret_bool (by simp [vS]; try omega), by go_grown⟩)

/-- A span and an error as a result. -/
def rS (r : Int × Int × Int) : Value := .tuple #[.agg #[.int .i64 r.1, .int .i64 r.2.1], .int .i64 r.2.2]

def limF (lo hi : Int) : Int × Int × Int := if lo < -1000000000000 ∨ 1000000000000 < hi then (0, 0, 4) else (lo, hi, 0)
def chkF (lo hi : Int) : Int × Int × Int := if vS lo hi then (lo, hi, 0) else (0, 0, 4)

set_option maxHeartbeats 400000 in
theorem limited_any (lo hi : Int) (w : World) :
    Calls Try.prog 26 #[.int .i64 lo, .int .i64 hi] w fun e w' => e = .returned (rS (limF lo hi)) ∧ Bl w w' := by
  by_cases h1 : lo < -1000000000000
  · go_enter Try.func26, Try.ntmps26
    go_wp2
    go_returns
    exact ⟨by rw [limF, if_pos (.inl h1)]; rfl, by go_grown⟩
  · by_cases h2 : 1000000000000 < hi
    · go_enter Try.func26, Try.ntmps26
      go_wp2
      go_returns
      exact ⟨by rw [limF, if_pos (.inr h2)]; rfl, by go_grown⟩
    · go_enter Try.func26, Try.ntmps26
      go_wp2
      go_returns
      exact ⟨by rw [limF, if_neg (by omega)]; rfl, by go_grown⟩
end Go.Proofs.Ytchikfegpoonjaa
