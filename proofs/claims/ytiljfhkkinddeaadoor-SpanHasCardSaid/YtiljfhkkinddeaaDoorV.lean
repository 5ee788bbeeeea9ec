/-
  The law's own 'has', and the spans' operations told by what they have.
-/
import Derived.Test.YtiljfhkkinddeaaDoorS
import Derived.Deep.DeepCutAuto
namespace Go.Proofs.YtiljfhkkinddeaaDoor
open Go.RowKit Cal
set_option linter.unusedSimpArgs false
set_option linter.unusedVariables false

set_option maxHeartbeats 400000 in
theorem has_t (lo hi n : Int) (w : World) (h1 : lo ≤ n) (h2 : n ≤ hi) :
    Calls Tryd.prog 43 #[.agg #[.int .i64 lo, .int .i64 hi], .int .i64 n] w fun e w' => e = .returned (.bool true) ∧ w' = w.alloc (.cells #[.int .i64 lo, .int .i64 hi] 37) := by
  go_enter Tryd.func43, Tryd.ntmps43
  go_wp2
  go_ret
  exact ⟨rfl, rfl⟩
set_option maxHeartbeats 400000 in
theorem has_f (lo hi n : Int) (w : World) (h : n < lo ∨ hi < n) :
    Calls Tryd.prog 43 #[.agg #[.int .i64 lo, .int .i64 hi], .int .i64 n] w fun e w' => e = .returned (.bool false) ∧ w' = w.alloc (.cells #[.int .i64 lo, .int .i64 hi] 37) := by
  by_cases h1 : n < lo
  · go_enter Tryd.func43, Tryd.ntmps43
    go_wp2
    go_ret
    exact ⟨rfl, rfl⟩
  · have h2 : hi < n := by omega
    go_enter Tryd.func43, Tryd.ntmps43
    go_wp2
    go_ret
    exact ⟨ret_bool (by simp; omega), rfl⟩
theorem rvS_t (lo hi : Int) (w : World) (h : vS lo hi = true) : Calls Tryd.prog 36 #[.agg #[.int .i64 lo, .int .i64 hi]] w fun e w' => e = .returned (.bool true) ∧ Bl w w' := by
  have := rvalidSpan_any lo hi w
  rwa [h] at this
theorem rvS_f (lo hi : Int) (w : World) (h : vS lo hi = false) : Calls Tryd.prog 36 #[.agg #[.int .i64 lo, .int .i64 hi]] w fun e w' => e = .returned (.bool false) ∧ Bl w w' := by
  have := rvalidSpan_any lo hi w
  rwa [h] at this
theorem meet_at (al ah bl bh : Int) (w : World) (ha : vS al ah = true) (hb : vS bl bh = true) (r : Int × Int × Int) (h : (if max al bl > min ah bh then (0, 0, 8) else (max al bl, min ah bh, 0)) = r) :
    Calls Tryd.prog 37 #[.agg #[.int .i64 al, .int .i64 ah], .agg #[.int .i64 bl, .int .i64 bh]] w fun e w' => e = .returned (rS r) ∧ Bl w w' := by
  have := meet_any al ah bl bh w
  rwa [meetF, ha, hb, Bool.and_self, if_pos rfl, h] at this
theorem hull_at (al ah bl bh : Int) (w : World) (ha : vS al ah = true) (hb : vS bl bh = true) :
    Calls Tryd.prog 33 #[.agg #[.int .i64 al, .int .i64 ah], .agg #[.int .i64 bl, .int .i64 bh]] w fun e w' => (∃ lo hi, (lo ≤ al ∧ lo ≤ bl ∧ ah ≤ hi ∧ bh ≤ hi) ∧ e = .returned (rS (lo, hi, 0))) ∧ Bl w w' := by
  have := hull_any al ah bl bh w
  rw [hullF, ha, hb, Bool.and_self, if_pos rfl] at this
  exact this.mono fun e w' ⟨h, k⟩ => ⟨⟨min al bl, max ah bh, by omega, h⟩, k⟩
theorem sum_at (al ah bl bh : Int) (w : World) (ha : vS al ah = true) (hb : vS bl bh = true) (r : Int × Int × Int) (h : limF (al + bl) (ah + bh) = r) :
    Calls Tryd.prog 29 #[.agg #[.int .i64 al, .int .i64 ah], .agg #[.int .i64 bl, .int .i64 bh]] w fun e w' => e = .returned (rS r) ∧ Bl w w' := by
  have := sum_any al ah bl bh w
  rwa [sumF, ha, hb, Bool.and_self, if_pos rfl, h] at this
theorem opp_at (al ah : Int) (w : World) (ha : vS al ah = true) :
    Calls Tryd.prog 31 #[.agg #[.int .i64 al, .int .i64 ah]] w fun e w' => e = .returned (rS (-ah, -al, 0)) ∧ Bl w w' := by
  have := opp_any al ah w
  rwa [oppF, ha, if_pos rfl] at this
theorem wid_at (al ah : Int) (w : World) (ha : vS al ah = true) (r : Int × Int × Int) (h : limF (al - 1) (ah + 1) = r) :
    Calls Tryd.prog 39 #[.agg #[.int .i64 al, .int .i64 ah], .int .i64 1] w fun e w' => e = .returned (rS r) ∧ Bl w w' := by
  have := wid_any al ah 1 w
  rwa [widF, ha, if_pos rfl, if_neg (by decide), if_neg (by decide), h] at this
theorem limF_cases (lo hi : Int) : limF lo hi = (lo, hi, 0) ∨ limF lo hi = (0, 0, 4) := by
  unfold limF; split
  · exact .inr rfl
  · exact .inl rfl
end Go.Proofs.YtiljfhkkinddeaaDoor
