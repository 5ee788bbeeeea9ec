/-
  The walk of a law on fractions.
-/
import Derived.Test.YtiljfhkkinddeaaDoorS
namespace Go.Proofs.YtiljfhkkinddeaaDoor
open Go.RowKit Cal
set_option linter.unusedSimpArgs false
set_option linter.unusedVariables false

theorem sid_at (t s e : Int) (w : World) (h : sidF t = (s, e)) : Calls Tryd.prog 52 #[.int .i64 t] w fun x w' => x = .returned (.tuple #[.int .i64 s, .int .i64 e]) ∧ w = w' := by
  have := sid_any t w
  rwa [h] at this
theorem rsid_at (t s e : Int) (w : World) (h : sidF t = (s, e)) : Calls Tryd.prog 53 #[.int .i64 t] w fun x w' => x = .returned (.tuple #[.int .i64 s, .int .i64 e]) ∧ w = w' := by
  have := rsid_any t w
  rwa [h] at this
theorem mean_at (t s e : Int) (w : World) (h : meanF t = (s, e)) : Calls Tryd.prog 54 #[.int .i64 t] w fun x w' => x = .returned (.tuple #[.int .i64 s, .int .i64 e]) ∧ w = w' := by
  have := mean_any t w
  rwa [h] at this
theorem rmean_at (t s e : Int) (w : World) (h : meanF t = (s, e)) : Calls Tryd.prog 55 #[.int .i64 t] w fun x w' => x = .returned (.tuple #[.int .i64 s, .int .i64 e]) ∧ w = w' := by
  have := rmean_any t w
  rwa [h] at this
theorem sid_zero {t s : Int} (h : sidF t = (s, 0)) : 0 ≤ t ∧ t ≤ 1000000000000 ∧ s = t * 3662422 / 3652422 ∧ 0 ≤ s := by
  unfold sidF at h
  split at h
  · simp at h
  · simp at h; omega
theorem back_ok {t s m i : Int} (h : sidF t = (s, 0)) (hs : s ≤ 1000000000000) (hm : meanF s = (m, i)) : i = 0 ∧ (m = t ∨ m = t - 1) := by
  obtain ⟨h1, h2, h3, h4⟩ := sid_zero h
  unfold meanF at hm
  rw [if_neg (by omega)] at hm
  simp at hm
  omega
theorem later_ok {t u s v : Int} (h : sidF t = (s, 0)) (h' : sidF u = (v, 0)) (hu : t < u) : s < v := by
  obtain ⟨h1, h2, h3, h4⟩ := sid_zero h
  obtain ⟨h1', h2', h3', h4'⟩ := sid_zero h'
  omega

set_option maxHeartbeats 1600000 in
theorem skies_walk (t u : Int) (w : World) (hM : Mo w) :
    Calls Tryd.prog 12 #[.int .i64 t, .int .i64 u] w fun e w' => e = .returned (.bool true) ∧ Bl w w' := by
  have HM := Lib.hid hM
  clear hM
  obtain ⟨s1, s2, hs⟩ : ∃ s1 s2, sidF t = (s1, s2) := ⟨_, _, rfl⟩
  have Hs := Lib.hid hs
  clear hs
  obtain ⟨m1, m2, hm⟩ : ∃ m1 m2, meanF t = (m1, m2) := ⟨_, _, rfl⟩
  have Hm := Lib.hid hm
  clear hm
  obtain ⟨b1, b2, hb⟩ : ∃ b1 b2, meanF s1 = (b1, b2) := ⟨_, _, rfl⟩
  have Hb := Lib.hid hb
  clear hb
  obtain ⟨v1, v2, hv⟩ : ∃ v1 v2, sidF u = (v1, v2) := ⟨_, _, rfl⟩
  have Hv := Lib.hid hv
  clear hv
  by_cases he : s2 = 0
  · subst he
    obtain ⟨z1, z2, z3, z4⟩ := sid_zero Hs.out
    have Z3 := Lib.hid z3
    clear z3
    have F1 : Hid (s1 ≤ 1000000000000 → b2 = 0 ∧ (b1 = t ∨ b1 = t - 1)) := fun h => back_ok Hs.out h Hb.out
    have F2 : Hid (v2 = 0 → t < u → s1 < v1) := fun h hu => later_ok Hs.out (by rw [← h]; exact Hv.out) hu
    go_enter Tryd.func12, Tryd.ntmps12
    go_wp2_with (first | (go_at_call 52; ((first | with_reducible refine (sid_at _ _ _ _ Hs.out).mono ?_ | with_reducible refine (sid_at _ _ _ _ Hv.out).mono ?_)); rintro e w' ⟨rfl, rfl⟩) | (go_at_call 53; refine (rsid_at _ _ _ _ Hs.out).mono ?_; rintro e w' ⟨rfl, rfl⟩) | (go_at_call 54; ((first | with_reducible refine (mean_at _ _ _ _ Hm.out).mono ?_ | with_reducible refine (mean_at _ _ _ _ Hb.out).mono ?_)); rintro e w' ⟨rfl, rfl⟩) | (go_at_call 55; refine (rmean_at _ _ _ _ Hm.out).mono ?_; rintro e w' ⟨rfl, rfl⟩) | (go_at_call 20; refine (awake_any _ HM.out).mono ?_; rintro e w9 ⟨rfl, hb9⟩))
    all_goals first
      | (go_ret; exact ⟨rfl, ‹Bl w _›⟩)
      | (go_ret; exact ⟨ret_bool (by simp; omega), ‹Bl w _›⟩)
      | (exfalso; have f1 := F1.out; have f2 := F2.out; first | omega | (simp only [bne_iff_ne, ne_eq] at *; omega) | (go_ways; fail))
  · have he' : (s2 != 0) = true := by simpa using he
    clear he
    go_enter Tryd.func12, Tryd.ntmps12
    go_wp2_with (first | (go_at_call 52; ((first | with_reducible refine (sid_at _ _ _ _ Hs.out).mono ?_ | with_reducible refine (sid_at _ _ _ _ Hv.out).mono ?_)); rintro e w' ⟨rfl, rfl⟩) | (go_at_call 53; refine (rsid_at _ _ _ _ Hs.out).mono ?_; rintro e w' ⟨rfl, rfl⟩) | (go_at_call 54; ((first | with_reducible refine (mean_at _ _ _ _ Hm.out).mono ?_ | with_reducible refine (mean_at _ _ _ _ Hb.out).mono ?_)); rintro e w' ⟨rfl, rfl⟩) | (go_at_call 55; refine (rmean_at _ _ _ _ Hm.out).mono ?_; rintro e w' ⟨rfl, rfl⟩) | (go_at_call 20; refine (awake_any _ HM.out).mono ?_; rintro e w9 ⟨rfl, hb9⟩))
    all_goals (go_ret; exact ⟨rfl, ‹Bl w _›⟩)
end Go.Proofs.YtiljfhkkinddeaaDoor
