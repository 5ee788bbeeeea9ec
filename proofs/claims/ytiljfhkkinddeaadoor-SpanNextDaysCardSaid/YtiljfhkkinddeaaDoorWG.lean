/-
  The walk of a law on days that follow one another.
-/
import Derived.Test.YtiljfhkkinddeaaDoorQ
import Derived.Test.YtiljfhkkinddeaaDoorU
namespace Go.Proofs.YtiljfhkkinddeaaDoor
open Go.RowKit Cal
set_option linter.unusedSimpArgs false
set_option linter.unusedVariables false

theorem last_date {y m d : Int} (h : IsDate 182985 y m d) : y = 2200 ∧ m = 12 ∧ d = 31 :=
  isDate_unique h ⟨by decide, by decide, by decide, by decide, by decide, by decide, by decide⟩
theorem wd_at (t a : Int) (w : World) (t1 : 0 ≤ t) (t2 : t ≤ 182985) (h : (t + 4) % 7 = a) : Calls Tryd.prog 48 #[.int .i64 t] w fun x w' => x = .returned (.tuple #[.int .i64 a, .int .i64 0]) ∧ w = w' := by
  have := weekday_any t w
  rw [show wdF t = ((t + 4) % 7, 0) by rw [wdF, if_pos ⟨t1, t2⟩]] at this
  rwa [h] at this
theorem dayOf_at (t y m d : Int) (w : World) (hM : Mo w) (h : IsDate t y m d) : Calls Tryd.prog 44 #[.agg #[.int .i64 y, .int .i64 m, .int .i64 d]] w fun e w' => e = .returned (.tuple #[.int .i64 t, .int .i64 0]) ∧ Bl w w' := by
  obtain ⟨y1, y2, m1, m2, d1, d2, e⟩ := h
  have := dayOf_ok y m d w hM (vD_iff.2 ⟨y1, y2, m1, m2, d1, d2⟩)
  rwa [e] at this

set_option maxHeartbeats 1600000 in
theorem nextDays_walk (n : Int) (w : World) (hM : Mo w) :
    Calls Tryd.prog 11 #[.int .i64 n] w fun e w' => e = .returned (.bool true) ∧ Bl w w' := by
  have HM := Lib.hid hM
  clear hM
  by_cases hn : 0 ≤ n ∧ n ≤ 182985
  · obtain ⟨n1, n2⟩ := hn
    by_cases hl : n = 182985
    · subst hl
      go_enter Tryd.func11, Tryd.ntmps11
      go_wp2_with fail
      refine (dateOf_ok _ _ (HM.out.below (by go_grown)) n1 n2).mono ?_
      rintro e w1 ⟨⟨y, m, d, i1, rfl⟩, hb⟩
      have B1 : Bl w w1 := Bl.tr (by go_grown) hb
      have z1 := B1.size
      clear hb
      obtain ⟨rfl, rfl, rfl⟩ := last_date i1
      have I1 := Lib.hid i1
      clear i1
      unfold rD
      go_wp2_with fail
      refine (dayOf_at _ _ _ _ _ (HM.out.below (by go_grown)) I1.out).mono ?_
      rintro e w2 ⟨rfl, hb⟩
      obtain ⟨ka0, ka1, ka2, kal⟩ := kept3 (b := w1.heap.size) (x := .int .i64 2200) (y := .int .i64 12) (z := .int .i64 31) hb (by go_cell) (by go_cell) (by go_cell) (by (try simp only [World.size_alloc, World.size_setCell, World.size_drew, sz_drewN]); omega)
      have B2 : Bl w w2 := Below.trans (by go_grown) (hb.mono (by (try simp only [World.size_alloc, World.size_setCell, World.size_drew, sz_drewN]); omega))
      have z2 := B2.size
      clear hb
      go_wp2_with fail
      refine (awake_any _ (HM.out.below (by go_grown))).mono ?_
      rintro e w9 ⟨rfl, hb⟩
      have B3 : Bl w w9 := Below.trans (by go_grown) (hb.mono (by (try simp only [World.size_alloc, World.size_setCell, World.size_drew, sz_drewN]); omega))
      have z3 := B3.size
      clear hb
      go_wp2
      go_ret
      exact ⟨rfl, by go_grown⟩
    · have n3 : n ≤ 182984 := by omega
      clear hl
      obtain ⟨a, ha⟩ : ∃ a, (n + 4) % 7 = a := ⟨_, rfl⟩
      obtain ⟨b, hb'⟩ : ∃ b, (n + 1 + 4) % 7 = b := ⟨_, rfl⟩
      have a1 : 0 ≤ a := by omega
      have a2 : a < 7 := by omega
      have a3 : (a + 1) % 7 = b := by omega
      have Ha := Lib.hid ha
      have Hb := Lib.hid hb'
      have b1 : 0 ≤ b := by omega
      have b2 : b < 7 := by omega
      clear ha hb'
      go_enter Tryd.func11, Tryd.ntmps11
      go_wp2_with fail
      refine (dateOf_ok _ _ (HM.out.below (by go_grown)) n1 n2).mono ?_
      rintro e w1 ⟨⟨y, m, d, i1, rfl⟩, hb⟩
      have B1 : Bl w w1 := Bl.tr (by go_grown) hb
      have z1 := B1.size
      clear hb
      obtain ⟨y1, y2, m1, m2, d1, d2⟩ : 1700 ≤ y ∧ y ≤ 2200 ∧ 1 ≤ m ∧ m ≤ 12 ∧ 1 ≤ d ∧ d ≤ 31 := by obtain ⟨a1, a2, a3, a4, a5, a6, a7⟩ := i1; have := mon_bd y m; omega
      have I1 := Lib.hid i1
      clear i1
      unfold rD
      go_wp2_with fail
      refine (dayOf_at _ _ _ _ _ (HM.out.below (by go_grown)) I1.out).mono ?_
      rintro e w2 ⟨rfl, hb⟩
      obtain ⟨ka0, ka1, ka2, kal⟩ := kept3 (b := w1.heap.size) (x := .int .i64 y) (y := .int .i64 m) (z := .int .i64 d) hb (by go_cell) (by go_cell) (by go_cell) (by (try simp only [World.size_alloc, World.size_setCell, World.size_drew, sz_drewN]); omega)
      have B2 : Bl w w2 := Below.trans (by go_grown) (hb.mono (by (try simp only [World.size_alloc, World.size_setCell, World.size_drew, sz_drewN]); omega))
      have z2 := B2.size
      clear hb
      go_wp2_with fail
      refine (dateOf_ok _ _ (HM.out.below (by go_grown)) (by omega) (by omega)).mono ?_
      rintro e w3 ⟨⟨y', m', d', i2, rfl⟩, hb⟩
      obtain ⟨kb0, kb1, kb2, kbl⟩ := kept3 (b := w1.heap.size) (x := .int .i64 y) (y := .int .i64 m) (z := .int .i64 d) hb (by go_cell) (by go_cell) (by go_cell) (by (try simp only [World.size_alloc, World.size_setCell, World.size_drew, sz_drewN]); omega)
      have B3 : Bl w w3 := Below.trans (by go_grown) (hb.mono (by (try simp only [World.size_alloc, World.size_setCell, World.size_drew, sz_drewN]); omega))
      have z3 := B3.size
      clear hb
      obtain ⟨s1, s2, s3⟩ := isDate_next I1.out i2
      obtain ⟨e1, e2, e3, e4⟩ : 1 ≤ m' ∧ 1 ≤ d' ∧ m' ≤ 12 ∧ d' ≤ 31 := by obtain ⟨a1, a2, a3, a4, a5, a6, a7⟩ := i2; have := mon_bd y' m'; omega
      clear i2
      unfold rD
      by_cases c1 : 1 < d'
      · obtain ⟨rfl, rfl, rfl⟩ := s1 c1
        clear s1 s2 s3
        go_wp2_with fail
        refine (wd_at _ _ _ (by omega) (by omega) Ha.out).mono ?_
        rintro e w5 ⟨rfl, rfl⟩
        go_wp2_with fail
        refine (wd_at _ _ _ (by omega) (by omega) Hb.out).mono ?_
        rintro e w5 ⟨rfl, rfl⟩
        go_wp2_with fail
        refine (awake_any _ (HM.out.below (by go_grown))).mono ?_
        rintro e w9 ⟨rfl, hb⟩
        have B4 : Bl w w9 := Below.trans (by go_grown) (hb.mono (by (try simp only [World.size_alloc, World.size_setCell, World.size_drew, sz_drewN]); omega))
        have z4 := B4.size
        clear hb
        go_wp2
        go_ret
        exact ⟨rfl, by go_grown⟩
      · obtain rfl : d' = 1 := by omega
        by_cases c2 : 1 < m'
        · obtain ⟨rfl, rfl, f1⟩ := s2 rfl c2
          clear s1 s2 s3
          go_wp2_with fail
          refine (wd_at _ _ _ (by omega) (by omega) Ha.out).mono ?_
          rintro e w5 ⟨rfl, rfl⟩
          go_wp2_with fail
          refine (wd_at _ _ _ (by omega) (by omega) Hb.out).mono ?_
          rintro e w5 ⟨rfl, rfl⟩
          go_wp2_with fail
          refine (awake_any _ (HM.out.below (by go_grown))).mono ?_
          rintro e w9 ⟨rfl, hb⟩
          have B5 : Bl w w9 := Below.trans (by go_grown) (hb.mono (by (try simp only [World.size_alloc, World.size_setCell, World.size_drew, sz_drewN]); omega))
          have z5 := B5.size
          clear hb
          go_wp2
          go_ret
          exact ⟨rfl, by go_grown⟩
        · obtain rfl : m' = 1 := by omega
          obtain ⟨rfl, rfl, rfl⟩ := s3 rfl rfl
          clear s1 s2 s3
          go_wp2_with fail
          refine (wd_at _ _ _ (by omega) (by omega) Ha.out).mono ?_
          rintro e w5 ⟨rfl, rfl⟩
          go_wp2_with fail
          refine (wd_at _ _ _ (by omega) (by omega) Hb.out).mono ?_
          rintro e w5 ⟨rfl, rfl⟩
          go_wp2_with fail
          refine (awake_any _ (HM.out.below (by go_grown))).mono ?_
          rintro e w9 ⟨rfl, hb⟩
          have B6 : Bl w w9 := Below.trans (by go_grown) (hb.mono (by (try simp only [World.size_alloc, World.size_setCell, World.size_drew, sz_drewN]); omega))
          have z6 := B6.size
          clear hb
          go_wp2
          go_ret
          exact ⟨rfl, by go_grown⟩
  · have Hn := Lib.hid hn
    clear hn
    go_enter Tryd.func11, Tryd.ntmps11
    go_wp2_with fail
    refine (dateOf_bad _ _ Hn.out).mono ?_
    rintro e w1 ⟨rfl, hb⟩
    have B1 : Bl w w1 := Bl.tr (by go_grown) hb
    have z1 := B1.size
    clear hb
    unfold rD
    go_wp2_with fail
    refine (awake_any _ (HM.out.below (by go_grown))).mono ?_
    rintro e w9 ⟨rfl, hb⟩
    have B2 : Bl w w9 := Below.trans (by go_grown) (hb.mono (by (try simp only [World.size_alloc, World.size_setCell, World.size_drew, sz_drewN]); omega))
    have z2 := B2.size
    clear hb
    go_wp2
    go_ret
    exact ⟨rfl, by go_grown⟩
end Go.Proofs.YtiljfhkkinddeaaDoor
