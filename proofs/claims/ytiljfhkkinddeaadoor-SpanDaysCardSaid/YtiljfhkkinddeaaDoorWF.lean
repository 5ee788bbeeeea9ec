/-
  The walk of a law on the calendar.
-/
import Derived.Test.YtiljfhkkinddeaaDoorQ
import Derived.Test.YtiljfhkkinddeaaDoorU
namespace Go.Proofs.YtiljfhkkinddeaaDoor
open Go.RowKit Cal
set_option linter.unusedSimpArgs false
set_option linter.unusedVariables false

set_option maxHeartbeats 1600000 in
theorem days_walk (y m d n k : Int) (w : World) (hM : Mo w) :
    Calls Tryd.prog 10 #[.agg #[.int .i64 y, .int .i64 m, .int .i64 d], .int .i64 n, .int .i64 k] w fun e w' => e = .returned (.bool true) ∧ Bl w w' := by
  have HM := Lib.hid hM
  clear hM
  obtain ⟨g1, g2, hg⟩ : ∃ g1 g2, wdF n = (g1, g2) := ⟨_, _, rfl⟩
  have Hg := Lib.hid hg
  clear hg
  obtain ⟨p, hp⟩ : ∃ p, lpB k = p := ⟨_, rfl⟩
  have Hp := Lib.hid hp
  clear hp
  by_cases hv : vD y m d = true
  · have Hv := Lib.hid hv
    clear hv
    by_cases hn : 0 ≤ n ∧ n ≤ 182985
    · obtain ⟨n1, n2⟩ := hn
      obtain ⟨r, hr⟩ : ∃ r, ny y + cum y m + d - 1 = r := ⟨_, rfl⟩
      have Hr := Lib.hid hr
      clear hr
      go_enter Tryd.func10, Tryd.ntmps10
      go_wp2_with fail
      refine (dayOf_ok _ _ _ _ (HM.out.below (by go_grown)) Hv.out).mono ?_
      rintro e w1 ⟨rfl, hb⟩
      obtain ⟨ka0, ka1, ka2, kal⟩ := kept3 (b := w.heap.size) (x := .int .i64 y) (y := .int .i64 m) (z := .int .i64 d) hb (by go_cell) (by go_cell) (by go_cell) (by (try simp only [World.size_alloc, World.size_setCell, World.size_drew, sz_drewN]); omega)
      have B1 : Bl w w1 := Bl.tr (by go_grown) hb
      have z1 := B1.size
      clear hb
      rw [Hr.out]
      go_wp2_with fail
      refine (rdayOf_ok _ _ _ _ Hv.out).mono ?_
      rintro e w2 ⟨rfl, hb⟩
      have B2 : Bl w w2 := Below.trans (by go_grown) (hb.mono (by (try simp only [World.size_alloc, World.size_setCell, World.size_drew, sz_drewN]); omega))
      have z2 := B2.size
      clear hb
      rw [Hr.out]
      go_wp2_with fail
      refine (dateOf_ok _ _ (HM.out.below (by go_grown)) n1 n2).mono ?_
      rintro e w3 ⟨⟨yy, mm, dd, i1, rfl⟩, hb⟩
      have B3 : Bl w w3 := Below.trans (by go_grown) (hb.mono (by (try simp only [World.size_alloc, World.size_setCell, World.size_drew, sz_drewN]); omega))
      have z3 := B3.size
      clear hb
      have I1 := Lib.hid i1
      clear i1
      unfold rD
      go_wp2_with fail
      refine (rdateOf_ok _ _ n1 n2).mono ?_
      rintro e w4 ⟨⟨yy', mm', dd', i2, rfl⟩, hb⟩
      obtain ⟨kx0, kx1, kx2, kxl⟩ := kept3 (b := w3.heap.size) (x := .int .i64 yy) (y := .int .i64 mm) (z := .int .i64 dd) hb (by go_cell) (by go_cell) (by go_cell) (by (try simp only [World.size_alloc, World.size_setCell, World.size_drew, sz_drewN]); omega)
      have B4 : Bl w w4 := Below.trans (by go_grown) (hb.mono (by (try simp only [World.size_alloc, World.size_setCell, World.size_drew, sz_drewN]); omega))
      have z4 := B4.size
      clear hb
      obtain ⟨rfl, rfl, rfl⟩ := isDate_unique I1.out i2
      clear i2
      unfold rD
      go_wp2_with fail
      refine (weekday_any _ _).mono ?_
      rintro e w5 ⟨rfl, rfl⟩
      rw [Hg.out]
      go_wp2_with fail
      refine (rweekday_any _ _).mono ?_
      rintro e w5 ⟨rfl, rfl⟩
      rw [Hg.out]
      go_wp2_with fail
      refine (leap_any _ _).mono ?_
      rintro e w5 ⟨rfl, rfl⟩
      rw [Hp.out]
      go_wp2_with fail
      refine (rleap_any _ _).mono ?_
      rintro e w5 ⟨rfl, rfl⟩
      rw [Hp.out]
      go_wp2_with fail
      refine (awake_any _ (HM.out.below (by go_grown))).mono ?_
      rintro e w6 ⟨rfl, hb⟩
      have B5 : Bl w w6 := Below.trans (by go_grown) (hb.mono (by (try simp only [World.size_alloc, World.size_setCell, World.size_drew, sz_drewN]); omega))
      have z5 := B5.size
      clear hb
      go_wp2
      go_ret
      exact ⟨rfl, by go_grown⟩
    · have Hn := Lib.hid hn
      clear hn
      obtain ⟨r, hr⟩ : ∃ r, ny y + cum y m + d - 1 = r := ⟨_, rfl⟩
      have Hr := Lib.hid hr
      clear hr
      go_enter Tryd.func10, Tryd.ntmps10
      go_wp2_with fail
      refine (dayOf_ok _ _ _ _ (HM.out.below (by go_grown)) Hv.out).mono ?_
      rintro e w1 ⟨rfl, hb⟩
      obtain ⟨ka0, ka1, ka2, kal⟩ := kept3 (b := w.heap.size) (x := .int .i64 y) (y := .int .i64 m) (z := .int .i64 d) hb (by go_cell) (by go_cell) (by go_cell) (by (try simp only [World.size_alloc, World.size_setCell, World.size_drew, sz_drewN]); omega)
      have B1 : Bl w w1 := Bl.tr (by go_grown) hb
      have z1 := B1.size
      clear hb
      rw [Hr.out]
      go_wp2_with fail
      refine (rdayOf_ok _ _ _ _ Hv.out).mono ?_
      rintro e w2 ⟨rfl, hb⟩
      have B2 : Bl w w2 := Below.trans (by go_grown) (hb.mono (by (try simp only [World.size_alloc, World.size_setCell, World.size_drew, sz_drewN]); omega))
      have z2 := B2.size
      clear hb
      rw [Hr.out]
      go_wp2_with fail
      refine (dateOf_bad _ _ Hn.out).mono ?_
      rintro e w3 ⟨rfl, hb⟩
      have B3 : Bl w w3 := Below.trans (by go_grown) (hb.mono (by (try simp only [World.size_alloc, World.size_setCell, World.size_drew, sz_drewN]); omega))
      have z3 := B3.size
      clear hb
      unfold rD
      go_wp2_with fail
      refine (rdateOf_bad _ _ Hn.out).mono ?_
      rintro e w4 ⟨rfl, hb⟩
      obtain ⟨kx0, kx1, kx2, kxl⟩ := kept3 (b := w3.heap.size) (x := .int .i64 0) (y := .int .i64 0) (z := .int .i64 0) hb (by go_cell) (by go_cell) (by go_cell) (by (try simp only [World.size_alloc, World.size_setCell, World.size_drew, sz_drewN]); omega)
      have B4 : Bl w w4 := Below.trans (by go_grown) (hb.mono (by (try simp only [World.size_alloc, World.size_setCell, World.size_drew, sz_drewN]); omega))
      have z4 := B4.size
      clear hb
      unfold rD
      go_wp2_with fail
      refine (weekday_any _ _).mono ?_
      rintro e w5 ⟨rfl, rfl⟩
      rw [Hg.out]
      go_wp2_with fail
      refine (rweekday_any _ _).mono ?_
      rintro e w5 ⟨rfl, rfl⟩
      rw [Hg.out]
      go_wp2_with fail
      refine (leap_any _ _).mono ?_
      rintro e w5 ⟨rfl, rfl⟩
      rw [Hp.out]
      go_wp2_with fail
      refine (rleap_any _ _).mono ?_
      rintro e w5 ⟨rfl, rfl⟩
      rw [Hp.out]
      go_wp2_with fail
      refine (awake_any _ (HM.out.below (by go_grown))).mono ?_
      rintro e w6 ⟨rfl, hb⟩
      have B5 : Bl w w6 := Below.trans (by go_grown) (hb.mono (by (try simp only [World.size_alloc, World.size_setCell, World.size_drew, sz_drewN]); omega))
      have z5 := B5.size
      clear hb
      go_wp2
      go_ret
      exact ⟨rfl, by go_grown⟩
  · have hv : vD y m d = false := by simpa using hv
    have Hv := Lib.hid hv
    clear hv
    by_cases hn : 0 ≤ n ∧ n ≤ 182985
    · obtain ⟨n1, n2⟩ := hn
      go_enter Tryd.func10, Tryd.ntmps10
      go_wp2_with fail
      refine (dayOf_bad _ _ _ _ (HM.out.below (by go_grown)) Hv.out).mono ?_
      rintro e w1 ⟨rfl, hb⟩
      obtain ⟨ka0, ka1, ka2, kal⟩ := kept3 (b := w.heap.size) (x := .int .i64 y) (y := .int .i64 m) (z := .int .i64 d) hb (by go_cell) (by go_cell) (by go_cell) (by (try simp only [World.size_alloc, World.size_setCell, World.size_drew, sz_drewN]); omega)
      have B1 : Bl w w1 := Bl.tr (by go_grown) hb
      have z1 := B1.size
      clear hb
      go_wp2_with fail
      refine (rdayOf_bad _ _ _ _ Hv.out).mono ?_
      rintro e w2 ⟨rfl, hb⟩
      have B2 : Bl w w2 := Below.trans (by go_grown) (hb.mono (by (try simp only [World.size_alloc, World.size_setCell, World.size_drew, sz_drewN]); omega))
      have z2 := B2.size
      clear hb
      go_wp2_with fail
      refine (dateOf_ok _ _ (HM.out.below (by go_grown)) n1 n2).mono ?_
      rintro e w3 ⟨⟨yy, mm, dd, i1, rfl⟩, hb⟩
      have B3 : Bl w w3 := Below.trans (by go_grown) (hb.mono (by (try simp only [World.size_alloc, World.size_setCell, World.size_drew, sz_drewN]); omega))
      have z3 := B3.size
      clear hb
      have I1 := Lib.hid i1
      clear i1
      unfold rD
      go_wp2_with fail
      refine (rdateOf_ok _ _ n1 n2).mono ?_
      rintro e w4 ⟨⟨yy', mm', dd', i2, rfl⟩, hb⟩
      obtain ⟨kx0, kx1, kx2, kxl⟩ := kept3 (b := w3.heap.size) (x := .int .i64 yy) (y := .int .i64 mm) (z := .int .i64 dd) hb (by go_cell) (by go_cell) (by go_cell) (by (try simp only [World.size_alloc, World.size_setCell, World.size_drew, sz_drewN]); omega)
      have B4 : Bl w w4 := Below.trans (by go_grown) (hb.mono (by (try simp only [World.size_alloc, World.size_setCell, World.size_drew, sz_drewN]); omega))
      have z4 := B4.size
      clear hb
      obtain ⟨rfl, rfl, rfl⟩ := isDate_unique I1.out i2
      clear i2
      unfold rD
      go_wp2_with fail
      refine (weekday_any _ _).mono ?_
      rintro e w5 ⟨rfl, rfl⟩
      rw [Hg.out]
      go_wp2_with fail
      refine (rweekday_any _ _).mono ?_
      rintro e w5 ⟨rfl, rfl⟩
      rw [Hg.out]
      go_wp2_with fail
      refine (leap_any _ _).mono ?_
      rintro e w5 ⟨rfl, rfl⟩
      rw [Hp.out]
      go_wp2_with fail
      refine (rleap_any _ _).mono ?_
      rintro e w5 ⟨rfl, rfl⟩
      rw [Hp.out]
      go_wp2_with fail
      refine (awake_any _ (HM.out.below (by go_grown))).mono ?_
      rintro e w6 ⟨rfl, hb⟩
      have B5 : Bl w w6 := Below.trans (by go_grown) (hb.mono (by (try simp only [World.size_alloc, World.size_setCell, World.size_drew, sz_drewN]); omega))
      have z5 := B5.size
      clear hb
      go_wp2
      go_ret
      exact ⟨rfl, by go_grown⟩
    · have Hn := Lib.hid hn
      clear hn
      go_enter Tryd.func10, Tryd.ntmps10
      go_wp2_with fail
      refine (dayOf_bad _ _ _ _ (HM.out.below (by go_grown)) Hv.out).mono ?_
      rintro e w1 ⟨rfl, hb⟩
      obtain ⟨ka0, ka1, ka2, kal⟩ := kept3 (b := w.heap.size) (x := .int .i64 y) (y := .int .i64 m) (z := .int .i64 d) hb (by go_cell) (by go_cell) (by go_cell) (by (try simp only [World.size_alloc, World.size_setCell, World.size_drew, sz_drewN]); omega)
      have B1 : Bl w w1 := Bl.tr (by go_grown) hb
      have z1 := B1.size
      clear hb
      go_wp2_with fail
      refine (rdayOf_bad _ _ _ _ Hv.out).mono ?_
      rintro e w2 ⟨rfl, hb⟩
      have B2 : Bl w w2 := Below.trans (by go_grown) (hb.mono (by (try simp only [World.size_alloc, World.size_setCell, World.size_drew, sz_drewN]); omega))
      have z2 := B2.size
      clear hb
      go_wp2_with fail
      refine (dateOf_bad _ _ Hn.out).mono ?_
      rintro e w3 ⟨rfl, hb⟩
      have B3 : Bl w w3 := Below.trans (by go_grown) (hb.mono (by (try simp only [World.size_alloc, World.size_setCell, World.size_drew, sz_drewN]); omega))
      have z3 := B3.size
      clear hb
      unfold rD
      go_wp2_with fail
      refine (rdateOf_bad _ _ Hn.out).mono ?_
      rintro e w4 ⟨rfl, hb⟩
      obtain ⟨kx0, kx1, kx2, kxl⟩ := kept3 (b := w3.heap.size) (x := .int .i64 0) (y := .int .i64 0) (z := .int .i64 0) hb (by go_cell) (by go_cell) (by go_cell) (by (try simp only [World.size_alloc, World.size_setCell, World.size_drew, sz_drewN]); omega)
      have B4 : Bl w w4 := Below.trans (by go_grown) (hb.mono (by (try simp only [World.size_alloc, World.size_setCell, World.size_drew, sz_drewN]); omega))
      have z4 := B4.size
      clear hb
      unfold rD
      go_wp2_with fail
      refine (weekday_any _ _).mono ?_
      rintro e w5 ⟨rfl, rfl⟩
      rw [Hg.out]
      go_wp2_with fail
      refine (rweekday_any _ _).mono ?_
      rintro e w5 ⟨rfl, rfl⟩
      rw [Hg.out]
      go_wp2_with fail
      refine (leap_any _ _).mono ?_
      rintro e w5 ⟨rfl, rfl⟩
      rw [Hp.out]
      go_wp2_with fail
      refine (rleap_any _ _).mono ?_
      rintro e w5 ⟨rfl, rfl⟩
      rw [Hp.out]
      go_wp2_with fail
      refine (awake_any _ (HM.out.below (by go_grown))).mono ?_
      rintro e w6 ⟨rfl, hb⟩
      have B5 : Bl w w6 := Below.trans (by go_grown) (hb.mono (by (try simp only [World.size_alloc, World.size_setCell, World.size_drew, sz_drewN]); omega))
      have z5 := B5.size
      clear hb
      go_wp2
      go_ret
      exact ⟨rfl, by go_grown⟩
end Go.Proofs.YtiljfhkkinddeaaDoor
