/-
  The reference's Scaled, from its products.
-/
import Derived.Test.YtdelgijalnmehaaDoorAD
import Derived.Test.YtdelgijalnmehaaDoorS
import Derived.Deep.RegionHeld3
namespace Go.Proofs.YtdelgijalnmehaaDoor
open Go.RowKit
set_option linter.unusedSimpArgs false
set_option linter.unusedVariables false

/-- What the region holds: the fraction's two cells. -/
abbrev Sv (w : World) (b : Nat) (x y : Value) (a : World) : Prop := Bl w a ∧ a.cell? ⟨b, 0, none⟩ = some x ∧ a.cell? ⟨b, 1, none⟩ = some y ∧ b < a.heap.size
theorem Sv.t {w a a' : World} {b : Nat} {x y : Value} (h : Sv w b x y a) (hb : Bl a a') : Sv w b x y a' := by
  obtain ⟨h1, c0, d0, l0⟩ := h
  obtain ⟨hc, hf⟩ := bcell hb
  exact ⟨h1.tr hb, (hc _ _ l0).trans c0, (hc _ _ l0).trans d0, Nat.lt_of_lt_of_le l0 hb.size⟩
theorem Sv.set {w a : World} {b c o : Nat} {x y v : Value} (h : Sv w b x y a) (hc : c ≠ b) (hw : w.heap.size ≤ c) : Sv w b x y (a.setCell ⟨c, o, none⟩ v) := by
  obtain ⟨h1, c0, d0, l0⟩ := h
  exact ⟨Below.setCell h1 hw v, (World.cell?_setCell_far _ _ _ _ hc).trans c0, (World.cell?_setCell_far _ _ _ _ hc).trans d0, by simpa [World.setCell] using l0⟩
/-- The block of a result. -/
def RB (b : Nat) (x y : Value) (a : World) : Prop := Bx2 a b x y
theorem RB.t {b : Nat} {x y : Value} {a a' : World} (h : RB b x y a) (hb : Bl a a') : RB b x y a' := kept2 hb h


set_option maxHeartbeats 800000 in
theorem rscaled_bad (al ah n d : Int) (w : World) (h : (vS al ah && vR n d) = false) :
    Calls Tryd.prog 13 #[.agg #[.int .i64 al, .int .i64 ah], .agg #[.int .i64 n, .int .i64 d]] w fun e w' => e = .returned (rS (0, 0, 1)) ∧ Bl w w' := by
  by_cases hva : vS al ah = true
  · have hvr : vR n d = false := by rw [hva] at h; simpa using h
    have Ha := Lib.hid hva
    clear hva h
    have Hr := Lib.hid hvr
    clear hvr
    go_enter Tryd.func13, Tryd.ntmps13
    go_wp2_with fail
    refine (rvalidSpan_any al ah _).mono ?_
    rintro e w1 ⟨rfl, hb⟩
    obtain ⟨v0, v1, vf, vg, vl⟩ := kept2 (b := w.heap.size + 1) (x := .int .i64 n) (y := .int .i64 d) hb ⟨by go_cell, by go_cell, (by (try simp only [frozen?_alloc_cells, World.frozen?_setCell, fz_drew, fz_drewN]); first | assumption | exact frozen_beyond (by (try simp only [World.size_alloc, World.size_setCell, World.size_drew, sz_drewN]); omega)), (by (try simp only [frozen?_alloc_cells, World.frozen?_setCell, fz_drew, fz_drewN]); first | assumption | exact frozen_beyond (by (try simp only [World.size_alloc, World.size_setCell, World.size_drew, sz_drewN]); omega)), (by (try simp only [World.size_alloc, World.size_setCell, World.size_drew, sz_drewN]); omega)⟩
    obtain ⟨r0, r1, rf, rg, rl⟩ := kept2 (b := w.heap.size + 1 + 1) (x := .int .i64 0) (y := .int .i64 0) hb ⟨by go_cell, by go_cell, (by (try simp only [frozen?_alloc_cells, World.frozen?_setCell, fz_drew, fz_drewN]); first | assumption | exact frozen_beyond (by (try simp only [World.size_alloc, World.size_setCell, World.size_drew, sz_drewN]); omega)), (by (try simp only [frozen?_alloc_cells, World.frozen?_setCell, fz_drew, fz_drewN]); first | assumption | exact frozen_beyond (by (try simp only [World.size_alloc, World.size_setCell, World.size_drew, sz_drewN]); omega)), (by (try simp only [World.size_alloc, World.size_setCell, World.size_drew, sz_drewN]); omega)⟩
    have B1 : Bl w w1 := Bl.tr (by go_grown) hb
    have z1 := B1.size
    clear hb
    rw [Ha.out]
    go_wp2_with fail
    refine (rvalidRatio_any _ _ _).mono ?_
    rintro e w2 ⟨rfl, hb⟩
    obtain ⟨r0, r1, rf, rg, rl⟩ := kept2 (b := w.heap.size + 1 + 1) (x := .int .i64 0) (y := .int .i64 0) hb ⟨by go_cell, by go_cell, (by (try simp only [frozen?_alloc_cells, World.frozen?_setCell, fz_drew, fz_drewN]); first | assumption | exact frozen_beyond (by (try simp only [World.size_alloc, World.size_setCell, World.size_drew, sz_drewN]); omega)), (by (try simp only [frozen?_alloc_cells, World.frozen?_setCell, fz_drew, fz_drewN]); first | assumption | exact frozen_beyond (by (try simp only [World.size_alloc, World.size_setCell, World.size_drew, sz_drewN]); omega)), (by (try simp only [World.size_alloc, World.size_setCell, World.size_drew, sz_drewN]); omega)⟩
    have B2 : Bl w w2 := Below.trans (by go_grown) (hb.mono (by (try simp only [World.size_alloc, World.size_setCell, World.size_drew, sz_drewN]); omega))
    have z2 := B2.size
    clear hb
    rw [Hr.out]
    go_wp2
    refine bodyPost_ret (v := rS (0, 0, 1)) (by simp [results, Tryd.results13, go_sem, rS, r0, r1]) rfl ⟨rfl, by go_grown⟩
  · have hva : vS al ah = false := by simpa using hva
    have Ha := Lib.hid hva
    clear hva h
    go_enter Tryd.func13, Tryd.ntmps13
    go_wp2_with fail
    refine (rvalidSpan_any al ah _).mono ?_
    rintro e w1 ⟨rfl, hb⟩
    obtain ⟨v0, v1, vf, vg, vl⟩ := kept2 (b := w.heap.size + 1) (x := .int .i64 n) (y := .int .i64 d) hb ⟨by go_cell, by go_cell, (by (try simp only [frozen?_alloc_cells, World.frozen?_setCell, fz_drew, fz_drewN]); first | assumption | exact frozen_beyond (by (try simp only [World.size_alloc, World.size_setCell, World.size_drew, sz_drewN]); omega)), (by (try simp only [frozen?_alloc_cells, World.frozen?_setCell, fz_drew, fz_drewN]); first | assumption | exact frozen_beyond (by (try simp only [World.size_alloc, World.size_setCell, World.size_drew, sz_drewN]); omega)), (by (try simp only [World.size_alloc, World.size_setCell, World.size_drew, sz_drewN]); omega)⟩
    obtain ⟨r0, r1, rf, rg, rl⟩ := kept2 (b := w.heap.size + 1 + 1) (x := .int .i64 0) (y := .int .i64 0) hb ⟨by go_cell, by go_cell, (by (try simp only [frozen?_alloc_cells, World.frozen?_setCell, fz_drew, fz_drewN]); first | assumption | exact frozen_beyond (by (try simp only [World.size_alloc, World.size_setCell, World.size_drew, sz_drewN]); omega)), (by (try simp only [frozen?_alloc_cells, World.frozen?_setCell, fz_drew, fz_drewN]); first | assumption | exact frozen_beyond (by (try simp only [World.size_alloc, World.size_setCell, World.size_drew, sz_drewN]); omega)), (by (try simp only [World.size_alloc, World.size_setCell, World.size_drew, sz_drewN]); omega)⟩
    have B1 : Bl w w1 := Bl.tr (by go_grown) hb
    have z1 := B1.size
    clear hb
    rw [Ha.out]
    go_wp2
    refine bodyPost_ret (v := rS (0, 0, 1)) (by simp [results, Tryd.results13, go_sem, rS, r0, r1]) rfl ⟨rfl, by go_grown⟩

set_option maxHeartbeats 800000 in
theorem rscaled_neg (al ah n d : Int) (w : World) (hva : vS al ah = true) (hvr : vR n d = true) (hn : n < 0) :
    Calls Tryd.prog 13 #[.agg #[.int .i64 al, .int .i64 ah], .agg #[.int .i64 n, .int .i64 d]] w fun e w' => e = .returned (rS (chkF (rprF ah n d) (-(rprF (-al) n d)))) ∧ Bl w w' := by
  obtain ⟨a1, a2, a3⟩ := vS_iff.1 hva
  obtain ⟨⟨d1, d2, n1, n2⟩, -⟩ := vR_iff.1 hvr
  obtain ⟨hb1, hb2⟩ := rprF_bd (-al) n d (by omega) (by omega) n1 n2 d1 d2
  have Ha := Lib.hid hva
  have Hr := Lib.hid hvr
  clear hva hvr
  go_enter Tryd.func13, Tryd.ntmps13
  go_wp2_with fail
  refine (rvalidSpan_any al ah _).mono ?_
  rintro e w1 ⟨rfl, hb⟩
  obtain ⟨u0, u1, uf, ug, ul⟩ := kept2 (b := w.heap.size) (x := .int .i64 al) (y := .int .i64 ah) hb ⟨by go_cell, by go_cell, (by (try simp only [frozen?_alloc_cells, World.frozen?_setCell, fz_drew, fz_drewN]); first | assumption | exact frozen_beyond (by (try simp only [World.size_alloc, World.size_setCell, World.size_drew, sz_drewN]); omega)), (by (try simp only [frozen?_alloc_cells, World.frozen?_setCell, fz_drew, fz_drewN]); first | assumption | exact frozen_beyond (by (try simp only [World.size_alloc, World.size_setCell, World.size_drew, sz_drewN]); omega)), (by (try simp only [World.size_alloc, World.size_setCell, World.size_drew, sz_drewN]); omega)⟩
  obtain ⟨v0, v1, vf, vg, vl⟩ := kept2 (b := w.heap.size + 1) (x := .int .i64 n) (y := .int .i64 d) hb ⟨by go_cell, by go_cell, (by (try simp only [frozen?_alloc_cells, World.frozen?_setCell, fz_drew, fz_drewN]); first | assumption | exact frozen_beyond (by (try simp only [World.size_alloc, World.size_setCell, World.size_drew, sz_drewN]); omega)), (by (try simp only [frozen?_alloc_cells, World.frozen?_setCell, fz_drew, fz_drewN]); first | assumption | exact frozen_beyond (by (try simp only [World.size_alloc, World.size_setCell, World.size_drew, sz_drewN]); omega)), (by (try simp only [World.size_alloc, World.size_setCell, World.size_drew, sz_drewN]); omega)⟩
  obtain ⟨r0, r1, rf, rg, rl⟩ := kept2 (b := w.heap.size + 1 + 1) (x := .int .i64 0) (y := .int .i64 0) hb ⟨by go_cell, by go_cell, (by (try simp only [frozen?_alloc_cells, World.frozen?_setCell, fz_drew, fz_drewN]); first | assumption | exact frozen_beyond (by (try simp only [World.size_alloc, World.size_setCell, World.size_drew, sz_drewN]); omega)), (by (try simp only [frozen?_alloc_cells, World.frozen?_setCell, fz_drew, fz_drewN]); first | assumption | exact frozen_beyond (by (try simp only [World.size_alloc, World.size_setCell, World.size_drew, sz_drewN]); omega)), (by (try simp only [World.size_alloc, World.size_setCell, World.size_drew, sz_drewN]); omega)⟩
  have B1 : Bl w w1 := Bl.tr (by go_grown) hb
  have z1 := B1.size
  clear hb
  rw [Ha.out]
  go_wp2_with fail
  refine (rvalidRatio_any _ _ _).mono ?_
  rintro e w2 ⟨rfl, hb⟩
  obtain ⟨u0, u1, uf, ug, ul⟩ := kept2 (b := w.heap.size) (x := .int .i64 al) (y := .int .i64 ah) hb ⟨by go_cell, by go_cell, (by (try simp only [frozen?_alloc_cells, World.frozen?_setCell, fz_drew, fz_drewN]); first | assumption | exact frozen_beyond (by (try simp only [World.size_alloc, World.size_setCell, World.size_drew, sz_drewN]); omega)), (by (try simp only [frozen?_alloc_cells, World.frozen?_setCell, fz_drew, fz_drewN]); first | assumption | exact frozen_beyond (by (try simp only [World.size_alloc, World.size_setCell, World.size_drew, sz_drewN]); omega)), (by (try simp only [World.size_alloc, World.size_setCell, World.size_drew, sz_drewN]); omega)⟩
  obtain ⟨v0, v1, vf, vg, vl⟩ := kept2 (b := w.heap.size + 1) (x := .int .i64 n) (y := .int .i64 d) hb ⟨by go_cell, by go_cell, (by (try simp only [frozen?_alloc_cells, World.frozen?_setCell, fz_drew, fz_drewN]); first | assumption | exact frozen_beyond (by (try simp only [World.size_alloc, World.size_setCell, World.size_drew, sz_drewN]); omega)), (by (try simp only [frozen?_alloc_cells, World.frozen?_setCell, fz_drew, fz_drewN]); first | assumption | exact frozen_beyond (by (try simp only [World.size_alloc, World.size_setCell, World.size_drew, sz_drewN]); omega)), (by (try simp only [World.size_alloc, World.size_setCell, World.size_drew, sz_drewN]); omega)⟩
  obtain ⟨r0, r1, rf, rg, rl⟩ := kept2 (b := w.heap.size + 1 + 1) (x := .int .i64 0) (y := .int .i64 0) hb ⟨by go_cell, by go_cell, (by (try simp only [frozen?_alloc_cells, World.frozen?_setCell, fz_drew, fz_drewN]); first | assumption | exact frozen_beyond (by (try simp only [World.size_alloc, World.size_setCell, World.size_drew, sz_drewN]); omega)), (by (try simp only [frozen?_alloc_cells, World.frozen?_setCell, fz_drew, fz_drewN]); first | assumption | exact frozen_beyond (by (try simp only [World.size_alloc, World.size_setCell, World.size_drew, sz_drewN]); omega)), (by (try simp only [World.size_alloc, World.size_setCell, World.size_drew, sz_drewN]); omega)⟩
  have B2 : Bl w w2 := Below.trans (by go_grown) (hb.mono (by (try simp only [World.size_alloc, World.size_setCell, World.size_drew, sz_drewN]); omega))
  have z2 := B2.size
  clear hb
  rw [Hr.out]
  go_wp2_with fail
  go_quiet (fail)
  go_wp2_with fail
  obtain ⟨X, hX⟩ : ∃ X, X = w2.drewN nq := ⟨_, rfl⟩
  have zX : X.heap.size = w2.heap.size := by rw [hX]; rfl
  have S0 : Sv w (w.heap.size + 1) (.int .i64 n) (.int .i64 d) X := by rw [hX]; exact ⟨B2.tr (Bl.dn _ _), v0, v1, by show _ < w2.heap.size; omega⟩
  have R0 : RB (w.heap.size + 1 + 1) (.int .i64 0) (.int .i64 0) X := by rw [hX]; exact ⟨r0, r1, rf, rg, by show _ < w2.heap.size; omega⟩
  rw [← hX]
  clear hX u0 u1 uf ug ul v0 v1 vf vg vl r0 r1 rf rg rl
  obtain ⟨q1, q2, q3, hq⟩ : ∃ q1 q2 q3, chkF (rprF ah n d) (-(rprF (-al) n d)) = (q1, q2, q3) := ⟨_, _, _, rfl⟩
  have CK : Hid (∀ w, Calls Tryd.prog 29 #[.int .i64 (rprF ah n d), .int .i64 (-(rprF (-al) n d))] w fun e w' => e = .returned (.tuple #[.agg #[.int .i64 q1, .int .i64 q2], .int .i64 q3]) ∧ Bl w w') := fun w => by
    have := checked_any (rprF ah n d) (-(rprF (-al) n d)) w
    rw [hq] at this
    exact this
  have Hq := Lib.hid hq
  clear hq
  have p1 : -1000000000000 ≤ ah := by omega
  have p2 : ah ≤ 1000000000000 := by omega
  have p3 : -1000000000000 ≤ -al := by omega
  have p4 : -al ≤ 1000000000000 := by omega
  have hw1 : IntKind.i64.wrap (-al) = -al := IntWalk.i64_in _ (by omega)
  have hw2 : IntKind.i64.wrap (-(rprF (-al) n d)) = -(rprF (-al) n d) := IntWalk.i64_in _ (by omega)
  go_region_held3 (fun w' => Bl w w' ∧ w'.cell? ⟨w.heap.size + 1, 0, none⟩ = some (.int .i64 n) ∧ w'.cell? ⟨w.heap.size + 1, 1, none⟩ = some (.int .i64 d) ∧ w.heap.size + 1 < w'.heap.size) (first | exact Sv.t S0 (Bl.dn _ 1) | exact Sv.t (by assumption) hh0 | exact Sv.t (by assumption) hh2 | exact Sv.set (Sv.set (by assumption) (by omega) (by omega)) (by omega) (by omega)) (first | (go_at_call 30; refine (rprod_any _ _ _ _ (by assumption) (by assumption) n1 n2 d1 d2).mono ?_; rintro e y0 ⟨rfl, hh0⟩; have hR : RB (w.heap.size + 1 + 1) (.int .i64 0) (.int .i64 0) y0 := by (first | exact RB.t (RB.t R0 (Bl.dn _ 1)) hh0 | exact RB.t (by assumption) hh0)) | (go_at_call 29; refine (CK.out _).mono ?_; rintro e y2 ⟨rfl, hh2⟩; obtain ⟨r0, r1, rf, rg, rl⟩ := RB.t hR hh2))
  clear hw1 hw2
  go_wp2
  rename_i hHeld
  refine bodyPost_ret (v := rS (q1, q2, q3)) (by simp [results, Tryd.results13, go_sem, rS, r0, r1]) rfl ⟨by rw [Hq.out], hHeld.1⟩

set_option maxHeartbeats 800000 in
theorem rscaled_pos (al ah n d : Int) (w : World) (hva : vS al ah = true) (hvr : vR n d = true) (hn : 0 ≤ n) :
    Calls Tryd.prog 13 #[.agg #[.int .i64 al, .int .i64 ah], .agg #[.int .i64 n, .int .i64 d]] w fun e w' => e = .returned (rS (chkF (rprF al n d) (-(rprF (-ah) n d)))) ∧ Bl w w' := by
  obtain ⟨a1, a2, a3⟩ := vS_iff.1 hva
  obtain ⟨⟨d1, d2, n1, n2⟩, -⟩ := vR_iff.1 hvr
  obtain ⟨hb1, hb2⟩ := rprF_bd (-ah) n d (by omega) (by omega) n1 n2 d1 d2
  have Ha := Lib.hid hva
  have Hr := Lib.hid hvr
  clear hva hvr
  have hn' : decide (n < 0) = false := by simp; omega
  go_enter Tryd.func13, Tryd.ntmps13
  go_wp2_with fail
  refine (rvalidSpan_any al ah _).mono ?_
  rintro e w1 ⟨rfl, hb⟩
  obtain ⟨u0, u1, uf, ug, ul⟩ := kept2 (b := w.heap.size) (x := .int .i64 al) (y := .int .i64 ah) hb ⟨by go_cell, by go_cell, (by (try simp only [frozen?_alloc_cells, World.frozen?_setCell, fz_drew, fz_drewN]); first | assumption | exact frozen_beyond (by (try simp only [World.size_alloc, World.size_setCell, World.size_drew, sz_drewN]); omega)), (by (try simp only [frozen?_alloc_cells, World.frozen?_setCell, fz_drew, fz_drewN]); first | assumption | exact frozen_beyond (by (try simp only [World.size_alloc, World.size_setCell, World.size_drew, sz_drewN]); omega)), (by (try simp only [World.size_alloc, World.size_setCell, World.size_drew, sz_drewN]); omega)⟩
  obtain ⟨v0, v1, vf, vg, vl⟩ := kept2 (b := w.heap.size + 1) (x := .int .i64 n) (y := .int .i64 d) hb ⟨by go_cell, by go_cell, (by (try simp only [frozen?_alloc_cells, World.frozen?_setCell, fz_drew, fz_drewN]); first | assumption | exact frozen_beyond (by (try simp only [World.size_alloc, World.size_setCell, World.size_drew, sz_drewN]); omega)), (by (try simp only [frozen?_alloc_cells, World.frozen?_setCell, fz_drew, fz_drewN]); first | assumption | exact frozen_beyond (by (try simp only [World.size_alloc, World.size_setCell, World.size_drew, sz_drewN]); omega)), (by (try simp only [World.size_alloc, World.size_setCell, World.size_drew, sz_drewN]); omega)⟩
  obtain ⟨r0, r1, rf, rg, rl⟩ := kept2 (b := w.heap.size + 1 + 1) (x := .int .i64 0) (y := .int .i64 0) hb ⟨by go_cell, by go_cell, (by (try simp only [frozen?_alloc_cells, World.frozen?_setCell, fz_drew, fz_drewN]); first | assumption | exact frozen_beyond (by (try simp only [World.size_alloc, World.size_setCell, World.size_drew, sz_drewN]); omega)), (by (try simp only [frozen?_alloc_cells, World.frozen?_setCell, fz_drew, fz_drewN]); first | assumption | exact frozen_beyond (by (try simp only [World.size_alloc, World.size_setCell, World.size_drew, sz_drewN]); omega)), (by (try simp only [World.size_alloc, World.size_setCell, World.size_drew, sz_drewN]); omega)⟩
  have B1 : Bl w w1 := Bl.tr (by go_grown) hb
  have z1 := B1.size
  clear hb
  rw [Ha.out]
  go_wp2_with fail
  refine (rvalidRatio_any _ _ _).mono ?_
  rintro e w2 ⟨rfl, hb⟩
  obtain ⟨u0, u1, uf, ug, ul⟩ := kept2 (b := w.heap.size) (x := .int .i64 al) (y := .int .i64 ah) hb ⟨by go_cell, by go_cell, (by (try simp only [frozen?_alloc_cells, World.frozen?_setCell, fz_drew, fz_drewN]); first | assumption | exact frozen_beyond (by (try simp only [World.size_alloc, World.size_setCell, World.size_drew, sz_drewN]); omega)), (by (try simp only [frozen?_alloc_cells, World.frozen?_setCell, fz_drew, fz_drewN]); first | assumption | exact frozen_beyond (by (try simp only [World.size_alloc, World.size_setCell, World.size_drew, sz_drewN]); omega)), (by (try simp only [World.size_alloc, World.size_setCell, World.size_drew, sz_drewN]); omega)⟩
  obtain ⟨v0, v1, vf, vg, vl⟩ := kept2 (b := w.heap.size + 1) (x := .int .i64 n) (y := .int .i64 d) hb ⟨by go_cell, by go_cell, (by (try simp only [frozen?_alloc_cells, World.frozen?_setCell, fz_drew, fz_drewN]); first | assumption | exact frozen_beyond (by (try simp only [World.size_alloc, World.size_setCell, World.size_drew, sz_drewN]); omega)), (by (try simp only [frozen?_alloc_cells, World.frozen?_setCell, fz_drew, fz_drewN]); first | assumption | exact frozen_beyond (by (try simp only [World.size_alloc, World.size_setCell, World.size_drew, sz_drewN]); omega)), (by (try simp only [World.size_alloc, World.size_setCell, World.size_drew, sz_drewN]); omega)⟩
  obtain ⟨r0, r1, rf, rg, rl⟩ := kept2 (b := w.heap.size + 1 + 1) (x := .int .i64 0) (y := .int .i64 0) hb ⟨by go_cell, by go_cell, (by (try simp only [frozen?_alloc_cells, World.frozen?_setCell, fz_drew, fz_drewN]); first | assumption | exact frozen_beyond (by (try simp only [World.size_alloc, World.size_setCell, World.size_drew, sz_drewN]); omega)), (by (try simp only [frozen?_alloc_cells, World.frozen?_setCell, fz_drew, fz_drewN]); first | assumption | exact frozen_beyond (by (try simp only [World.size_alloc, World.size_setCell, World.size_drew, sz_drewN]); omega)), (by (try simp only [World.size_alloc, World.size_setCell, World.size_drew, sz_drewN]); omega)⟩
  have B2 : Bl w w2 := Below.trans (by go_grown) (hb.mono (by (try simp only [World.size_alloc, World.size_setCell, World.size_drew, sz_drewN]); omega))
  have z2 := B2.size
  clear hb
  rw [Hr.out]
  go_wp2_with fail
  go_quiet (fail)
  go_wp2_with fail
  obtain ⟨X, hX⟩ : ∃ X, X = w2.drewN nq := ⟨_, rfl⟩
  have zX : X.heap.size = w2.heap.size := by rw [hX]; rfl
  have S0 : Sv w (w.heap.size + 1) (.int .i64 n) (.int .i64 d) X := by rw [hX]; exact ⟨B2.tr (Bl.dn _ _), v0, v1, by show _ < w2.heap.size; omega⟩
  have R0 : RB (w.heap.size + 1 + 1) (.int .i64 0) (.int .i64 0) X := by rw [hX]; exact ⟨r0, r1, rf, rg, by show _ < w2.heap.size; omega⟩
  rw [← hX]
  clear hX u0 u1 uf ug ul v0 v1 vf vg vl r0 r1 rf rg rl
  obtain ⟨q1, q2, q3, hq⟩ : ∃ q1 q2 q3, chkF (rprF al n d) (-(rprF (-ah) n d)) = (q1, q2, q3) := ⟨_, _, _, rfl⟩
  have CK : Hid (∀ w, Calls Tryd.prog 29 #[.int .i64 (rprF al n d), .int .i64 (-(rprF (-ah) n d))] w fun e w' => e = .returned (.tuple #[.agg #[.int .i64 q1, .int .i64 q2], .int .i64 q3]) ∧ Bl w w') := fun w => by
    have := checked_any (rprF al n d) (-(rprF (-ah) n d)) w
    rw [hq] at this
    exact this
  have Hq := Lib.hid hq
  clear hq
  have p1 : -1000000000000 ≤ al := by omega
  have p2 : al ≤ 1000000000000 := by omega
  have p3 : -1000000000000 ≤ -ah := by omega
  have p4 : -ah ≤ 1000000000000 := by omega
  have hw1 : IntKind.i64.wrap (-ah) = -ah := IntWalk.i64_in _ (by omega)
  have hw2 : IntKind.i64.wrap (-(rprF (-ah) n d)) = -(rprF (-ah) n d) := IntWalk.i64_in _ (by omega)
  go_region_held3 (fun w' => Bl w w' ∧ w'.cell? ⟨w.heap.size + 1, 0, none⟩ = some (.int .i64 n) ∧ w'.cell? ⟨w.heap.size + 1, 1, none⟩ = some (.int .i64 d) ∧ w.heap.size + 1 < w'.heap.size) (first | exact Sv.t S0 (Bl.dn _ 1) | exact Sv.t (by assumption) hh0 | exact Sv.t (by assumption) hh2 | exact Sv.set (Sv.set (by assumption) (by omega) (by omega)) (by omega) (by omega)) (first | (go_at_call 30; refine (rprod_any _ _ _ _ (by assumption) (by assumption) n1 n2 d1 d2).mono ?_; rintro e y0 ⟨rfl, hh0⟩; have hR : RB (w.heap.size + 1 + 1) (.int .i64 0) (.int .i64 0) y0 := by (first | exact RB.t (RB.t R0 (Bl.dn _ 1)) hh0 | exact RB.t (by assumption) hh0)) | (go_at_call 29; refine (CK.out _).mono ?_; rintro e y2 ⟨rfl, hh2⟩; obtain ⟨r0, r1, rf, rg, rl⟩ := RB.t hR hh2))
  clear hw1 hw2
  go_wp2
  rename_i hHeld
  refine bodyPost_ret (v := rS (q1, q2, q3)) (by simp [results, Tryd.results13, go_sem, rS, r0, r1]) rfl ⟨by rw [Hq.out], hHeld.1⟩
end Go.Proofs.YtdelgijalnmehaaDoor
