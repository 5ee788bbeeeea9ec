/-
  The date of a day, in package span.
-/
import Derived.Test.YtiljfhkkinddeaaDoorP
import Derived.RegionIn
import Derived.BigRegionIn
import Derived.Test.YtiljfhkkinddeaaDoorB
namespace Go.Proofs.YtiljfhkkinddeaaDoor
open Go.RowKit Go.Shelf Cal
set_option linter.unusedSimpArgs false
set_option linter.unusedVariables false
attribute [local go_sem] Oper.semAt_some

set_option maxHeartbeats 800000 in
theorem dayOf_bad (y m d : Int) (w : World) (hM : Mo w) (hv : vD y m d = false) :
    Calls Tryd.prog 44 #[.agg #[.int .i64 y, .int .i64 m, .int .i64 d]] w fun e w' => e = .returned (.tuple #[.int .i64 0, .int .i64 1]) ∧ Bl w w' := by
  have Hv := Lib.hid hv
  have HM := Lib.hid hM
  clear hv hM
  go_enter Tryd.func44, Tryd.ntmps44
  go_wp2_with fail
  refine (validDate_any y m d _ (HM.out.below (by go_grown))).mono ?_
  rintro e w1 ⟨rfl, hb⟩
  have B1 : Bl w w1 := Bl.tr (by go_grown) hb
  clear hb
  rw [Hv.out]
  go_wp2
  go_ret2
  exact ⟨rfl, by go_grown⟩

/-- What the last month that came says. -/
def LastIs (t : Int) (pre : List MF) (a b : Int) : Prop := ∀ q x, pre = q ++ [x] → a = x.1.1 ∧ b = t - x.1.2 + 1 ∧ x.1.2 ≤ t
/-- A date and an error as a result. -/
def rD (y m d e : Int) : Value := .tuple #[.agg #[.int .i64 y, .int .i64 m, .int .i64 d], .int .i64 e]

set_option maxHeartbeats 800000 in
theorem dateOf_bad (t : Int) (w : World) (h : ¬ (0 ≤ t ∧ t ≤ 182985)) :
    Calls Tryd.prog 46 #[.int .i64 t] w fun e w' => e = .returned (rD 0 0 0 7) ∧ Bl w w' := by
  have H := Lib.hid h
  clear h
  go_enter Tryd.func46, Tryd.ntmps46
  go_wp2_with (go_at_call 77; refine (inCal_f _ _ H.out).mono ?_; rintro e w' ⟨rfl, rfl⟩)
  go_returns
  exact ⟨rfl, by go_grown⟩

set_option maxRecDepth 100000 in
set_option maxHeartbeats 2000000 in
theorem dateOf_ok (t : Int) (w : World) (hM : Mo w) (t1 : 0 ≤ t) (t2 : t ≤ 182985) :
    Calls Tryd.prog 46 #[.int .i64 t] w fun e w' => (∃ y m d, IsDate t y m d ∧ e = .returned (rD y m d 0)) ∧ Bl w w' := by
  have HM := Lib.hid hM
  have hg := hM.2
  clear hM
  refine callsIn_wide (n := 5) |>.1 ?_
  refine callsIn_of_wp_marks Tryd.func46 rfl trivial ?_ rfl
  simp only [Tryd.ntmps46, List.size_toArray, List.length_cons, List.length_nil, Nat.reduceAdd, Nat.reduceSub, Array.replicate_succ, Array.replicate_zero, List.push_toArray, List.append_toArray, List.nil_append, List.cons_append]
  gi_wp2_with (refine ⟨trivial, ?_⟩; gi_at_call 77; refine (callsIn_wide.2 (inCal_t _ _ t1 t2)).mono ?_; rintro e w' ⟨rfl, rfl⟩)
  refine ⟨trivial, ?_⟩
  refine (callsIn_wide.2 (yearOf_any t _ t1 t2)).mono ?_
  rintro e w1 ⟨y, rfl, ⟨y1, y2, y3, y4⟩, rfl⟩
  have Y3 := Lib.hid y3
  have Y4 := Lib.hid y4
  clear y3 y4
  gi_wp2_with (refine ⟨trivial, ?_⟩; gi_at_call 73; refine (callsIn_wide.2 (firstDays_any y _)).mono ?_; rintro e w' ⟨rfl, rfl⟩)
  obtain ⟨W0, hW0⟩ : ∃ W0, W0 = (((w.alloc (.cells #[.int .i64 t] 3)).alloc (.cells #[.int .i64 0, .int .i64 0, .int .i64 0] 51)).alloc (.cells #[.int .i64 y, .int .i64 0, .int .i64 0] 51)).alloc (.cells #[.int .i64 y] 3) := ⟨_, rfl⟩
  have hB0 : Below w.heap.size w W0 := by rw [hW0]; go_grown
  have z0 : W0.heap.size = w.heap.size + 4 := by rw [hW0]; simp
  have c0 : W0.cell? ⟨w.heap.size, 0, none⟩ = some (.int .i64 t) := by rw [hW0]; go_cell
  have c1 : W0.cell? ⟨w.heap.size + 1 + 1, 0, none⟩ = some (.int .i64 y) := by rw [hW0]; go_cell
  have c2 : W0.cell? ⟨w.heap.size + 1 + 1, 1, none⟩ = some (.int .i64 0) := by rw [hW0]; go_cell
  have c3 : W0.cell? ⟨w.heap.size + 1 + 1, 2, none⟩ = some (.int .i64 0) := by rw [hW0]; go_cell
  have c4 : W0.cell? ⟨w.heap.size + 1, 0, none⟩ = some (.int .i64 0) := by rw [hW0]; go_cell
  have c5 : W0.cell? ⟨w.heap.size + 1, 1, none⟩ = some (.int .i64 0) := by rw [hW0]; go_cell
  have c6 : W0.cell? ⟨w.heap.size + 1, 2, none⟩ = some (.int .i64 0) := by rw [hW0]; go_cell
  have c7 : W0.cell? ⟨w.heap.size + 1 + 1 + 1, 0, none⟩ = some (.int .i64 y) := by rw [hW0]; go_cell
  have f0 : ∀ b o, w.heap.size ≤ b → W0.frozen? ⟨b, o, none⟩ = false := fun b o hb => by rw [hW0]; simp only [frozen?_alloc_cells]; exact frozen_beyond hb
  rw [← hW0]
  clear hW0
  refine wpIn_rangeFunc_ownF rfl (by omega) (gf := 88) (lb := #[.pointer (some ⟨w.heap.size + 1 + 1 + 1, 0, none⟩)]) rfl trivial (enters_of Tryd.func88 (by kernel_rfl) rfl)
    (fd_stops (5 - 1) (w.heap.size + 1 + 1 + 1) w.heap.size y y1 y2 (by omega) hg W0 (by omega) (by omega) (HM.out.below hB0) c7) Kc.t (Kc.b (by omega)) (Below.refl _ _) (fun _ => rfl)
    (fun PRE W => (∃ a b : Int, ((W.cell? ⟨w.heap.size + 1 + 1, 1, none⟩ = some (.int .i64 a) ∧ W.frozen? ⟨w.heap.size + 1 + 1, 1, none⟩ = false) ∧ (W.cell? ⟨w.heap.size + 1 + 1, 2, none⟩ = some (.int .i64 b) ∧ W.frozen? ⟨w.heap.size + 1 + 1, 2, none⟩ = false)) ∧ W.cell? ⟨w.heap.size + 1 + 1, 0, none⟩ = some (.int .i64 y) ∧ W.cell? ⟨w.heap.size, 0, none⟩ = some (.int .i64 t) ∧ ((W.cell? ⟨w.heap.size + 1, 0, none⟩ = some (.int .i64 0) ∧ W.frozen? ⟨w.heap.size + 1, 0, none⟩ = false) ∧ (W.cell? ⟨w.heap.size + 1, 1, none⟩ = some (.int .i64 0) ∧ W.frozen? ⟨w.heap.size + 1, 1, none⟩ = false) ∧ (W.cell? ⟨w.heap.size + 1, 2, none⟩ = some (.int .i64 0) ∧ W.frozen? ⟨w.heap.size + 1, 2, none⟩ = false)) ∧ LastIs t PRE a b) ∧ Below w.heap.size w W)
    (fun c pre W => (c = .exit 0 ∧ ∃ PRE x, pre = PRE ++ [x] ∧ t < x.1.2 ∧ (∃ a b : Int, ((W.cell? ⟨w.heap.size + 1 + 1, 1, none⟩ = some (.int .i64 a) ∧ W.frozen? ⟨w.heap.size + 1 + 1, 1, none⟩ = false) ∧ (W.cell? ⟨w.heap.size + 1 + 1, 2, none⟩ = some (.int .i64 b) ∧ W.frozen? ⟨w.heap.size + 1 + 1, 2, none⟩ = false)) ∧ W.cell? ⟨w.heap.size + 1 + 1, 0, none⟩ = some (.int .i64 y) ∧ W.cell? ⟨w.heap.size, 0, none⟩ = some (.int .i64 t) ∧ ((W.cell? ⟨w.heap.size + 1, 0, none⟩ = some (.int .i64 0) ∧ W.frozen? ⟨w.heap.size + 1, 0, none⟩ = false) ∧ (W.cell? ⟨w.heap.size + 1, 1, none⟩ = some (.int .i64 0) ∧ W.frozen? ⟨w.heap.size + 1, 1, none⟩ = false) ∧ (W.cell? ⟨w.heap.size + 1, 2, none⟩ = some (.int .i64 0) ∧ W.frozen? ⟨w.heap.size + 1, 2, none⟩ = false)) ∧ LastIs t PRE a b)) ∧ Below w.heap.size w W)
    (OwnFrom.and (Own.from (fun s A B row hs hg hr => by obtain ⟨a, b, ⟨⟨h1, f1⟩, h2, f2⟩, h3, h4, ⟨⟨r0, g0⟩, ⟨r1, g1⟩, r2, g2⟩, h5⟩ := hs; exact ⟨a, b, ⟨⟨cell_kept h1 hg hr, (frozen_kept h1 hg hr).trans f1⟩, cell_kept h2 hg hr, (frozen_kept h2 hg hr).trans f2⟩, cell_kept h3 hg hr, cell_kept h4 hg hr, ⟨⟨cell_kept r0 hg hr, (frozen_kept r0 hg hr).trans g0⟩, ⟨cell_kept r1 hg hr, (frozen_kept r1 hg hr).trans g1⟩, cell_kept r2 hg hr, (frozen_kept r2 hg hr).trans g2⟩, h5⟩) _) (ownFrom_below (Nat.le_refl _) (by omega)))
    (fun c => OwnFrom.and (Own.from (fun s A B row hs hg hr => by obtain ⟨hc, q, x, e1, e2, hs⟩ := hs; exact ⟨hc, q, x, e1, e2, by obtain ⟨a, b, ⟨⟨h1, f1⟩, h2, f2⟩, h3, h4, ⟨⟨r0, g0⟩, ⟨r1, g1⟩, r2, g2⟩, h5⟩ := hs; exact ⟨a, b, ⟨⟨cell_kept h1 hg hr, (frozen_kept h1 hg hr).trans f1⟩, cell_kept h2 hg hr, (frozen_kept h2 hg hr).trans f2⟩, cell_kept h3 hg hr, cell_kept h4 hg hr, ⟨⟨cell_kept r0 hg hr, (frozen_kept r0 hg hr).trans g0⟩, ⟨cell_kept r1 hg hr, (frozen_kept r1 hg hr).trans g1⟩, cell_kept r2 hg hr, (frozen_kept r2 hg hr).trans g2⟩, h5⟩⟩) _) (ownFrom_below (Nat.le_refl _) (by omega)))
    ⟨⟨0, 0, ⟨⟨c2, f0 _ _ (by omega)⟩, c3, f0 _ _ (by omega)⟩, c1, c0, ⟨⟨c4, f0 _ _ (by omega)⟩, ⟨c5, f0 _ _ (by omega)⟩, c6, f0 _ _ (by omega)⟩, fun q x e => by simp at e⟩, hB0⟩
    (fun x => { tmps := #[.int .i64 t, .pointer (some ⟨w.heap.size, 0, none⟩), .pointer (some ⟨w.heap.size + 1, 0, none⟩), .int .i64 0, .pointer (some ⟨w.heap.size + 1 + 1, 0, none⟩), .int .i64 x.1.1, .int .i64 x.1.2, .int .i64 t, .bool true, .bool false, undef, .int .i64 t, .int .i64 y, .agg #[.int .i64 y, .int .i64 0, .int .i64 0], .pointer (some ⟨w.heap.size + 1 + 1, 0, none⟩), .int .i64 y, .func (.func 88) #[] #[.pointer (some ⟨w.heap.size + 1 + 1 + 1, 0, none⟩)], .int .i64 x.1.1, .int .i64 x.1.2, undef, undef, undef, undef, undef, undef, undef, undef, undef, undef, undef], defers := [] }) ?assign ?body ?done ?stop
  case assign =>
    intro l x W K hK
    unfold encMF
    gi_wp2
    exact hK
  case body =>
    rintro l pre ⟨⟨xm, xf⟩, x1, x2, x3, x4⟩ W ⟨⟨a, b, ⟨⟨h1, f1⟩, h2, f2⟩, h3, h4, ⟨⟨r0, g0⟩, ⟨r1, g1⟩, r2, g2⟩, h5⟩, hB⟩ _
    simp only at x1 x2 x3 x4
    have H5 := Lib.hid h5
    clear h5
    by_cases hx : t < xf
    · gi_wp2
      exact ⟨KeepsOthers.refl _, ⟨rfl, pre, ⟨(xm, xf), x1, x2, x3, x4⟩, rfl, hx, a, b, ⟨⟨h1, f1⟩, h2, f2⟩, h3, h4, ⟨⟨r0, g0⟩, ⟨r1, g1⟩, r2, g2⟩, H5.out⟩, hB⟩
    · have e1 : IntKind.i64.wrap (t - xf) = t - xf := IntWalk.i64_in _ (by omega)
      have e2 : IntKind.i64.wrap (t - xf + 1) = t - xf + 1 := IntWalk.i64_in _ (by omega)
      have E1 := Lib.hid e1
      have E2 := Lib.hid e2
      clear e1 e2
      gi_wp2
      gi_region
      all_goals gi_wp2
      all_goals (rw [E1.out, E2.out]; refine ⟨((KeepsOthers.setCell _ _ _).trans (KeepsOthers.setCell _ _ _)).trans (KeepsOthers.drew _), ⟨fun v hv => ?_, (((Below.refl _ _).setCell (by show w.heap.size ≤ w.heap.size + 1 + 1; omega) _).setCell (by show w.heap.size ≤ w.heap.size + 1 + 1; omega) _).drew⟩, ⟨xm, t - xf + 1, ⟨⟨?_, ?_⟩, ?_, ?_⟩, ?_, ?_, ⟨⟨?_, ?_⟩, ⟨?_, ?_⟩, ?_, ?_⟩, ?_⟩, ((hB.setCell (by show w.heap.size ≤ w.heap.size + 1 + 1; omega) _).setCell (by show w.heap.size ≤ w.heap.size + 1 + 1; omega) _).drew⟩)
      all_goals first
        | (simp only [World.frozen?_drew, World.frozen?_setCell]; assumption)
        | (simp only [World.cell?_drew]; go_cell)
        | (intro q x e; obtain ⟨-, e4⟩ := List.append_inj' e rfl; simp at e4; subst e4; exact ⟨rfl, rfl, by show xf ≤ t; omega⟩)
  case done =>
    rintro D ys W hD rfl ⟨⟨a, b, ⟨⟨h1, f1⟩, h2, f2⟩, h3, h4, ⟨⟨r0, g0⟩, ⟨r1, g1⟩, r2, g2⟩, h5⟩, hB⟩ hK
    obtain ⟨e1, e2, e3⟩ := h5 (upto (mf y y1 y2) 11) (mf y y1 y2 11) (upto_succ _ _)
    rw [mf_at (by omega)] at e1 e2 e3
    have hd : IsDate t y a b := by
      have cs := cum_succ y 12 (by omega) (by omega)
      rw [show (12 : Int) + 1 = 13 from rfl, cum_last] at cs
      have ns := ny_succ y y1 y2
      have := Y3.out
      have := Y4.out
      simp at e1 e2 e3
      subst e1
      exact ⟨y1, y2, by omega, by omega, by omega, by omega, by omega⟩
    clear e1 e2 e3 h5 Y3 Y4
    have Hd := Lib.hid hd
    clear hd
    gi_wp2
    obtain ⟨W3, hW3⟩ : ∃ W3, W3 = ((W.setCell ⟨w.heap.size + 1, 0, none⟩ (.int .i64 y)).setCell ⟨w.heap.size + 1, 1, none⟩ (.int .i64 a)).setCell ⟨w.heap.size + 1, 2, none⟩ (.int .i64 b) := ⟨_, rfl⟩
    have hK3 : W3.heap[D]? = some (.deferred (some [])) := by rw [hW3]; exact ((KeepsOthers.setCell _ _ _).trans ((KeepsOthers.setCell _ _ _).trans (KeepsOthers.setCell _ _ _))).same D _ hK rfl
    have k0 : W3.cell? ⟨w.heap.size + 1, 0, none⟩ = some (.int .i64 y) := by rw [hW3]; go_cell
    have k1 : W3.cell? ⟨w.heap.size + 1, 1, none⟩ = some (.int .i64 a) := by rw [hW3]; go_cell
    have k2 : W3.cell? ⟨w.heap.size + 1, 2, none⟩ = some (.int .i64 b) := by rw [hW3]; go_cell
    have B3 : Below w.heap.size w W3 := by rw [hW3]; exact ((hB.setCell (by show w.heap.size ≤ w.heap.size + 1; omega) _).setCell (by show w.heap.size ≤ w.heap.size + 1; omega) _).setCell (by show w.heap.size ≤ w.heap.size + 1; omega) _
    rw [← hW3]
    refine ⟨by simp, .inl ⟨_, _, rfl, run_takeDeferred hK3, ?_⟩⟩
    have m0 := cell_kept k0 (grownBy_putObj' _ D (.deferred none)) (fun r e => by cases e; exact ⟨_, hK3, rfl⟩)
    have m1 := cell_kept k1 (grownBy_putObj' _ D (.deferred none)) (fun r e => by cases e; exact ⟨_, hK3, rfl⟩)
    have m2 := cell_kept k2 (grownBy_putObj' _ D (.deferred none)) (fun r e => by cases e; exact ⟨_, hK3, rfl⟩)
    exact ⟨rD y a b 0, by simp [results, Tryd.results46, go_sem, m0, m1, m2, rD], ⟨y, a, b, Hd.out, rfl⟩, B3.trans (belowK_b (w := w) (Nat.le_refl _) W3 D _ _ (by omega) hK3 rfl rfl)⟩
  case stop =>
    rintro D c pre W hD ⟨k, hk, rfl⟩ ⟨⟨rfl, q, x, e1, e2, a, b, ⟨⟨h1, f1⟩, h2, f2⟩, h3, h4, ⟨⟨r0, g0⟩, ⟨r1, g1⟩, r2, g2⟩, h5⟩, hB⟩ hK
    have hd : IsDate t y a b := by
      cases k with
      | zero => simp [upto] at e1
      | succ k =>
        rw [upto_succ] at e1
        obtain ⟨e3, e4⟩ := List.append_inj' e1 rfl
        simp at e4
        subst e4
        subst e3
        rw [mf_at (by omega)] at e2
        cases k with
        | zero =>
          have := Y3.out
          have := cum_one y
          simp at e2
          omega
        | succ k =>
          obtain ⟨e5, e6, e7⟩ := h5 _ _ (upto_succ _ _)
          rw [mf_at (by omega)] at e5 e6 e7
          have e5 : a = (k : Int) + 1 := e5
          have e6 : b = t - (ny y + cum y (k + 1)) + 1 := e6
          have e7 : ny y + cum y (k + 1) ≤ t := e7
          have e2 : t < ny y + cum y (((k + 1 : Nat) : Int) + 1) := e2
          have cs := cum_succ y (k + 1) (by omega) (by omega)
          rw [show ((k + 1 : Nat) : Int) + 1 = (k : Int) + 1 + 1 by omega] at e2
          subst e5
          exact ⟨y1, y2, by omega, by omega, by omega, by omega, by omega⟩
    clear e1 e2 h5 Y3 Y4 x q
    have Hd := Lib.hid hd
    clear hd
    gi_wp2
    obtain ⟨W3, hW3⟩ : ∃ W3, W3 = ((W.setCell ⟨w.heap.size + 1, 0, none⟩ (.int .i64 y)).setCell ⟨w.heap.size + 1, 1, none⟩ (.int .i64 a)).setCell ⟨w.heap.size + 1, 2, none⟩ (.int .i64 b) := ⟨_, rfl⟩
    have hK3 : W3.heap[D]? = some (.deferred (some [])) := by rw [hW3]; exact ((KeepsOthers.setCell _ _ _).trans ((KeepsOthers.setCell _ _ _).trans (KeepsOthers.setCell _ _ _))).same D _ hK rfl
    have k0 : W3.cell? ⟨w.heap.size + 1, 0, none⟩ = some (.int .i64 y) := by rw [hW3]; go_cell
    have k1 : W3.cell? ⟨w.heap.size + 1, 1, none⟩ = some (.int .i64 a) := by rw [hW3]; go_cell
    have k2 : W3.cell? ⟨w.heap.size + 1, 2, none⟩ = some (.int .i64 b) := by rw [hW3]; go_cell
    have B3 : Below w.heap.size w W3 := by rw [hW3]; exact ((hB.setCell (by show w.heap.size ≤ w.heap.size + 1; omega) _).setCell (by show w.heap.size ≤ w.heap.size + 1; omega) _).setCell (by show w.heap.size ≤ w.heap.size + 1; omega) _
    rw [← hW3]
    refine ⟨by simp, .inl ⟨_, _, rfl, run_takeDeferred hK3, ?_⟩⟩
    have m0 := cell_kept k0 (grownBy_putObj' _ D (.deferred none)) (fun r e => by cases e; exact ⟨_, hK3, rfl⟩)
    have m1 := cell_kept k1 (grownBy_putObj' _ D (.deferred none)) (fun r e => by cases e; exact ⟨_, hK3, rfl⟩)
    have m2 := cell_kept k2 (grownBy_putObj' _ D (.deferred none)) (fun r e => by cases e; exact ⟨_, hK3, rfl⟩)
    exact ⟨rD y a b 0, by simp [results, Tryd.results46, go_sem, m0, m1, m2, rD], ⟨y, a, b, Hd.out, rfl⟩, B3.trans (belowK_b (w := w) (Nat.le_refl _) W3 D _ _ (by omega) hK3 rfl rfl)⟩
end Go.Proofs.YtiljfhkkinddeaaDoor
