/-
  Contracts of Heard and Corrected, both; the walk of their law.
-/
import Derived.Test.YtangijdonkkglaaGG
namespace Go.Proofs.Ytangijdonkkglaa
open Go.RowKit
set_option linter.unusedSimpArgs false
set_option linter.unusedVariables false

theorem lagR_cases (a : Air) (p q : Pt) : (∃ u v, lagR a p q = (u, v, 0) ∧ 0 ≤ u ∧ u ≤ v ∧ v ≤ 600000) ∨ lagR a p q = (0, 0, 7) ∨ lagR a p q = (0, 0, 1) := by
  unfold lagR
  by_cases h : VA a
  · by_cases h2 : isP p ∧ isP q
    · rw [if_pos h, if_pos h2]
      obtain ⟨b1, b2, b3⟩ := lagP_bd h h2.1 h2.2
      exact .inl ⟨_, _, rfl, b1, b2, b3⟩
    · rw [if_pos h, if_neg h2]; exact .inr (.inl rfl)
  · rw [if_neg h]; exact .inr (.inr rfl)
def heaF (g : Int × Int × Int) (t : Int) : Int × Int × Int := if g.2.2 = 0 then (if isT t then (t + g.1, t + g.2.1, 0) else (0, 0, 7)) else (0, 0, g.2.2)
def corF (g : Int × Int × Int) (t : Int) : Int × Int × Int := if g.2.2 = 0 then (if isT t then (t - g.2.1, t - g.1, 0) else (0, 0, 7)) else (0, 0, g.2.2)
def fromF (t bl bh : Int) : Int × Int × Int := if isT t then sumF t t bl bh else (0, 0, 7)
theorem from_plus {t u v : Int} (h0 : 0 ≤ u) (h1 : u ≤ v) (h2 : v ≤ 600000) : fromF t u v = heaF (u, v, 0) t := by
  unfold fromF heaF
  rw [if_pos rfl]
  by_cases h : isT t
  · rw [if_pos h, if_pos h]
    obtain ⟨t1, t2⟩ := h
    unfold sumF limF
    rw [if_pos (by simp [vS]; omega), if_neg (by omega)]
  · rw [if_neg h, if_neg h]
theorem from_minus {t u v : Int} (h0 : 0 ≤ u) (h1 : u ≤ v) (h2 : v ≤ 600000) : fromF t (-v) (-u) = corF (u, v, 0) t := by
  unfold fromF corF
  rw [if_pos rfl]
  by_cases h : isT t
  · rw [if_pos h, if_pos h]
    obtain ⟨t1, t2⟩ := h
    unfold sumF limF
    rw [if_pos (by simp [vS]; omega), if_neg (by omega)]
    simp [Int.sub_eq_add_neg]
  · rw [if_neg h, if_neg h]
theorem opp_lag {u v : Int} (h0 : 0 ≤ u) (h1 : u ≤ v) (h2 : v ≤ 600000) : oppF u v = (-v, -u, 0) := by
  unfold oppF
  rw [if_pos (by simp [vS]; omega)]
/-- P5.3. -/
theorem back_law {g : Int × Int × Int} {s t h1 h2 c1 c2 : Int} (hh : heaF g s = (h1, h2, 0)) (hc : corF g t = (c1, c2, 0)) (e1 : h1 ≤ t) (e2 : t ≤ h2) : c1 ≤ s ∧ s ≤ c2 := by
  unfold heaF at hh
  unfold corF at hc
  by_cases h : g.2.2 = 0
  · rw [if_pos h] at hh hc
    by_cases a : isT s
    · by_cases b : isT t
      · rw [if_pos a] at hh
        rw [if_pos b] at hc
        simp only [Prod.mk.injEq, and_true] at hh hc
        omega
      · rw [if_neg b] at hc; simp at hc
    · rw [if_neg a] at hh; simp at hh
  · rw [if_neg h] at hh
    simp only [Prod.mk.injEq] at hh
    exact absurd hh.2.2 h

set_option maxRecDepth 100000 in
set_option maxHeartbeats 1600000 in
theorem from_any (t bl bh : Int) (w : World) :
    Calls Try.prog 61 #[.int .i64 t, .agg #[.int .i64 bl, .int .i64 bh]] w fun e w' => e = .returned (rS (fromF t bl bh)) ∧ Bl w w' := by
  by_cases h : isT t
  · obtain ⟨x, y, z, hs⟩ : ∃ x y z, sumF t t bl bh = (x, y, z) := ⟨_, _, _, rfl⟩
    have HI := Lib.hid (show fromF t bl bh = (x, y, z) by rw [fromF, if_pos h, hs])
    have HS := Lib.hid hs
    obtain ⟨t1, t2⟩ := h
    clear hs
    go_enter Try.func61, Try.ntmps61
    go_wp2_with fail
    refine (sum_any t t bl bh _).mono ?_
    rintro q1 w1 ⟨rfl, hb⟩
    have xb0 := kcb hb (b := w.heap.size) (o := 0) (v := .int .i64 bl) (by first | assumption | (refine cellUp ?_; assumption) | go_cell)
    have xb1 := kcb hb (b := w.heap.size) (o := 1) (v := .int .i64 bh) (by first | assumption | (refine cellUp ?_; assumption) | go_cell)
    have r0 := kcb hb (b := w.heap.size + 1) (o := 0) (v := .int .i64 0) (by first | assumption | (refine cellUp ?_; assumption) | go_cell)
    have r1 := kcb hb (b := w.heap.size + 1) (o := 1) (v := .int .i64 0) (by first | assumption | (refine cellUp ?_; assumption) | go_cell)
    have fr := fzb hb (b := w.heap.size + 1) (o := 0) (by (try simp only [frozen?_alloc_cells, World.frozen?_setCell]); first | assumption | exact fz_new (by (try simp only [World.size_alloc, World.size_setCell]); omega)) (by (try simp only [World.size_alloc, World.size_setCell]); omega)
    have fs := fzb hb (b := w.heap.size + 1) (o := 1) (by (try simp only [frozen?_alloc_cells, World.frozen?_setCell]); first | assumption | exact fz_new (by (try simp only [World.size_alloc, World.size_setCell]); omega)) (by (try simp only [World.size_alloc, World.size_setCell]); omega)
    have B1 : Bl w w1 := Below.trans (by go_grown) (hb.mono (by (try simp only [World.size_alloc, World.size_setCell]); omega))
    have l1 := ltb r1
    have l1_1 := ltb xb1
    have zz1 := B1.size
    clear hb
    rw [HS.out]
    unfold rS
    go_wp2_with fail
    exact bodyPost_ret (v := rS (fromF t bl bh)) (by simp [results, Try.results61, go_sem, HI.out, rS, r0, r1]) rfl ⟨rfl, by go_grown⟩
  · have HI := Lib.hid (show fromF t bl bh = (0, 0, 7) by rw [fromF, if_neg h])
    by_cases h1 : t < 0
    · clear h
      go_enter Try.func61, Try.ntmps61
      go_wp2_with fail
      exact bodyPost_ret (v := rS (0, 0, 7)) (by simp [results, Try.results61, go_sem, rS]) rfl ⟨by rw [HI.out], by go_grown⟩
    · have h2 : 86400000 ≤ t := by unfold isT at h; omega
      clear h
      go_enter Try.func61, Try.ntmps61
      go_wp2_with fail
      exact bodyPost_ret (v := rS (0, 0, 7)) (by simp [results, Try.results61, go_sem, rS]) rfl ⟨by rw [HI.out], by go_grown⟩

set_option maxRecDepth 100000 in
set_option maxHeartbeats 3200000 in
theorem Heard_any (a : Air) (p q : Pt) (t : Int) (w : World) :
    Calls Try.prog 24 #[encA a, encP p, encP q, .int .i64 t] w fun e w' => e = .returned (rS (heaF (lagR a p q) t)) ∧ Bl w w' := by
  rcases lagR_cases a p q with ⟨u, v, hg, u0, uv, v1⟩ | hg | hg
  · have HG := Lib.hid hg
    rw [hg]
    obtain ⟨x, y, z, hx⟩ : ∃ x y z, fromF t u v = (x, y, z) := ⟨_, _, _, rfl⟩
    have HI := Lib.hid (show heaF (u, v, 0) t = (x, y, z) from (from_plus u0 uv v1).symm.trans hx)
    have HX := Lib.hid hx
    clear hg hx
    go_enter Try.func24, Try.ntmps24
    go_wp2_with fail
    refine (Lag_any a p q _).mono ?_
    rintro q1 w1 ⟨rfl, hb⟩
    have xa0 := kcb hb (b := w.heap.size) (o := 0) (v := .int .i64 a.s) (by first | assumption | (refine cellUp ?_; assumption) | go_cell)
    have xa1 := kcb hb (b := w.heap.size) (o := 1) (v := .int .i64 a.w) (by first | assumption | (refine cellUp ?_; assumption) | go_cell)
    have xp0 := kcb hb (b := w.heap.size + 1) (o := 0) (v := .int .i64 p.x) (by first | assumption | (refine cellUp ?_; assumption) | go_cell)
    have xp1 := kcb hb (b := w.heap.size + 1) (o := 1) (v := .int .i64 p.y) (by first | assumption | (refine cellUp ?_; assumption) | go_cell)
    have xq0 := kcb hb (b := w.heap.size + 1 + 1) (o := 0) (v := .int .i64 q.x) (by first | assumption | (refine cellUp ?_; assumption) | go_cell)
    have xq1 := kcb hb (b := w.heap.size + 1 + 1) (o := 1) (v := .int .i64 q.y) (by first | assumption | (refine cellUp ?_; assumption) | go_cell)
    have r0 := kcb hb (b := w.heap.size + 1 + 1 + 1) (o := 0) (v := .int .i64 0) (by first | assumption | (refine cellUp ?_; assumption) | go_cell)
    have r1 := kcb hb (b := w.heap.size + 1 + 1 + 1) (o := 1) (v := .int .i64 0) (by first | assumption | (refine cellUp ?_; assumption) | go_cell)
    have fr := fzb hb (b := w.heap.size + 1 + 1 + 1) (o := 0) (by (try simp only [frozen?_alloc_cells, World.frozen?_setCell]); first | assumption | exact fz_new (by (try simp only [World.size_alloc, World.size_setCell]); omega)) (by (try simp only [World.size_alloc, World.size_setCell]); omega)
    have fs := fzb hb (b := w.heap.size + 1 + 1 + 1) (o := 1) (by (try simp only [frozen?_alloc_cells, World.frozen?_setCell]); first | assumption | exact fz_new (by (try simp only [World.size_alloc, World.size_setCell]); omega)) (by (try simp only [World.size_alloc, World.size_setCell]); omega)
    have B1 : Bl w w1 := Below.trans (by go_grown) (hb.mono (by (try simp only [World.size_alloc, World.size_setCell]); omega))
    have l1 := ltb r1
    have l1_1 := ltb xq1
    have l1_2 := ltb xp1
    have l1_3 := ltb xa1
    have zz1 := B1.size
    clear hb
    rw [HG.out]
    unfold rS
    go_wp2_with fail
    refine (from_any t u v _).mono ?_
    rintro q2 w2 ⟨rfl, hb⟩
    have xa0 := kcb hb (b := w.heap.size) (o := 0) (v := .int .i64 a.s) (by first | assumption | (refine cellUp ?_; assumption) | go_cell)
    have xa1 := kcb hb (b := w.heap.size) (o := 1) (v := .int .i64 a.w) (by first | assumption | (refine cellUp ?_; assumption) | go_cell)
    have xp0 := kcb hb (b := w.heap.size + 1) (o := 0) (v := .int .i64 p.x) (by first | assumption | (refine cellUp ?_; assumption) | go_cell)
    have xp1 := kcb hb (b := w.heap.size + 1) (o := 1) (v := .int .i64 p.y) (by first | assumption | (refine cellUp ?_; assumption) | go_cell)
    have xq0 := kcb hb (b := w.heap.size + 1 + 1) (o := 0) (v := .int .i64 q.x) (by first | assumption | (refine cellUp ?_; assumption) | go_cell)
    have xq1 := kcb hb (b := w.heap.size + 1 + 1) (o := 1) (v := .int .i64 q.y) (by first | assumption | (refine cellUp ?_; assumption) | go_cell)
    have r0 := kcb hb (b := w.heap.size + 1 + 1 + 1) (o := 0) (v := .int .i64 0) (by first | assumption | (refine cellUp ?_; assumption) | go_cell)
    have r1 := kcb hb (b := w.heap.size + 1 + 1 + 1) (o := 1) (v := .int .i64 0) (by first | assumption | (refine cellUp ?_; assumption) | go_cell)
    have fr := fzb hb (b := w.heap.size + 1 + 1 + 1) (o := 0) (by (try simp only [frozen?_alloc_cells, World.frozen?_setCell]); first | assumption | exact fz_new (by (try simp only [World.size_alloc, World.size_setCell]); omega)) (by (try simp only [World.size_alloc, World.size_setCell]); omega)
    have fs := fzb hb (b := w.heap.size + 1 + 1 + 1) (o := 1) (by (try simp only [frozen?_alloc_cells, World.frozen?_setCell]); first | assumption | exact fz_new (by (try simp only [World.size_alloc, World.size_setCell]); omega)) (by (try simp only [World.size_alloc, World.size_setCell]); omega)
    have B2 : Bl w w2 := Below.trans (by go_grown) (hb.mono (by (try simp only [World.size_alloc, World.size_setCell]); omega))
    have l2 := ltb r1
    have l2_1 := ltb xq1
    have l2_2 := ltb xp1
    have l2_3 := ltb xa1
    have zz2 := B2.size
    clear hb
    rw [HX.out]
    unfold rS
    go_wp2_with fail
    exact bodyPost_ret (v := rS (heaF (u, v, 0) t)) (by simp [results, Try.results24, go_sem, HI.out, rS, r0, r1, l1]) rfl ⟨rfl, by go_grown⟩
  · have HG := Lib.hid hg
    rw [hg]
    have HI := Lib.hid (show heaF (0, 0, 7) t = (0, 0, 7) from rfl)
    clear hg
    go_enter Try.func24, Try.ntmps24
    go_wp2_with fail
    refine (Lag_any a p q _).mono ?_
    rintro q1 w1 ⟨rfl, hb⟩
    have xa0 := kcb hb (b := w.heap.size) (o := 0) (v := .int .i64 a.s) (by first | assumption | (refine cellUp ?_; assumption) | go_cell)
    have xa1 := kcb hb (b := w.heap.size) (o := 1) (v := .int .i64 a.w) (by first | assumption | (refine cellUp ?_; assumption) | go_cell)
    have xp0 := kcb hb (b := w.heap.size + 1) (o := 0) (v := .int .i64 p.x) (by first | assumption | (refine cellUp ?_; assumption) | go_cell)
    have xp1 := kcb hb (b := w.heap.size + 1) (o := 1) (v := .int .i64 p.y) (by first | assumption | (refine cellUp ?_; assumption) | go_cell)
    have xq0 := kcb hb (b := w.heap.size + 1 + 1) (o := 0) (v := .int .i64 q.x) (by first | assumption | (refine cellUp ?_; assumption) | go_cell)
    have xq1 := kcb hb (b := w.heap.size + 1 + 1) (o := 1) (v := .int .i64 q.y) (by first | assumption | (refine cellUp ?_; assumption) | go_cell)
    have r0 := kcb hb (b := w.heap.size + 1 + 1 + 1) (o := 0) (v := .int .i64 0) (by first | assumption | (refine cellUp ?_; assumption) | go_cell)
    have r1 := kcb hb (b := w.heap.size + 1 + 1 + 1) (o := 1) (v := .int .i64 0) (by first | assumption | (refine cellUp ?_; assumption) | go_cell)
    have fr := fzb hb (b := w.heap.size + 1 + 1 + 1) (o := 0) (by (try simp only [frozen?_alloc_cells, World.frozen?_setCell]); first | assumption | exact fz_new (by (try simp only [World.size_alloc, World.size_setCell]); omega)) (by (try simp only [World.size_alloc, World.size_setCell]); omega)
    have fs := fzb hb (b := w.heap.size + 1 + 1 + 1) (o := 1) (by (try simp only [frozen?_alloc_cells, World.frozen?_setCell]); first | assumption | exact fz_new (by (try simp only [World.size_alloc, World.size_setCell]); omega)) (by (try simp only [World.size_alloc, World.size_setCell]); omega)
    have B1 : Bl w w1 := Below.trans (by go_grown) (hb.mono (by (try simp only [World.size_alloc, World.size_setCell]); omega))
    have l1 := ltb r1
    have l1_1 := ltb xq1
    have l1_2 := ltb xp1
    have l1_3 := ltb xa1
    have zz1 := B1.size
    clear hb
    rw [HG.out]
    unfold rS
    go_wp2_with fail
    exact bodyPost_ret (v := rS (0, 0, 7)) (by simp [results, Try.results24, go_sem, rS, r0, r1, l1]) rfl ⟨rfl, by go_grown⟩
  · have HG := Lib.hid hg
    rw [hg]
    have HI := Lib.hid (show heaF (0, 0, 1) t = (0, 0, 1) from rfl)
    clear hg
    go_enter Try.func24, Try.ntmps24
    go_wp2_with fail
    refine (Lag_any a p q _).mono ?_
    rintro q1 w1 ⟨rfl, hb⟩
    have xa0 := kcb hb (b := w.heap.size) (o := 0) (v := .int .i64 a.s) (by first | assumption | (refine cellUp ?_; assumption) | go_cell)
    have xa1 := kcb hb (b := w.heap.size) (o := 1) (v := .int .i64 a.w) (by first | assumption | (refine cellUp ?_; assumption) | go_cell)
    have xp0 := kcb hb (b := w.heap.size + 1) (o := 0) (v := .int .i64 p.x) (by first | assumption | (refine cellUp ?_; assumption) | go_cell)
    have xp1 := kcb hb (b := w.heap.size + 1) (o := 1) (v := .int .i64 p.y) (by first | assumption | (refine cellUp ?_; assumption) | go_cell)
    have xq0 := kcb hb (b := w.heap.size + 1 + 1) (o := 0) (v := .int .i64 q.x) (by first | assumption | (refine cellUp ?_; assumption) | go_cell)
    have xq1 := kcb hb (b := w.heap.size + 1 + 1) (o := 1) (v := .int .i64 q.y) (by first | assumption | (refine cellUp ?_; assumption) | go_cell)
    have r0 := kcb hb (b := w.heap.size + 1 + 1 + 1) (o := 0) (v := .int .i64 0) (by first | assumption | (refine cellUp ?_; assumption) | go_cell)
    have r1 := kcb hb (b := w.heap.size + 1 + 1 + 1) (o := 1) (v := .int .i64 0) (by first | assumption | (refine cellUp ?_; assumption) | go_cell)
    have fr := fzb hb (b := w.heap.size + 1 + 1 + 1) (o := 0) (by (try simp only [frozen?_alloc_cells, World.frozen?_setCell]); first | assumption | exact fz_new (by (try simp only [World.size_alloc, World.size_setCell]); omega)) (by (try simp only [World.size_alloc, World.size_setCell]); omega)
    have fs := fzb hb (b := w.heap.size + 1 + 1 + 1) (o := 1) (by (try simp only [frozen?_alloc_cells, World.frozen?_setCell]); first | assumption | exact fz_new (by (try simp only [World.size_alloc, World.size_setCell]); omega)) (by (try simp only [World.size_alloc, World.size_setCell]); omega)
    have B1 : Bl w w1 := Below.trans (by go_grown) (hb.mono (by (try simp only [World.size_alloc, World.size_setCell]); omega))
    have l1 := ltb r1
    have l1_1 := ltb xq1
    have l1_2 := ltb xp1
    have l1_3 := ltb xa1
    have zz1 := B1.size
    clear hb
    rw [HG.out]
    unfold rS
    go_wp2_with fail
    exact bodyPost_ret (v := rS (0, 0, 1)) (by simp [results, Try.results24, go_sem, rS, r0, r1, l1]) rfl ⟨rfl, by go_grown⟩

set_option maxRecDepth 100000 in
set_option maxHeartbeats 3200000 in
theorem Corrected_any (a : Air) (p q : Pt) (t : Int) (w : World) :
    Calls Try.prog 26 #[encA a, encP p, encP q, .int .i64 t] w fun e w' => e = .returned (rS (corF (lagR a p q) t)) ∧ Bl w w' := by
  rcases lagR_cases a p q with ⟨u, v, hg, u0, uv, v1⟩ | hg | hg
  · have HG := Lib.hid hg
    rw [hg]
    obtain ⟨x, y, z, hx⟩ : ∃ x y z, fromF t (-v) (-u) = (x, y, z) := ⟨_, _, _, rfl⟩
    have HI := Lib.hid (show corF (u, v, 0) t = (x, y, z) from (from_minus u0 uv v1).symm.trans hx)
    have HX := Lib.hid hx
    have HO := Lib.hid (opp_lag u0 uv v1)
    clear hg hx
    go_enter Try.func26, Try.ntmps26
    go_wp2_with fail
    refine (Lag_any a p q _).mono ?_
    rintro q1 w1 ⟨rfl, hb⟩
    have xa0 := kcb hb (b := w.heap.size) (o := 0) (v := .int .i64 a.s) (by first | assumption | (refine cellUp ?_; assumption) | go_cell)
    have xa1 := kcb hb (b := w.heap.size) (o := 1) (v := .int .i64 a.w) (by first | assumption | (refine cellUp ?_; assumption) | go_cell)
    have xp0 := kcb hb (b := w.heap.size + 1) (o := 0) (v := .int .i64 p.x) (by first | assumption | (refine cellUp ?_; assumption) | go_cell)
    have xp1 := kcb hb (b := w.heap.size + 1) (o := 1) (v := .int .i64 p.y) (by first | assumption | (refine cellUp ?_; assumption) | go_cell)
    have xq0 := kcb hb (b := w.heap.size + 1 + 1) (o := 0) (v := .int .i64 q.x) (by first | assumption | (refine cellUp ?_; assumption) | go_cell)
    have xq1 := kcb hb (b := w.heap.size + 1 + 1) (o := 1) (v := .int .i64 q.y) (by first | assumption | (refine cellUp ?_; assumption) | go_cell)
    have r0 := kcb hb (b := w.heap.size + 1 + 1 + 1) (o := 0) (v := .int .i64 0) (by first | assumption | (refine cellUp ?_; assumption) | go_cell)
    have r1 := kcb hb (b := w.heap.size + 1 + 1 + 1) (o := 1) (v := .int .i64 0) (by first | assumption | (refine cellUp ?_; assumption) | go_cell)
    have fr := fzb hb (b := w.heap.size + 1 + 1 + 1) (o := 0) (by (try simp only [frozen?_alloc_cells, World.frozen?_setCell]); first | assumption | exact fz_new (by (try simp only [World.size_alloc, World.size_setCell]); omega)) (by (try simp only [World.size_alloc, World.size_setCell]); omega)
    have fs := fzb hb (b := w.heap.size + 1 + 1 + 1) (o := 1) (by (try simp only [frozen?_alloc_cells, World.frozen?_setCell]); first | assumption | exact fz_new (by (try simp only [World.size_alloc, World.size_setCell]); omega)) (by (try simp only [World.size_alloc, World.size_setCell]); omega)
    have B1 : Bl w w1 := Below.trans (by go_grown) (hb.mono (by (try simp only [World.size_alloc, World.size_setCell]); omega))
    have l1 := ltb r1
    have l1_1 := ltb xq1
    have l1_2 := ltb xp1
    have l1_3 := ltb xa1
    have zz1 := B1.size
    clear hb
    rw [HG.out]
    unfold rS
    go_wp2_with fail
    refine (opp_any u v _).mono ?_
    rintro q2 w2 ⟨rfl, hb⟩
    have xa0 := kcb hb (b := w.heap.size) (o := 0) (v := .int .i64 a.s) (by first | assumption | (refine cellUp ?_; assumption) | go_cell)
    have xa1 := kcb hb (b := w.heap.size) (o := 1) (v := .int .i64 a.w) (by first | assumption | (refine cellUp ?_; assumption) | go_cell)
    have xp0 := kcb hb (b := w.heap.size + 1) (o := 0) (v := .int .i64 p.x) (by first | assumption | (refine cellUp ?_; assumption) | go_cell)
    have xp1 := kcb hb (b := w.heap.size + 1) (o := 1) (v := .int .i64 p.y) (by first | assumption | (refine cellUp ?_; assumption) | go_cell)
    have xq0 := kcb hb (b := w.heap.size + 1 + 1) (o := 0) (v := .int .i64 q.x) (by first | assumption | (refine cellUp ?_; assumption) | go_cell)
    have xq1 := kcb hb (b := w.heap.size + 1 + 1) (o := 1) (v := .int .i64 q.y) (by first | assumption | (refine cellUp ?_; assumption) | go_cell)
    have r0 := kcb hb (b := w.heap.size + 1 + 1 + 1) (o := 0) (v := .int .i64 0) (by first | assumption | (refine cellUp ?_; assumption) | go_cell)
    have r1 := kcb hb (b := w.heap.size + 1 + 1 + 1) (o := 1) (v := .int .i64 0) (by first | assumption | (refine cellUp ?_; assumption) | go_cell)
    have fr := fzb hb (b := w.heap.size + 1 + 1 + 1) (o := 0) (by (try simp only [frozen?_alloc_cells, World.frozen?_setCell]); first | assumption | exact fz_new (by (try simp only [World.size_alloc, World.size_setCell]); omega)) (by (try simp only [World.size_alloc, World.size_setCell]); omega)
    have fs := fzb hb (b := w.heap.size + 1 + 1 + 1) (o := 1) (by (try simp only [frozen?_alloc_cells, World.frozen?_setCell]); first | assumption | exact fz_new (by (try simp only [World.size_alloc, World.size_setCell]); omega)) (by (try simp only [World.size_alloc, World.size_setCell]); omega)
    have B2 : Bl w w2 := Below.trans (by go_grown) (hb.mono (by (try simp only [World.size_alloc, World.size_setCell]); omega))
    have l2 := ltb r1
    have l2_1 := ltb xq1
    have l2_2 := ltb xp1
    have l2_3 := ltb xa1
    have zz2 := B2.size
    clear hb
    rw [HO.out]
    unfold rS
    go_wp2_with fail
    refine (from_any t (-v) (-u) _).mono ?_
    rintro q3 w3 ⟨rfl, hb⟩
    have xa0 := kcb hb (b := w.heap.size) (o := 0) (v := .int .i64 a.s) (by first | assumption | (refine cellUp ?_; assumption) | go_cell)
    have xa1 := kcb hb (b := w.heap.size) (o := 1) (v := .int .i64 a.w) (by first | assumption | (refine cellUp ?_; assumption) | go_cell)
    have xp0 := kcb hb (b := w.heap.size + 1) (o := 0) (v := .int .i64 p.x) (by first | assumption | (refine cellUp ?_; assumption) | go_cell)
    have xp1 := kcb hb (b := w.heap.size + 1) (o := 1) (v := .int .i64 p.y) (by first | assumption | (refine cellUp ?_; assumption) | go_cell)
    have xq0 := kcb hb (b := w.heap.size + 1 + 1) (o := 0) (v := .int .i64 q.x) (by first | assumption | (refine cellUp ?_; assumption) | go_cell)
    have xq1 := kcb hb (b := w.heap.size + 1 + 1) (o := 1) (v := .int .i64 q.y) (by first | assumption | (refine cellUp ?_; assumption) | go_cell)
    have r0 := kcb hb (b := w.heap.size + 1 + 1 + 1) (o := 0) (v := .int .i64 0) (by first | assumption | (refine cellUp ?_; assumption) | go_cell)
    have r1 := kcb hb (b := w.heap.size + 1 + 1 + 1) (o := 1) (v := .int .i64 0) (by first | assumption | (refine cellUp ?_; assumption) | go_cell)
    have fr := fzb hb (b := w.heap.size + 1 + 1 + 1) (o := 0) (by (try simp only [frozen?_alloc_cells, World.frozen?_setCell]); first | assumption | exact fz_new (by (try simp only [World.size_alloc, World.size_setCell]); omega)) (by (try simp only [World.size_alloc, World.size_setCell]); omega)
    have fs := fzb hb (b := w.heap.size + 1 + 1 + 1) (o := 1) (by (try simp only [frozen?_alloc_cells, World.frozen?_setCell]); first | assumption | exact fz_new (by (try simp only [World.size_alloc, World.size_setCell]); omega)) (by (try simp only [World.size_alloc, World.size_setCell]); omega)
    have B3 : Bl w w3 := Below.trans (by go_grown) (hb.mono (by (try simp only [World.size_alloc, World.size_setCell]); omega))
    have l3 := ltb r1
    have l3_1 := ltb xq1
    have l3_2 := ltb xp1
    have l3_3 := ltb xa1
    have zz3 := B3.size
    clear hb
    rw [HX.out]
    unfold rS
    go_wp2_with fail
    exact bodyPost_ret (v := rS (corF (u, v, 0) t)) (by simp [results, Try.results26, go_sem, HI.out, rS, r0, r1, l1]) rfl ⟨rfl, by go_grown⟩
  · have HG := Lib.hid hg
    rw [hg]
    have HI := Lib.hid (show corF (0, 0, 7) t = (0, 0, 7) from rfl)
    clear hg
    go_enter Try.func26, Try.ntmps26
    go_wp2_with fail
    refine (Lag_any a p q _).mono ?_
    rintro q1 w1 ⟨rfl, hb⟩
    have xa0 := kcb hb (b := w.heap.size) (o := 0) (v := .int .i64 a.s) (by first | assumption | (refine cellUp ?_; assumption) | go_cell)
    have xa1 := kcb hb (b := w.heap.size) (o := 1) (v := .int .i64 a.w) (by first | assumption | (refine cellUp ?_; assumption) | go_cell)
    have xp0 := kcb hb (b := w.heap.size + 1) (o := 0) (v := .int .i64 p.x) (by first | assumption | (refine cellUp ?_; assumption) | go_cell)
    have xp1 := kcb hb (b := w.heap.size + 1) (o := 1) (v := .int .i64 p.y) (by first | assumption | (refine cellUp ?_; assumption) | go_cell)
    have xq0 := kcb hb (b := w.heap.size + 1 + 1) (o := 0) (v := .int .i64 q.x) (by first | assumption | (refine cellUp ?_; assumption) | go_cell)
    have xq1 := kcb hb (b := w.heap.size + 1 + 1) (o := 1) (v := .int .i64 q.y) (by first | assumption | (refine cellUp ?_; assumption) | go_cell)
    have r0 := kcb hb (b := w.heap.size + 1 + 1 + 1) (o := 0) (v := .int .i64 0) (by first | assumption | (refine cellUp ?_; assumption) | go_cell)
    have r1 := kcb hb (b := w.heap.size + 1 + 1 + 1) (o := 1) (v := .int .i64 0) (by first | assumption | (refine cellUp ?_; assumption) | go_cell)
    have fr := fzb hb (b := w.heap.size + 1 + 1 + 1) (o := 0) (by (try simp only [frozen?_alloc_cells, World.frozen?_setCell]); first | assumption | exact fz_new (by (try simp only [World.size_alloc, World.size_setCell]); omega)) (by (try simp only [World.size_alloc, World.size_setCell]); omega)
    have fs := fzb hb (b := w.heap.size + 1 + 1 + 1) (o := 1) (by (try simp only [frozen?_alloc_cells, World.frozen?_setCell]); first | assumption | exact fz_new (by (try simp only [World.size_alloc, World.size_setCell]); omega)) (by (try simp only [World.size_alloc, World.size_setCell]); omega)
    have B1 : Bl w w1 := Below.trans (by go_grown) (hb.mono (by (try simp only [World.size_alloc, World.size_setCell]); omega))
    have l1 := ltb r1
    have l1_1 := ltb xq1
    have l1_2 := ltb xp1
    have l1_3 := ltb xa1
    have zz1 := B1.size
    clear hb
    rw [HG.out]
    unfold rS
    go_wp2_with fail
    exact bodyPost_ret (v := rS (0, 0, 7)) (by simp [results, Try.results26, go_sem, rS, r0, r1, l1]) rfl ⟨rfl, by go_grown⟩
  · have HG := Lib.hid hg
    rw [hg]
    have HI := Lib.hid (show corF (0, 0, 1) t = (0, 0, 1) from rfl)
    clear hg
    go_enter Try.func26, Try.ntmps26
    go_wp2_with fail
    refine (Lag_any a p q _).mono ?_
    rintro q1 w1 ⟨rfl, hb⟩
    have xa0 := kcb hb (b := w.heap.size) (o := 0) (v := .int .i64 a.s) (by first | assumption | (refine cellUp ?_; assumption) | go_cell)
    have xa1 := kcb hb (b := w.heap.size) (o := 1) (v := .int .i64 a.w) (by first | assumption | (refine cellUp ?_; assumption) | go_cell)
    have xp0 := kcb hb (b := w.heap.size + 1) (o := 0) (v := .int .i64 p.x) (by first | assumption | (refine cellUp ?_; assumption) | go_cell)
    have xp1 := kcb hb (b := w.heap.size + 1) (o := 1) (v := .int .i64 p.y) (by first | assumption | (refine cellUp ?_; assumption) | go_cell)
    have xq0 := kcb hb (b := w.heap.size + 1 + 1) (o := 0) (v := .int .i64 q.x) (by first | assumption | (refine cellUp ?_; assumption) | go_cell)
    have xq1 := kcb hb (b := w.heap.size + 1 + 1) (o := 1) (v := .int .i64 q.y) (by first | assumption | (refine cellUp ?_; assumption) | go_cell)
    have r0 := kcb hb (b := w.heap.size + 1 + 1 + 1) (o := 0) (v := .int .i64 0) (by first | assumption | (refine cellUp ?_; assumption) | go_cell)
    have r1 := kcb hb (b := w.heap.size + 1 + 1 + 1) (o := 1) (v := .int .i64 0) (by first | assumption | (refine cellUp ?_; assumption) | go_cell)
    have fr := fzb hb (b := w.heap.size + 1 + 1 + 1) (o := 0) (by (try simp only [frozen?_alloc_cells, World.frozen?_setCell]); first | assumption | exact fz_new (by (try simp only [World.size_alloc, World.size_setCell]); omega)) (by (try simp only [World.size_alloc, World.size_setCell]); omega)
    have fs := fzb hb (b := w.heap.size + 1 + 1 + 1) (o := 1) (by (try simp only [frozen?_alloc_cells, World.frozen?_setCell]); first | assumption | exact fz_new (by (try simp only [World.size_alloc, World.size_setCell]); omega)) (by (try simp only [World.size_alloc, World.size_setCell]); omega)
    have B1 : Bl w w1 := Below.trans (by go_grown) (hb.mono (by (try simp only [World.size_alloc, World.size_setCell]); omega))
    have l1 := ltb r1
    have l1_1 := ltb xq1
    have l1_2 := ltb xp1
    have l1_3 := ltb xa1
    have zz1 := B1.size
    clear hb
    rw [HG.out]
    unfold rS
    go_wp2_with fail
    exact bodyPost_ret (v := rS (0, 0, 1)) (by simp [results, Try.results26, go_sem, rS, r0, r1, l1]) rfl ⟨rfl, by go_grown⟩

set_option maxRecDepth 100000 in
set_option maxHeartbeats 3200000 in
theorem rHeard_any (a : Air) (p q : Pt) (t : Int) (w : World) :
    Calls Try.prog 25 #[encA a, encP p, encP q, .int .i64 t] w fun e w' => e = .returned (rS (heaF (lagR a p q) t)) ∧ Bl w w' := by
  rcases lagR_cases a p q with ⟨u, v, hg, u0, uv, v1⟩ | hg | hg
  · have HG := Lib.hid hg
    rw [hg]
    clear hg
    by_cases ht : isT t
    · have HI := Lib.hid (show heaF (u, v, 0) t = (t + u, t + v, 0) by unfold heaF; rw [if_pos rfl, if_pos ht])
      have Q1 := Lib.hid (show decide (0 ≤ t ∧ t ≤ 86399999) = true from decide_eq_true ht)
      obtain ⟨t1, t2⟩ := ht
      go_enter Try.func25, Try.ntmps25
      go_wp2_with fail
      refine (rLag_any a p q _).mono ?_
      rintro q1 w1 ⟨rfl, hb⟩
      have xa0 := kcb hb (b := w.heap.size) (o := 0) (v := .int .i64 a.s) (by first | assumption | (refine cellUp ?_; assumption) | go_cell)
      have xa1 := kcb hb (b := w.heap.size) (o := 1) (v := .int .i64 a.w) (by first | assumption | (refine cellUp ?_; assumption) | go_cell)
      have xp0 := kcb hb (b := w.heap.size + 1) (o := 0) (v := .int .i64 p.x) (by first | assumption | (refine cellUp ?_; assumption) | go_cell)
      have xp1 := kcb hb (b := w.heap.size + 1) (o := 1) (v := .int .i64 p.y) (by first | assumption | (refine cellUp ?_; assumption) | go_cell)
      have xq0 := kcb hb (b := w.heap.size + 1 + 1) (o := 0) (v := .int .i64 q.x) (by first | assumption | (refine cellUp ?_; assumption) | go_cell)
      have xq1 := kcb hb (b := w.heap.size + 1 + 1) (o := 1) (v := .int .i64 q.y) (by first | assumption | (refine cellUp ?_; assumption) | go_cell)
      have r0 := kcb hb (b := w.heap.size + 1 + 1 + 1) (o := 0) (v := .int .i64 0) (by first | assumption | (refine cellUp ?_; assumption) | go_cell)
      have r1 := kcb hb (b := w.heap.size + 1 + 1 + 1) (o := 1) (v := .int .i64 0) (by first | assumption | (refine cellUp ?_; assumption) | go_cell)
      have fr := fzb hb (b := w.heap.size + 1 + 1 + 1) (o := 0) (by (try simp only [frozen?_alloc_cells, World.frozen?_setCell]); first | assumption | exact fz_new (by (try simp only [World.size_alloc, World.size_setCell]); omega)) (by (try simp only [World.size_alloc, World.size_setCell]); omega)
      have fs := fzb hb (b := w.heap.size + 1 + 1 + 1) (o := 1) (by (try simp only [frozen?_alloc_cells, World.frozen?_setCell]); first | assumption | exact fz_new (by (try simp only [World.size_alloc, World.size_setCell]); omega)) (by (try simp only [World.size_alloc, World.size_setCell]); omega)
      have B1 : Bl w w1 := Below.trans (by go_grown) (hb.mono (by (try simp only [World.size_alloc, World.size_setCell]); omega))
      have l1 := ltb r1
      have l1_1 := ltb xq1
      have l1_2 := ltb xp1
      have l1_3 := ltb xa1
      have zz1 := B1.size
      clear hb
      rw [HG.out]
      unfold rS
      go_wp2_with fail
      refine (within5_any _ _ _ _).mono ?_
      rintro e9 w9 ⟨rfl, rfl⟩
      rw [Q1.out]
      go_wp2_with fail
      exact bodyPost_ret (v := rS (heaF (u, v, 0) t)) (by simp [results, Try.results25, go_sem, HI.out, rS, r0, r1, l1]) rfl ⟨rfl, by go_grown⟩
    · have HI := Lib.hid (show heaF (u, v, 0) t = (0, 0, 7) by unfold heaF; rw [if_pos rfl, if_neg ht])
      have Q1 := Lib.hid (show decide (0 ≤ t ∧ t ≤ 86399999) = false from decide_eq_false ht)
      clear ht
      go_enter Try.func25, Try.ntmps25
      go_wp2_with fail
      refine (rLag_any a p q _).mono ?_
      rintro q1 w1 ⟨rfl, hb⟩
      have xa0 := kcb hb (b := w.heap.size) (o := 0) (v := .int .i64 a.s) (by first | assumption | (refine cellUp ?_; assumption) | go_cell)
      have xa1 := kcb hb (b := w.heap.size) (o := 1) (v := .int .i64 a.w) (by first | assumption | (refine cellUp ?_; assumption) | go_cell)
      have xp0 := kcb hb (b := w.heap.size + 1) (o := 0) (v := .int .i64 p.x) (by first | assumption | (refine cellUp ?_; assumption) | go_cell)
      have xp1 := kcb hb (b := w.heap.size + 1) (o := 1) (v := .int .i64 p.y) (by first | assumption | (refine cellUp ?_; assumption) | go_cell)
      have xq0 := kcb hb (b := w.heap.size + 1 + 1) (o := 0) (v := .int .i64 q.x) (by first | assumption | (refine cellUp ?_; assumption) | go_cell)
      have xq1 := kcb hb (b := w.heap.size + 1 + 1) (o := 1) (v := .int .i64 q.y) (by first | assumption | (refine cellUp ?_; assumption) | go_cell)
      have r0 := kcb hb (b := w.heap.size + 1 + 1 + 1) (o := 0) (v := .int .i64 0) (by first | assumption | (refine cellUp ?_; assumption) | go_cell)
      have r1 := kcb hb (b := w.heap.size + 1 + 1 + 1) (o := 1) (v := .int .i64 0) (by first | assumption | (refine cellUp ?_; assumption) | go_cell)
      have fr := fzb hb (b := w.heap.size + 1 + 1 + 1) (o := 0) (by (try simp only [frozen?_alloc_cells, World.frozen?_setCell]); first | assumption | exact fz_new (by (try simp only [World.size_alloc, World.size_setCell]); omega)) (by (try simp only [World.size_alloc, World.size_setCell]); omega)
      have fs := fzb hb (b := w.heap.size + 1 + 1 + 1) (o := 1) (by (try simp only [frozen?_alloc_cells, World.frozen?_setCell]); first | assumption | exact fz_new (by (try simp only [World.size_alloc, World.size_setCell]); omega)) (by (try simp only [World.size_alloc, World.size_setCell]); omega)
      have B1 : Bl w w1 := Below.trans (by go_grown) (hb.mono (by (try simp only [World.size_alloc, World.size_setCell]); omega))
      have l1 := ltb r1
      have l1_1 := ltb xq1
      have l1_2 := ltb xp1
      have l1_3 := ltb xa1
      have zz1 := B1.size
      clear hb
      rw [HG.out]
      unfold rS
      go_wp2_with fail
      refine (within5_any _ _ _ _).mono ?_
      rintro e9 w9 ⟨rfl, rfl⟩
      rw [Q1.out]
      go_wp2_with fail
      exact bodyPost_ret (v := rS (heaF (u, v, 0) t)) (by simp [results, Try.results25, go_sem, HI.out, rS, r0, r1, l1]) rfl ⟨rfl, by go_grown⟩
  · have HG := Lib.hid hg
    rw [hg]
    have HI := Lib.hid (show heaF (0, 0, 7) t = (0, 0, 7) from rfl)
    clear hg
    go_enter Try.func25, Try.ntmps25
    go_wp2_with fail
    refine (rLag_any a p q _).mono ?_
    rintro q1 w1 ⟨rfl, hb⟩
    have xa0 := kcb hb (b := w.heap.size) (o := 0) (v := .int .i64 a.s) (by first | assumption | (refine cellUp ?_; assumption) | go_cell)
    have xa1 := kcb hb (b := w.heap.size) (o := 1) (v := .int .i64 a.w) (by first | assumption | (refine cellUp ?_; assumption) | go_cell)
    have xp0 := kcb hb (b := w.heap.size + 1) (o := 0) (v := .int .i64 p.x) (by first | assumption | (refine cellUp ?_; assumption) | go_cell)
    have xp1 := kcb hb (b := w.heap.size + 1) (o := 1) (v := .int .i64 p.y) (by first | assumption | (refine cellUp ?_; assumption) | go_cell)
    have xq0 := kcb hb (b := w.heap.size + 1 + 1) (o := 0) (v := .int .i64 q.x) (by first | assumption | (refine cellUp ?_; assumption) | go_cell)
    have xq1 := kcb hb (b := w.heap.size + 1 + 1) (o := 1) (v := .int .i64 q.y) (by first | assumption | (refine cellUp ?_; assumption) | go_cell)
    have r0 := kcb hb (b := w.heap.size + 1 + 1 + 1) (o := 0) (v := .int .i64 0) (by first | assumption | (refine cellUp ?_; assumption) | go_cell)
    have r1 := kcb hb (b := w.heap.size + 1 + 1 + 1) (o := 1) (v := .int .i64 0) (by first | assumption | (refine cellUp ?_; assumption) | go_cell)
    have fr := fzb hb (b := w.heap.size + 1 + 1 + 1) (o := 0) (by (try simp only [frozen?_alloc_cells, World.frozen?_setCell]); first | assumption | exact fz_new (by (try simp only [World.size_alloc, World.size_setCell]); omega)) (by (try simp only [World.size_alloc, World.size_setCell]); omega)
    have fs := fzb hb (b := w.heap.size + 1 + 1 + 1) (o := 1) (by (try simp only [frozen?_alloc_cells, World.frozen?_setCell]); first | assumption | exact fz_new (by (try simp only [World.size_alloc, World.size_setCell]); omega)) (by (try simp only [World.size_alloc, World.size_setCell]); omega)
    have B1 : Bl w w1 := Below.trans (by go_grown) (hb.mono (by (try simp only [World.size_alloc, World.size_setCell]); omega))
    have l1 := ltb r1
    have l1_1 := ltb xq1
    have l1_2 := ltb xp1
    have l1_3 := ltb xa1
    have zz1 := B1.size
    clear hb
    rw [HG.out]
    unfold rS
    go_wp2_with fail
    exact bodyPost_ret (v := rS (0, 0, 7)) (by simp [results, Try.results25, go_sem, rS, r0, r1, l1]) rfl ⟨rfl, by go_grown⟩
  · have HG := Lib.hid hg
    rw [hg]
    have HI := Lib.hid (show heaF (0, 0, 1) t = (0, 0, 1) from rfl)
    clear hg
    go_enter Try.func25, Try.ntmps25
    go_wp2_with fail
    refine (rLag_any a p q _).mono ?_
    rintro q1 w1 ⟨rfl, hb⟩
    have xa0 := kcb hb (b := w.heap.size) (o := 0) (v := .int .i64 a.s) (by first | assumption | (refine cellUp ?_; assumption) | go_cell)
    have xa1 := kcb hb (b := w.heap.size) (o := 1) (v := .int .i64 a.w) (by first | assumption | (refine cellUp ?_; assumption) | go_cell)
    have xp0 := kcb hb (b := w.heap.size + 1) (o := 0) (v := .int .i64 p.x) (by first | assumption | (refine cellUp ?_; assumption) | go_cell)
    have xp1 := kcb hb (b := w.heap.size + 1) (o := 1) (v := .int .i64 p.y) (by first | assumption | (refine cellUp ?_; assumption) | go_cell)
    have xq0 := kcb hb (b := w.heap.size + 1 + 1) (o := 0) (v := .int .i64 q.x) (by first | assumption | (refine cellUp ?_; assumption) | go_cell)
    have xq1 := kcb hb (b := w.heap.size + 1 + 1) (o := 1) (v := .int .i64 q.y) (by first | assumption | (refine cellUp ?_; assumption) | go_cell)
    have r0 := kcb hb (b := w.heap.size + 1 + 1 + 1) (o := 0) (v := .int .i64 0) (by first | assumption | (refine cellUp ?_; assumption) | go_cell)
    have r1 := kcb hb (b := w.heap.size + 1 + 1 + 1) (o := 1) (v := .int .i64 0) (by first | assumption | (refine cellUp ?_; assumption) | go_cell)
    have fr := fzb hb (b := w.heap.size + 1 + 1 + 1) (o := 0) (by (try simp only [frozen?_alloc_cells, World.frozen?_setCell]); first | assumption | exact fz_new (by (try simp only [World.size_alloc, World.size_setCell]); omega)) (by (try simp only [World.size_alloc, World.size_setCell]); omega)
    have fs := fzb hb (b := w.heap.size + 1 + 1 + 1) (o := 1) (by (try simp only [frozen?_alloc_cells, World.frozen?_setCell]); first | assumption | exact fz_new (by (try simp only [World.size_alloc, World.size_setCell]); omega)) (by (try simp only [World.size_alloc, World.size_setCell]); omega)
    have B1 : Bl w w1 := Below.trans (by go_grown) (hb.mono (by (try simp only [World.size_alloc, World.size_setCell]); omega))
    have l1 := ltb r1
    have l1_1 := ltb xq1
    have l1_2 := ltb xp1
    have l1_3 := ltb xa1
    have zz1 := B1.size
    clear hb
    rw [HG.out]
    unfold rS
    go_wp2_with fail
    exact bodyPost_ret (v := rS (0, 0, 1)) (by simp [results, Try.results25, go_sem, rS, r0, r1, l1]) rfl ⟨rfl, by go_grown⟩

set_option maxRecDepth 100000 in
set_option maxHeartbeats 3200000 in
theorem rCorrected_any (a : Air) (p q : Pt) (t : Int) (w : World) :
    Calls Try.prog 27 #[encA a, encP p, encP q, .int .i64 t] w fun e w' => e = .returned (rS (corF (lagR a p q) t)) ∧ Bl w w' := by
  rcases lagR_cases a p q with ⟨u, v, hg, u0, uv, v1⟩ | hg | hg
  · have HG := Lib.hid hg
    rw [hg]
    clear hg
    by_cases ht : isT t
    · have HI := Lib.hid (show corF (u, v, 0) t = (t - v, t - u, 0) by unfold corF; rw [if_pos rfl, if_pos ht])
      have Q1 := Lib.hid (show decide (0 ≤ t ∧ t ≤ 86399999) = true from decide_eq_true ht)
      obtain ⟨t1, t2⟩ := ht
      go_enter Try.func27, Try.ntmps27
      go_wp2_with fail
      refine (rLag_any a p q _).mono ?_
      rintro q1 w1 ⟨rfl, hb⟩
      have xa0 := kcb hb (b := w.heap.size) (o := 0) (v := .int .i64 a.s) (by first | assumption | (refine cellUp ?_; assumption) | go_cell)
      have xa1 := kcb hb (b := w.heap.size) (o := 1) (v := .int .i64 a.w) (by first | assumption | (refine cellUp ?_; assumption) | go_cell)
      have xp0 := kcb hb (b := w.heap.size + 1) (o := 0) (v := .int .i64 p.x) (by first | assumption | (refine cellUp ?_; assumption) | go_cell)
      have xp1 := kcb hb (b := w.heap.size + 1) (o := 1) (v := .int .i64 p.y) (by first | assumption | (refine cellUp ?_; assumption) | go_cell)
      have xq0 := kcb hb (b := w.heap.size + 1 + 1) (o := 0) (v := .int .i64 q.x) (by first | assumption | (refine cellUp ?_; assumption) | go_cell)
      have xq1 := kcb hb (b := w.heap.size + 1 + 1) (o := 1) (v := .int .i64 q.y) (by first | assumption | (refine cellUp ?_; assumption) | go_cell)
      have r0 := kcb hb (b := w.heap.size + 1 + 1 + 1) (o := 0) (v := .int .i64 0) (by first | assumption | (refine cellUp ?_; assumption) | go_cell)
      have r1 := kcb hb (b := w.heap.size + 1 + 1 + 1) (o := 1) (v := .int .i64 0) (by first | assumption | (refine cellUp ?_; assumption) | go_cell)
      have fr := fzb hb (b := w.heap.size + 1 + 1 + 1) (o := 0) (by (try simp only [frozen?_alloc_cells, World.frozen?_setCell]); first | assumption | exact fz_new (by (try simp only [World.size_alloc, World.size_setCell]); omega)) (by (try simp only [World.size_alloc, World.size_setCell]); omega)
      have fs := fzb hb (b := w.heap.size + 1 + 1 + 1) (o := 1) (by (try simp only [frozen?_alloc_cells, World.frozen?_setCell]); first | assumption | exact fz_new (by (try simp only [World.size_alloc, World.size_setCell]); omega)) (by (try simp only [World.size_alloc, World.size_setCell]); omega)
      have B1 : Bl w w1 := Below.trans (by go_grown) (hb.mono (by (try simp only [World.size_alloc, World.size_setCell]); omega))
      have l1 := ltb r1
      have l1_1 := ltb xq1
      have l1_2 := ltb xp1
      have l1_3 := ltb xa1
      have zz1 := B1.size
      clear hb
      rw [HG.out]
      unfold rS
      go_wp2_with fail
      refine (within5_any _ _ _ _).mono ?_
      rintro e9 w9 ⟨rfl, rfl⟩
      rw [Q1.out]
      go_wp2_with fail
      exact bodyPost_ret (v := rS (corF (u, v, 0) t)) (by simp [results, Try.results27, go_sem, HI.out, rS, r0, r1, l1]) rfl ⟨rfl, by go_grown⟩
    · have HI := Lib.hid (show corF (u, v, 0) t = (0, 0, 7) by unfold corF; rw [if_pos rfl, if_neg ht])
      have Q1 := Lib.hid (show decide (0 ≤ t ∧ t ≤ 86399999) = false from decide_eq_false ht)
      clear ht
      go_enter Try.func27, Try.ntmps27
      go_wp2_with fail
      refine (rLag_any a p q _).mono ?_
      rintro q1 w1 ⟨rfl, hb⟩
      have xa0 := kcb hb (b := w.heap.size) (o := 0) (v := .int .i64 a.s) (by first | assumption | (refine cellUp ?_; assumption) | go_cell)
      have xa1 := kcb hb (b := w.heap.size) (o := 1) (v := .int .i64 a.w) (by first | assumption | (refine cellUp ?_; assumption) | go_cell)
      have xp0 := kcb hb (b := w.heap.size + 1) (o := 0) (v := .int .i64 p.x) (by first | assumption | (refine cellUp ?_; assumption) | go_cell)
      have xp1 := kcb hb (b := w.heap.size + 1) (o := 1) (v := .int .i64 p.y) (by first | assumption | (refine cellUp ?_; assumption) | go_cell)
      have xq0 := kcb hb (b := w.heap.size + 1 + 1) (o := 0) (v := .int .i64 q.x) (by first | assumption | (refine cellUp ?_; assumption) | go_cell)
      have xq1 := kcb hb (b := w.heap.size + 1 + 1) (o := 1) (v := .int .i64 q.y) (by first | assumption | (refine cellUp ?_; assumption) | go_cell)
      have r0 := kcb hb (b := w.heap.size + 1 + 1 + 1) (o := 0) (v := .int .i64 0) (by first | assumption | (refine cellUp ?_; assumption) | go_cell)
      have r1 := kcb hb (b := w.heap.size + 1 + 1 + 1) (o := 1) (v := .int .i64 0) (by first | assumption | (refine cellUp ?_; assumption) | go_cell)
      have fr := fzb hb (b := w.heap.size + 1 + 1 + 1) (o := 0) (by (try simp only [frozen?_alloc_cells, World.frozen?_setCell]); first | assumption | exact fz_new (by (try simp only [World.size_alloc, World.size_setCell]); omega)) (by (try simp only [World.size_alloc, World.size_setCell]); omega)
      have fs := fzb hb (b := w.heap.size + 1 + 1 + 1) (o := 1) (by (try simp only [frozen?_alloc_cells, World.frozen?_setCell]); first | assumption | exact fz_new (by (try simp only [World.size_alloc, World.size_setCell]); omega)) (by (try simp only [World.size_alloc, World.size_setCell]); omega)
      have B1 : Bl w w1 := Below.trans (by go_grown) (hb.mono (by (try simp only [World.size_alloc, World.size_setCell]); omega))
      have l1 := ltb r1
      have l1_1 := ltb xq1
      have l1_2 := ltb xp1
      have l1_3 := ltb xa1
      have zz1 := B1.size
      clear hb
      rw [HG.out]
      unfold rS
      go_wp2_with fail
      refine (within5_any _ _ _ _).mono ?_
      rintro e9 w9 ⟨rfl, rfl⟩
      rw [Q1.out]
      go_wp2_with fail
      exact bodyPost_ret (v := rS (corF (u, v, 0) t)) (by simp [results, Try.results27, go_sem, HI.out, rS, r0, r1, l1]) rfl ⟨rfl, by go_grown⟩
  · have HG := Lib.hid hg
    rw [hg]
    have HI := Lib.hid (show corF (0, 0, 7) t = (0, 0, 7) from rfl)
    clear hg
    go_enter Try.func27, Try.ntmps27
    go_wp2_with fail
    refine (rLag_any a p q _).mono ?_
    rintro q1 w1 ⟨rfl, hb⟩
    have xa0 := kcb hb (b := w.heap.size) (o := 0) (v := .int .i64 a.s) (by first | assumption | (refine cellUp ?_; assumption) | go_cell)
    have xa1 := kcb hb (b := w.heap.size) (o := 1) (v := .int .i64 a.w) (by first | assumption | (refine cellUp ?_; assumption) | go_cell)
    have xp0 := kcb hb (b := w.heap.size + 1) (o := 0) (v := .int .i64 p.x) (by first | assumption | (refine cellUp ?_; assumption) | go_cell)
    have xp1 := kcb hb (b := w.heap.size + 1) (o := 1) (v := .int .i64 p.y) (by first | assumption | (refine cellUp ?_; assumption) | go_cell)
    have xq0 := kcb hb (b := w.heap.size + 1 + 1) (o := 0) (v := .int .i64 q.x) (by first | assumption | (refine cellUp ?_; assumption) | go_cell)
    have xq1 := kcb hb (b := w.heap.size + 1 + 1) (o := 1) (v := .int .i64 q.y) (by first | assumption | (refine cellUp ?_; assumption) | go_cell)
    have r0 := kcb hb (b := w.heap.size + 1 + 1 + 1) (o := 0) (v := .int .i64 0) (by first | assumption | (refine cellUp ?_; assumption) | go_cell)
    have r1 := kcb hb (b := w.heap.size + 1 + 1 + 1) (o := 1) (v := .int .i64 0) (by first | assumption | (refine cellUp ?_; assumption) | go_cell)
    have fr := fzb hb (b := w.heap.size + 1 + 1 + 1) (o := 0) (by (try simp only [frozen?_alloc_cells, World.frozen?_setCell]); first | assumption | exact fz_new (by (try simp only [World.size_alloc, World.size_setCell]); omega)) (by (try simp only [World.size_alloc, World.size_setCell]); omega)
    have fs := fzb hb (b := w.heap.size + 1 + 1 + 1) (o := 1) (by (try simp only [frozen?_alloc_cells, World.frozen?_setCell]); first | assumption | exact fz_new (by (try simp only [World.size_alloc, World.size_setCell]); omega)) (by (try simp only [World.size_alloc, World.size_setCell]); omega)
    have B1 : Bl w w1 := Below.trans (by go_grown) (hb.mono (by (try simp only [World.size_alloc, World.size_setCell]); omega))
    have l1 := ltb r1
    have l1_1 := ltb xq1
    have l1_2 := ltb xp1
    have l1_3 := ltb xa1
    have zz1 := B1.size
    clear hb
    rw [HG.out]
    unfold rS
    go_wp2_with fail
    exact bodyPost_ret (v := rS (0, 0, 7)) (by simp [results, Try.results27, go_sem, rS, r0, r1, l1]) rfl ⟨rfl, by go_grown⟩
  · have HG := Lib.hid hg
    rw [hg]
    have HI := Lib.hid (show corF (0, 0, 1) t = (0, 0, 1) from rfl)
    clear hg
    go_enter Try.func27, Try.ntmps27
    go_wp2_with fail
    refine (rLag_any a p q _).mono ?_
    rintro q1 w1 ⟨rfl, hb⟩
    have xa0 := kcb hb (b := w.heap.size) (o := 0) (v := .int .i64 a.s) (by first | assumption | (refine cellUp ?_; assumption) | go_cell)
    have xa1 := kcb hb (b := w.heap.size) (o := 1) (v := .int .i64 a.w) (by first | assumption | (refine cellUp ?_; assumption) | go_cell)
    have xp0 := kcb hb (b := w.heap.size + 1) (o := 0) (v := .int .i64 p.x) (by first | assumption | (refine cellUp ?_; assumption) | go_cell)
    have xp1 := kcb hb (b := w.heap.size + 1) (o := 1) (v := .int .i64 p.y) (by first | assumption | (refine cellUp ?_; assumption) | go_cell)
    have xq0 := kcb hb (b := w.heap.size + 1 + 1) (o := 0) (v := .int .i64 q.x) (by first | assumption | (refine cellUp ?_; assumption) | go_cell)
    have xq1 := kcb hb (b := w.heap.size + 1 + 1) (o := 1) (v := .int .i64 q.y) (by first | assumption | (refine cellUp ?_; assumption) | go_cell)
    have r0 := kcb hb (b := w.heap.size + 1 + 1 + 1) (o := 0) (v := .int .i64 0) (by first | assumption | (refine cellUp ?_; assumption) | go_cell)
    have r1 := kcb hb (b := w.heap.size + 1 + 1 + 1) (o := 1) (v := .int .i64 0) (by first | assumption | (refine cellUp ?_; assumption) | go_cell)
    have fr := fzb hb (b := w.heap.size + 1 + 1 + 1) (o := 0) (by (try simp only [frozen?_alloc_cells, World.frozen?_setCell]); first | assumption | exact fz_new (by (try simp only [World.size_alloc, World.size_setCell]); omega)) (by (try simp only [World.size_alloc, World.size_setCell]); omega)
    have fs := fzb hb (b := w.heap.size + 1 + 1 + 1) (o := 1) (by (try simp only [frozen?_alloc_cells, World.frozen?_setCell]); first | assumption | exact fz_new (by (try simp only [World.size_alloc, World.size_setCell]); omega)) (by (try simp only [World.size_alloc, World.size_setCell]); omega)
    have B1 : Bl w w1 := Below.trans (by go_grown) (hb.mono (by (try simp only [World.size_alloc, World.size_setCell]); omega))
    have l1 := ltb r1
    have l1_1 := ltb xq1
    have l1_2 := ltb xp1
    have l1_3 := ltb xa1
    have zz1 := B1.size
    clear hb
    rw [HG.out]
    unfold rS
    go_wp2_with fail
    exact bodyPost_ret (v := rS (0, 0, 1)) (by simp [results, Try.results27, go_sem, rS, r0, r1, l1]) rfl ⟨rfl, by go_grown⟩

set_option maxRecDepth 100000 in
set_option maxHeartbeats 6400000 in
theorem heard_walk (a : Air) (l : Leg) (s t : Int) (w : World) : Calls Try.prog 5 #[encA a, encG l, .agg #[.int .i64 s, .int .i64 t]] w fun e w' => e = .returned (.bool true) ∧ Bl w w' := by
  obtain ⟨⟨px, py⟩, ⟨qx, qy⟩⟩ := l
  obtain ⟨h1, h2, h3, hh⟩ : ∃ h1 h2 h3, heaF (lagR a ⟨px, py⟩ ⟨qx, qy⟩) s = (h1, h2, h3) := ⟨_, _, _, rfl⟩
  obtain ⟨c1, c2, c3, hc⟩ : ∃ c1 c2 c3, corF (lagR a ⟨px, py⟩ ⟨qx, qy⟩) t = (c1, c2, c3) := ⟨_, _, _, rfl⟩
  have HH := Lib.hid hh
  have HC := Lib.hid hc
  clear hh hc
  go_enter Try.func5, Try.ntmps5
  go_wp2_with fail
  refine (Heard_any a ⟨px, py⟩ ⟨qx, qy⟩ s _).mono ?_
  rintro q1 w1 ⟨rfl, hb⟩
  have xa0 := kcb hb (b := w.heap.size) (o := 0) (v := .int .i64 a.s) (by first | assumption | (refine cellUp ?_; assumption) | go_cell)
  have xa1 := kcb hb (b := w.heap.size) (o := 1) (v := .int .i64 a.w) (by first | assumption | (refine cellUp ?_; assumption) | go_cell)
  have xl0 := kcb hb (b := w.heap.size + 1) (o := 0) (v := .int .i64 px) (by first | assumption | (refine cellUp ?_; assumption) | go_cell)
  have xl1 := kcb hb (b := w.heap.size + 1) (o := 1) (v := .int .i64 py) (by first | assumption | (refine cellUp ?_; assumption) | go_cell)
  have xl2 := kcb hb (b := w.heap.size + 1) (o := 2) (v := .int .i64 qx) (by first | assumption | (refine cellUp ?_; assumption) | go_cell)
  have xl3 := kcb hb (b := w.heap.size + 1) (o := 3) (v := .int .i64 qy) (by first | assumption | (refine cellUp ?_; assumption) | go_cell)
  have xt0 := kcb hb (b := w.heap.size + 1 + 1) (o := 0) (v := .int .i64 s) (by first | assumption | (refine cellUp ?_; assumption) | go_cell)
  have xt1 := kcb hb (b := w.heap.size + 1 + 1) (o := 1) (v := .int .i64 t) (by first | assumption | (refine cellUp ?_; assumption) | go_cell)
  have B1 : Bl w w1 := Below.trans (by go_grown) (hb.mono (by (try simp only [World.size_alloc, World.size_setCell]); omega))
  have l1 := ltb xt1
  have l1_1 := ltb xl3
  have l1_2 := ltb xa1
  have zz1 := B1.size
  clear hb
  rw [HH.out]
  unfold rS
  go_wp2_with fail
  refine (rHeard_any a ⟨px, py⟩ ⟨qx, qy⟩ s _).mono ?_
  rintro q2 w2 ⟨rfl, hb⟩
  have xa0 := kcb hb (b := w.heap.size) (o := 0) (v := .int .i64 a.s) (by first | assumption | (refine cellUp ?_; assumption) | go_cell)
  have xa1 := kcb hb (b := w.heap.size) (o := 1) (v := .int .i64 a.w) (by first | assumption | (refine cellUp ?_; assumption) | go_cell)
  have xl0 := kcb hb (b := w.heap.size + 1) (o := 0) (v := .int .i64 px) (by first | assumption | (refine cellUp ?_; assumption) | go_cell)
  have xl1 := kcb hb (b := w.heap.size + 1) (o := 1) (v := .int .i64 py) (by first | assumption | (refine cellUp ?_; assumption) | go_cell)
  have xl2 := kcb hb (b := w.heap.size + 1) (o := 2) (v := .int .i64 qx) (by first | assumption | (refine cellUp ?_; assumption) | go_cell)
  have xl3 := kcb hb (b := w.heap.size + 1) (o := 3) (v := .int .i64 qy) (by first | assumption | (refine cellUp ?_; assumption) | go_cell)
  have xt0 := kcb hb (b := w.heap.size + 1 + 1) (o := 0) (v := .int .i64 s) (by first | assumption | (refine cellUp ?_; assumption) | go_cell)
  have xt1 := kcb hb (b := w.heap.size + 1 + 1) (o := 1) (v := .int .i64 t) (by first | assumption | (refine cellUp ?_; assumption) | go_cell)
  have s0 := kcb hb (b := w1.heap.size) (o := 0) (v := .int .i64 h1) (by first | assumption | (refine cellUp ?_; assumption) | go_cell)
  have s1 := kcb hb (b := w1.heap.size) (o := 1) (v := .int .i64 h2) (by first | assumption | (refine cellUp ?_; assumption) | go_cell)
  have B2 : Bl w w2 := Below.trans (by go_grown) (hb.mono (by (try simp only [World.size_alloc, World.size_setCell]); omega))
  have l2 := ltb s1
  have l2_1 := ltb xt1
  have l2_2 := ltb xl3
  have l2_3 := ltb xa1
  have zz2 := B2.size
  clear hb
  rw [HH.out]
  unfold rS
  go_wp2_with fail
  refine (Corrected_any a ⟨px, py⟩ ⟨qx, qy⟩ t _).mono ?_
  rintro q3 w3 ⟨rfl, hb⟩
  have xa0 := kcb hb (b := w.heap.size) (o := 0) (v := .int .i64 a.s) (by first | assumption | (refine cellUp ?_; assumption) | go_cell)
  have xa1 := kcb hb (b := w.heap.size) (o := 1) (v := .int .i64 a.w) (by first | assumption | (refine cellUp ?_; assumption) | go_cell)
  have xl0 := kcb hb (b := w.heap.size + 1) (o := 0) (v := .int .i64 px) (by first | assumption | (refine cellUp ?_; assumption) | go_cell)
  have xl1 := kcb hb (b := w.heap.size + 1) (o := 1) (v := .int .i64 py) (by first | assumption | (refine cellUp ?_; assumption) | go_cell)
  have xl2 := kcb hb (b := w.heap.size + 1) (o := 2) (v := .int .i64 qx) (by first | assumption | (refine cellUp ?_; assumption) | go_cell)
  have xl3 := kcb hb (b := w.heap.size + 1) (o := 3) (v := .int .i64 qy) (by first | assumption | (refine cellUp ?_; assumption) | go_cell)
  have xt0 := kcb hb (b := w.heap.size + 1 + 1) (o := 0) (v := .int .i64 s) (by first | assumption | (refine cellUp ?_; assumption) | go_cell)
  have xt1 := kcb hb (b := w.heap.size + 1 + 1) (o := 1) (v := .int .i64 t) (by first | assumption | (refine cellUp ?_; assumption) | go_cell)
  have s0 := kcb hb (b := w1.heap.size) (o := 0) (v := .int .i64 h1) (by first | assumption | (refine cellUp ?_; assumption) | go_cell)
  have s1 := kcb hb (b := w1.heap.size) (o := 1) (v := .int .i64 h2) (by first | assumption | (refine cellUp ?_; assumption) | go_cell)
  have t0 := kcb hb (b := w2.heap.size) (o := 0) (v := .int .i64 h1) (by first | assumption | (refine cellUp ?_; assumption) | go_cell)
  have t1 := kcb hb (b := w2.heap.size) (o := 1) (v := .int .i64 h2) (by first | assumption | (refine cellUp ?_; assumption) | go_cell)
  have B3 : Bl w w3 := Below.trans (by go_grown) (hb.mono (by (try simp only [World.size_alloc, World.size_setCell]); omega))
  have l3 := ltb t1
  have l3_1 := ltb s1
  have l3_2 := ltb xt1
  have l3_3 := ltb xl3
  have l3_4 := ltb xa1
  have zz3 := B3.size
  clear hb
  rw [HC.out]
  unfold rS
  go_wp2_with fail
  refine (rCorrected_any a ⟨px, py⟩ ⟨qx, qy⟩ t _).mono ?_
  rintro q4 w4 ⟨rfl, hb⟩
  have xa0 := kcb hb (b := w.heap.size) (o := 0) (v := .int .i64 a.s) (by first | assumption | (refine cellUp ?_; assumption) | go_cell)
  have xa1 := kcb hb (b := w.heap.size) (o := 1) (v := .int .i64 a.w) (by first | assumption | (refine cellUp ?_; assumption) | go_cell)
  have xl0 := kcb hb (b := w.heap.size + 1) (o := 0) (v := .int .i64 px) (by first | assumption | (refine cellUp ?_; assumption) | go_cell)
  have xl1 := kcb hb (b := w.heap.size + 1) (o := 1) (v := .int .i64 py) (by first | assumption | (refine cellUp ?_; assumption) | go_cell)
  have xl2 := kcb hb (b := w.heap.size + 1) (o := 2) (v := .int .i64 qx) (by first | assumption | (refine cellUp ?_; assumption) | go_cell)
  have xl3 := kcb hb (b := w.heap.size + 1) (o := 3) (v := .int .i64 qy) (by first | assumption | (refine cellUp ?_; assumption) | go_cell)
  have xt0 := kcb hb (b := w.heap.size + 1 + 1) (o := 0) (v := .int .i64 s) (by first | assumption | (refine cellUp ?_; assumption) | go_cell)
  have xt1 := kcb hb (b := w.heap.size + 1 + 1) (o := 1) (v := .int .i64 t) (by first | assumption | (refine cellUp ?_; assumption) | go_cell)
  have s0 := kcb hb (b := w1.heap.size) (o := 0) (v := .int .i64 h1) (by first | assumption | (refine cellUp ?_; assumption) | go_cell)
  have s1 := kcb hb (b := w1.heap.size) (o := 1) (v := .int .i64 h2) (by first | assumption | (refine cellUp ?_; assumption) | go_cell)
  have t0 := kcb hb (b := w2.heap.size) (o := 0) (v := .int .i64 h1) (by first | assumption | (refine cellUp ?_; assumption) | go_cell)
  have t1 := kcb hb (b := w2.heap.size) (o := 1) (v := .int .i64 h2) (by first | assumption | (refine cellUp ?_; assumption) | go_cell)
  have u0 := kcb hb (b := w3.heap.size) (o := 0) (v := .int .i64 c1) (by first | assumption | (refine cellUp ?_; assumption) | go_cell)
  have u1 := kcb hb (b := w3.heap.size) (o := 1) (v := .int .i64 c2) (by first | assumption | (refine cellUp ?_; assumption) | go_cell)
  have B4 : Bl w w4 := Below.trans (by go_grown) (hb.mono (by (try simp only [World.size_alloc, World.size_setCell]); omega))
  have l4 := ltb u1
  have l4_1 := ltb t1
  have l4_2 := ltb s1
  have l4_3 := ltb xt1
  have l4_4 := ltb xl3
  have l4_5 := ltb xa1
  have zz4 := B4.size
  clear hb
  rw [HC.out]
  unfold rS
  by_cases g1 : h3 = 0
  · by_cases g2 : c3 = 0
    · subst g1 g2
      by_cases g3 : t < h1
      · skip
        go_wp2_with fail
        refine (awakeG_any _).mono ?_
        rintro q5 w5 ⟨rfl, hb⟩
        have xa0 := kcb hb (b := w.heap.size) (o := 0) (v := .int .i64 a.s) (by first | assumption | (refine cellUp ?_; assumption) | go_cell)
        have xa1 := kcb hb (b := w.heap.size) (o := 1) (v := .int .i64 a.w) (by first | assumption | (refine cellUp ?_; assumption) | go_cell)
        have xl0 := kcb hb (b := w.heap.size + 1) (o := 0) (v := .int .i64 px) (by first | assumption | (refine cellUp ?_; assumption) | go_cell)
        have xl1 := kcb hb (b := w.heap.size + 1) (o := 1) (v := .int .i64 py) (by first | assumption | (refine cellUp ?_; assumption) | go_cell)
        have xl2 := kcb hb (b := w.heap.size + 1) (o := 2) (v := .int .i64 qx) (by first | assumption | (refine cellUp ?_; assumption) | go_cell)
        have xl3 := kcb hb (b := w.heap.size + 1) (o := 3) (v := .int .i64 qy) (by first | assumption | (refine cellUp ?_; assumption) | go_cell)
        have xt0 := kcb hb (b := w.heap.size + 1 + 1) (o := 0) (v := .int .i64 s) (by first | assumption | (refine cellUp ?_; assumption) | go_cell)
        have xt1 := kcb hb (b := w.heap.size + 1 + 1) (o := 1) (v := .int .i64 t) (by first | assumption | (refine cellUp ?_; assumption) | go_cell)
        have s0 := kcb hb (b := w1.heap.size) (o := 0) (v := .int .i64 h1) (by first | assumption | (refine cellUp ?_; assumption) | go_cell)
        have s1 := kcb hb (b := w1.heap.size) (o := 1) (v := .int .i64 h2) (by first | assumption | (refine cellUp ?_; assumption) | go_cell)
        have t0 := kcb hb (b := w2.heap.size) (o := 0) (v := .int .i64 h1) (by first | assumption | (refine cellUp ?_; assumption) | go_cell)
        have t1 := kcb hb (b := w2.heap.size) (o := 1) (v := .int .i64 h2) (by first | assumption | (refine cellUp ?_; assumption) | go_cell)
        have u0 := kcb hb (b := w3.heap.size) (o := 0) (v := .int .i64 c1) (by first | assumption | (refine cellUp ?_; assumption) | go_cell)
        have u1 := kcb hb (b := w3.heap.size) (o := 1) (v := .int .i64 c2) (by first | assumption | (refine cellUp ?_; assumption) | go_cell)
        have B5 : Bl w w5 := Below.trans (by go_grown) (hb.mono (by (try simp only [World.size_alloc, World.size_setCell]); omega))
        have l5 := ltb u1
        have l5_1 := ltb t1
        have l5_2 := ltb s1
        have l5_3 := ltb xt1
        have l5_4 := ltb xl3
        have l5_5 := ltb xa1
        have zz5 := B5.size
        clear hb
        go_wp2_with fail
        go_ret
        exact ⟨rfl, by go_grown⟩
      · by_cases g4 : h2 < t
        · skip
          go_wp2_with fail
          refine (awakeG_any _).mono ?_
          rintro q5 w5 ⟨rfl, hb⟩
          have xa0 := kcb hb (b := w.heap.size) (o := 0) (v := .int .i64 a.s) (by first | assumption | (refine cellUp ?_; assumption) | go_cell)
          have xa1 := kcb hb (b := w.heap.size) (o := 1) (v := .int .i64 a.w) (by first | assumption | (refine cellUp ?_; assumption) | go_cell)
          have xl0 := kcb hb (b := w.heap.size + 1) (o := 0) (v := .int .i64 px) (by first | assumption | (refine cellUp ?_; assumption) | go_cell)
          have xl1 := kcb hb (b := w.heap.size + 1) (o := 1) (v := .int .i64 py) (by first | assumption | (refine cellUp ?_; assumption) | go_cell)
          have xl2 := kcb hb (b := w.heap.size + 1) (o := 2) (v := .int .i64 qx) (by first | assumption | (refine cellUp ?_; assumption) | go_cell)
          have xl3 := kcb hb (b := w.heap.size + 1) (o := 3) (v := .int .i64 qy) (by first | assumption | (refine cellUp ?_; assumption) | go_cell)
          have xt0 := kcb hb (b := w.heap.size + 1 + 1) (o := 0) (v := .int .i64 s) (by first | assumption | (refine cellUp ?_; assumption) | go_cell)
          have xt1 := kcb hb (b := w.heap.size + 1 + 1) (o := 1) (v := .int .i64 t) (by first | assumption | (refine cellUp ?_; assumption) | go_cell)
          have s0 := kcb hb (b := w1.heap.size) (o := 0) (v := .int .i64 h1) (by first | assumption | (refine cellUp ?_; assumption) | go_cell)
          have s1 := kcb hb (b := w1.heap.size) (o := 1) (v := .int .i64 h2) (by first | assumption | (refine cellUp ?_; assumption) | go_cell)
          have t0 := kcb hb (b := w2.heap.size) (o := 0) (v := .int .i64 h1) (by first | assumption | (refine cellUp ?_; assumption) | go_cell)
          have t1 := kcb hb (b := w2.heap.size) (o := 1) (v := .int .i64 h2) (by first | assumption | (refine cellUp ?_; assumption) | go_cell)
          have u0 := kcb hb (b := w3.heap.size) (o := 0) (v := .int .i64 c1) (by first | assumption | (refine cellUp ?_; assumption) | go_cell)
          have u1 := kcb hb (b := w3.heap.size) (o := 1) (v := .int .i64 c2) (by first | assumption | (refine cellUp ?_; assumption) | go_cell)
          have B5 : Bl w w5 := Below.trans (by go_grown) (hb.mono (by (try simp only [World.size_alloc, World.size_setCell]); omega))
          have l5 := ltb u1
          have l5_1 := ltb t1
          have l5_2 := ltb s1
          have l5_3 := ltb xt1
          have l5_4 := ltb xl3
          have l5_5 := ltb xa1
          have zz5 := B5.size
          clear hb
          go_wp2_with fail
          go_ret
          exact ⟨rfl, by go_grown⟩
        · obtain ⟨k1, k2⟩ := back_law HH.out HC.out (by omega) (by omega)
          go_wp2_with fail
          refine (awakeG_any _).mono ?_
          rintro q5 w5 ⟨rfl, hb⟩
          have xa0 := kcb hb (b := w.heap.size) (o := 0) (v := .int .i64 a.s) (by first | assumption | (refine cellUp ?_; assumption) | go_cell)
          have xa1 := kcb hb (b := w.heap.size) (o := 1) (v := .int .i64 a.w) (by first | assumption | (refine cellUp ?_; assumption) | go_cell)
          have xl0 := kcb hb (b := w.heap.size + 1) (o := 0) (v := .int .i64 px) (by first | assumption | (refine cellUp ?_; assumption) | go_cell)
          have xl1 := kcb hb (b := w.heap.size + 1) (o := 1) (v := .int .i64 py) (by first | assumption | (refine cellUp ?_; assumption) | go_cell)
          have xl2 := kcb hb (b := w.heap.size + 1) (o := 2) (v := .int .i64 qx) (by first | assumption | (refine cellUp ?_; assumption) | go_cell)
          have xl3 := kcb hb (b := w.heap.size + 1) (o := 3) (v := .int .i64 qy) (by first | assumption | (refine cellUp ?_; assumption) | go_cell)
          have xt0 := kcb hb (b := w.heap.size + 1 + 1) (o := 0) (v := .int .i64 s) (by first | assumption | (refine cellUp ?_; assumption) | go_cell)
          have xt1 := kcb hb (b := w.heap.size + 1 + 1) (o := 1) (v := .int .i64 t) (by first | assumption | (refine cellUp ?_; assumption) | go_cell)
          have s0 := kcb hb (b := w1.heap.size) (o := 0) (v := .int .i64 h1) (by first | assumption | (refine cellUp ?_; assumption) | go_cell)
          have s1 := kcb hb (b := w1.heap.size) (o := 1) (v := .int .i64 h2) (by first | assumption | (refine cellUp ?_; assumption) | go_cell)
          have t0 := kcb hb (b := w2.heap.size) (o := 0) (v := .int .i64 h1) (by first | assumption | (refine cellUp ?_; assumption) | go_cell)
          have t1 := kcb hb (b := w2.heap.size) (o := 1) (v := .int .i64 h2) (by first | assumption | (refine cellUp ?_; assumption) | go_cell)
          have u0 := kcb hb (b := w3.heap.size) (o := 0) (v := .int .i64 c1) (by first | assumption | (refine cellUp ?_; assumption) | go_cell)
          have u1 := kcb hb (b := w3.heap.size) (o := 1) (v := .int .i64 c2) (by first | assumption | (refine cellUp ?_; assumption) | go_cell)
          have B5 : Bl w w5 := Below.trans (by go_grown) (hb.mono (by (try simp only [World.size_alloc, World.size_setCell]); omega))
          have l5 := ltb u1
          have l5_1 := ltb t1
          have l5_2 := ltb s1
          have l5_3 := ltb xt1
          have l5_4 := ltb xl3
          have l5_5 := ltb xa1
          have zz5 := B5.size
          clear hb
          go_wp2_with fail
          go_ret
          exact ⟨rfl, by go_grown⟩
    · have g2' : (c3 != 0) = true := by simpa using g2
      subst g1
      go_wp2_with fail
      refine (awakeG_any _).mono ?_
      rintro q5 w5 ⟨rfl, hb⟩
      have xa0 := kcb hb (b := w.heap.size) (o := 0) (v := .int .i64 a.s) (by first | assumption | (refine cellUp ?_; assumption) | go_cell)
      have xa1 := kcb hb (b := w.heap.size) (o := 1) (v := .int .i64 a.w) (by first | assumption | (refine cellUp ?_; assumption) | go_cell)
      have xl0 := kcb hb (b := w.heap.size + 1) (o := 0) (v := .int .i64 px) (by first | assumption | (refine cellUp ?_; assumption) | go_cell)
      have xl1 := kcb hb (b := w.heap.size + 1) (o := 1) (v := .int .i64 py) (by first | assumption | (refine cellUp ?_; assumption) | go_cell)
      have xl2 := kcb hb (b := w.heap.size + 1) (o := 2) (v := .int .i64 qx) (by first | assumption | (refine cellUp ?_; assumption) | go_cell)
      have xl3 := kcb hb (b := w.heap.size + 1) (o := 3) (v := .int .i64 qy) (by first | assumption | (refine cellUp ?_; assumption) | go_cell)
      have xt0 := kcb hb (b := w.heap.size + 1 + 1) (o := 0) (v := .int .i64 s) (by first | assumption | (refine cellUp ?_; assumption) | go_cell)
      have xt1 := kcb hb (b := w.heap.size + 1 + 1) (o := 1) (v := .int .i64 t) (by first | assumption | (refine cellUp ?_; assumption) | go_cell)
      have s0 := kcb hb (b := w1.heap.size) (o := 0) (v := .int .i64 h1) (by first | assumption | (refine cellUp ?_; assumption) | go_cell)
      have s1 := kcb hb (b := w1.heap.size) (o := 1) (v := .int .i64 h2) (by first | assumption | (refine cellUp ?_; assumption) | go_cell)
      have t0 := kcb hb (b := w2.heap.size) (o := 0) (v := .int .i64 h1) (by first | assumption | (refine cellUp ?_; assumption) | go_cell)
      have t1 := kcb hb (b := w2.heap.size) (o := 1) (v := .int .i64 h2) (by first | assumption | (refine cellUp ?_; assumption) | go_cell)
      have u0 := kcb hb (b := w3.heap.size) (o := 0) (v := .int .i64 c1) (by first | assumption | (refine cellUp ?_; assumption) | go_cell)
      have u1 := kcb hb (b := w3.heap.size) (o := 1) (v := .int .i64 c2) (by first | assumption | (refine cellUp ?_; assumption) | go_cell)
      have B5 : Bl w w5 := Below.trans (by go_grown) (hb.mono (by (try simp only [World.size_alloc, World.size_setCell]); omega))
      have l5 := ltb u1
      have l5_1 := ltb t1
      have l5_2 := ltb s1
      have l5_3 := ltb xt1
      have l5_4 := ltb xl3
      have l5_5 := ltb xa1
      have zz5 := B5.size
      clear hb
      go_wp2_with fail
      go_ret
      exact ⟨rfl, by go_grown⟩
  · have g1' : (h3 != 0) = true := by simpa using g1
    go_wp2_with fail
    refine (awakeG_any _).mono ?_
    rintro q5 w5 ⟨rfl, hb⟩
    have xa0 := kcb hb (b := w.heap.size) (o := 0) (v := .int .i64 a.s) (by first | assumption | (refine cellUp ?_; assumption) | go_cell)
    have xa1 := kcb hb (b := w.heap.size) (o := 1) (v := .int .i64 a.w) (by first | assumption | (refine cellUp ?_; assumption) | go_cell)
    have xl0 := kcb hb (b := w.heap.size + 1) (o := 0) (v := .int .i64 px) (by first | assumption | (refine cellUp ?_; assumption) | go_cell)
    have xl1 := kcb hb (b := w.heap.size + 1) (o := 1) (v := .int .i64 py) (by first | assumption | (refine cellUp ?_; assumption) | go_cell)
    have xl2 := kcb hb (b := w.heap.size + 1) (o := 2) (v := .int .i64 qx) (by first | assumption | (refine cellUp ?_; assumption) | go_cell)
    have xl3 := kcb hb (b := w.heap.size + 1) (o := 3) (v := .int .i64 qy) (by first | assumption | (refine cellUp ?_; assumption) | go_cell)
    have xt0 := kcb hb (b := w.heap.size + 1 + 1) (o := 0) (v := .int .i64 s) (by first | assumption | (refine cellUp ?_; assumption) | go_cell)
    have xt1 := kcb hb (b := w.heap.size + 1 + 1) (o := 1) (v := .int .i64 t) (by first | assumption | (refine cellUp ?_; assumption) | go_cell)
    have s0 := kcb hb (b := w1.heap.size) (o := 0) (v := .int .i64 h1) (by first | assumption | (refine cellUp ?_; assumption) | go_cell)
    have s1 := kcb hb (b := w1.heap.size) (o := 1) (v := .int .i64 h2) (by first | assumption | (refine cellUp ?_; assumption) | go_cell)
    have t0 := kcb hb (b := w2.heap.size) (o := 0) (v := .int .i64 h1) (by first | assumption | (refine cellUp ?_; assumption) | go_cell)
    have t1 := kcb hb (b := w2.heap.size) (o := 1) (v := .int .i64 h2) (by first | assumption | (refine cellUp ?_; assumption) | go_cell)
    have u0 := kcb hb (b := w3.heap.size) (o := 0) (v := .int .i64 c1) (by first | assumption | (refine cellUp ?_; assumption) | go_cell)
    have u1 := kcb hb (b := w3.heap.size) (o := 1) (v := .int .i64 c2) (by first | assumption | (refine cellUp ?_; assumption) | go_cell)
    have B5 : Bl w w5 := Below.trans (by go_grown) (hb.mono (by (try simp only [World.size_alloc, World.size_setCell]); omega))
    have l5 := ltb u1
    have l5_1 := ltb t1
    have l5_2 := ltb s1
    have l5_3 := ltb xt1
    have l5_4 := ltb xl3
    have l5_5 := ltb xa1
    have zz5 := B5.size
    clear hb
    go_wp2_with fail
    go_ret
    exact ⟨rfl, by go_grown⟩
end Go.Proofs.Ytangijdonkkglaa
