/-
  Contracts of package gun and of its reference: lags.
-/
import Derived.Test.YthemoomfbbccjaaGD
import Derived.Deep.RegionHeld3
import Derived.Deep.RegionWith
import Derived.IntWalk
namespace Go.Proofs.Ythemoomfbbccjaa
open Go.RowKit
set_option linter.unusedSimpArgs false
set_option linter.unusedVariables false

abbrev Sv (w : World) (b : Nat) (x y : Value) (a : World) : Prop := Bl w a ∧ a.cell? ⟨b, 0, none⟩ = some x ∧ a.cell? ⟨b, 1, none⟩ = some y ∧ b < a.heap.size
theorem Sv.t {w a a' : World} {b : Nat} {x y : Value} (h : Sv w b x y a) (hb : Bl a a') : Sv w b x y a' := by
  obtain ⟨h1, h2, h3, h4⟩ := h
  exact ⟨h1.tr hb, kcb hb h2, kcb hb h3, Nat.lt_of_lt_of_le h4 hb.size⟩
theorem Sv.set {w a : World} {b c o : Nat} {x y v : Value} (h : Sv w b x y a) (hc : c ≠ b) (hw : w.heap.size ≤ c) : Sv w b x y (a.setCell ⟨c, o, none⟩ v) := by
  obtain ⟨h1, h2, h3, h4⟩ := h
  have oth : ∀ i, (a.setCell ⟨c, o, none⟩ v).cell? ⟨b, i, none⟩ = a.cell? ⟨b, i, none⟩ := fun i => World.cell?_setCell_other _ _ _ _ (by intro e; injection e with e; first | exact hc e | exact hc e.symm)
  exact ⟨by go_grown, (oth 0).trans h2, (oth 1).trans h3, by simpa using h4⟩

set_option maxRecDepth 100000 in
set_option maxHeartbeats 1600000 in
theorem lagOver_any (a : Air) (lo hi : Int) (w : World) (ha : VA a) (l0 : 0 ≤ lo) (l1 : lo ≤ 1000000000) (h0 : 0 ≤ hi) (h1 : hi ≤ 1000000000) :
    Calls Try.prog 51 #[encA a, .int .i64 lo, .int .i64 hi] w fun e w' => e = .returned (.agg #[.int .i64 (lagO a lo hi).1, .int .i64 (lagO a lo hi).2]) ∧ Bl w w' := by
  obtain ⟨⟨a1, a2⟩, a3, a4⟩ := ha
  obtain ⟨x, hx⟩ : ∃ x, x = lo * 1000 / (a.s + a.w) := ⟨_, rfl⟩
  obtain ⟨y, hy⟩ : ∃ y, y = -((-(hi * 1000)) / (a.s - a.w)) := ⟨_, rfl⟩
  have hl : lagO a lo hi = (x, y) := by rw [hx, hy]; rfl
  rw [hl]
  have HX := Lib.hid hx
  have HY := Lib.hid hy
  clear hx hy hl
  have CD : Hid (∀ w, Calls Try.prog 37 #[.int .i64 (lo * 1000), .int .i64 (a.s + a.w)] w fun e w' => e = .returned (.int .i64 x) ∧ w = w') := fun w => by
    rw [HX.out]; exact downG_any _ _ w (by omega) (by omega) (by omega) (by omega)
  have CU : Hid (∀ w, Calls Try.prog 60 #[.int .i64 (hi * 1000), .int .i64 (a.s - a.w)] w fun e w' => e = .returned (.int .i64 y) ∧ w = w') := fun w => by
    rw [HY.out]; exact upG_any _ _ w (by omega) (by omega) (by omega) (by omega)
  have e1 : IntKind.i64.wrap (lo * 1000) = lo * 1000 := IntWalk.i64_in _ (by omega)
  have e2 : IntKind.i64.wrap (hi * 1000) = hi * 1000 := IntWalk.i64_in _ (by omega)
  have e3 : IntKind.i64.wrap (a.s + a.w) = a.s + a.w := IntWalk.i64_in _ (by omega)
  have e4 : IntKind.i64.wrap (a.s - a.w) = a.s - a.w := IntWalk.i64_in _ (by omega)
  go_enter Try.func51, Try.ntmps51
  go_wp2_with fail
  obtain ⟨X, hX⟩ : ∃ X, X = ((w.alloc (Obj.cells #[.int .i64 a.s, .int .i64 a.w] 23)).alloc (Obj.cells #[.int .i64 0, .int .i64 0] 42)) := ⟨_, rfl⟩
  have BX : Bl w X := by rw [hX]; go_grown
  have S0 : Sv w w.heap.size (.int .i64 a.s) (.int .i64 a.w) X := ⟨BX, by rw [hX]; go_cell, by rw [hX]; go_cell, by rw [hX]; simp; omega⟩
  have R0 : Bx2 X (w.heap.size + 1) (.int .i64 0) (.int .i64 0) := ⟨by rw [hX]; go_cell, by rw [hX]; go_cell, by rw [hX]; simp, by rw [hX]; simp, by rw [hX]; simp⟩
  (try rw [← hX])
  clear hX
  obtain ⟨r0, r1, rf, rg, rl⟩ := R0
  have P0 : (X.setCell ⟨w.heap.size + 1, 0, none⟩ (.int .i64 x)).cell? ⟨w.heap.size + 1, 0, none⟩ = some (.int .i64 x) := by go_cell
  have P1 : ((X.setCell ⟨w.heap.size + 1, 0, none⟩ (.int .i64 x)).setCell ⟨w.heap.size + 1, 1, none⟩ (.int .i64 y)).cell? ⟨w.heap.size + 1, 1, none⟩ = some (.int .i64 y) := by go_cell
  go_region_held3 (fun w' => Bl w w' ∧ w'.cell? ⟨w.heap.size, 0, none⟩ = some (.int .i64 a.s) ∧ w'.cell? ⟨w.heap.size, 1, none⟩ = some (.int .i64 a.w) ∧ w.heap.size < w'.heap.size) (first | exact Sv.t S0 (Bl.dr _ 1) | exact Sv.t (Sv.set (Sv.set S0 (by omega) (by omega)) (by omega) (by omega)) (Bl.dr _ 1)) (first | (go_at_call 37; refine (CD.out _).mono ?_; rintro e v1 ⟨rfl, rfl⟩) | (go_at_call 60; refine (CU.out _).mono ?_; rintro e v2 ⟨rfl, rfl⟩))
  all_goals
    go_wp2_with fail
    rename_i hHeld
    exact bodyPost_ret (v := .agg #[.int .i64 x, .int .i64 y]) (by simp [results, Try.results51, go_sem, P0, P1]) rfl ⟨rfl, hHeld.1⟩

set_option maxRecDepth 100000 in
set_option maxHeartbeats 1600000 in
theorem took_any (a : Air) (lo hi : Int) (w : World) (ha : VA a) (l0 : 0 ≤ lo) (l1 : lo ≤ 1000000000) (h0 : 0 ≤ hi) (h1 : hi ≤ 1000000000) :
    Calls Try.prog 48 #[encA a, .int .i64 lo, .int .i64 hi] w fun e w' => e = .returned (.agg #[.int .i64 (lagO a lo hi).1, .int .i64 (lagO a lo hi).2]) ∧ Bl w w' := by
  obtain ⟨⟨a1, a2⟩, a3, a4⟩ := ha
  obtain ⟨x, hx⟩ : ∃ x, x = lo * 1000 / (a.s + a.w) := ⟨_, rfl⟩
  obtain ⟨y, hy⟩ : ∃ y, y = -((-(hi * 1000)) / (a.s - a.w)) := ⟨_, rfl⟩
  have hl : lagO a lo hi = (x, y) := by rw [hx, hy]; rfl
  rw [hl]
  obtain ⟨f, hf⟩ : ∃ f, a.s + a.w = f := ⟨_, rfl⟩
  obtain ⟨g, hg⟩ : ∃ g, a.s - a.w = g := ⟨_, rfl⟩
  have f0 : 300000 ≤ f := by omega
  have f1 : f ≤ 450000 := by omega
  have g0 : 250000 ≤ g := by omega
  have g1 : g ≤ 400000 := by omega
  rw [hf] at hx
  rw [hg] at hy
  have q1 : (lo * 1000).tdiv f = x := by rw [hx]; exact Int.tdiv_eq_ediv_of_nonneg (by omega)
  have q2 : (hi * 1000 + g - 1).tdiv g = y := by rw [hy, ← up_eq _ _ (show 0 < g by omega)]; exact Int.tdiv_eq_ediv_of_nonneg (by omega)
  have xb : 0 ≤ x ∧ x ≤ 4000000000000000000 := by
    have := eq_bd (n := lo * 1000) (d := f) (B := 1000000000000) (by omega) (by omega) (by omega) (by omega)
    have := div_nonneg' (n := lo * 1000) (d := f) (by omega) (by omega)
    omega
  have yb : -4000000000000000000 ≤ y ∧ y ≤ 4000000000000000000 := by
    have := eq_bd (n := -(hi * 1000)) (d := g) (B := 1000000000000) (by omega) (by omega) (by omega) (by omega)
    omega
  obtain ⟨xb1, xb2⟩ := xb
  obtain ⟨yb1, yb2⟩ := yb
  clear hx hy hl
  have e1 : IntKind.i64.wrap (lo * 1000) = lo * 1000 := IntWalk.i64_in _ (by omega)
  have e2 : IntKind.i64.wrap (hi * 1000) = hi * 1000 := IntWalk.i64_in _ (by omega)
  have e3 : IntKind.i64.wrap (a.s + a.w) = f := by rw [hf]; exact IntWalk.i64_in _ (by omega)
  have e4 : IntKind.i64.wrap (a.s - a.w) = g := by rw [hg]; exact IntWalk.i64_in _ (by omega)
  have e5 : IntKind.i64.wrap (hi * 1000 + g) = hi * 1000 + g := IntWalk.i64_in _ (by omega)
  have e6 : IntKind.i64.wrap (hi * 1000 + g - 1) = hi * 1000 + g - 1 := IntWalk.i64_in _ (by omega)
  have e7 : IntKind.i64.wrap x = x := IntWalk.i64_in _ (by omega)
  have e8 : IntKind.i64.wrap y = y := IntWalk.i64_in _ (by omega)
  have e9 : (f == 0) = false := by simp; omega
  have e10 : (g == 0) = false := by simp; omega
  have e11 : f ≠ 0 := by omega
  have e12 : g ≠ 0 := by omega
  have q3 : (lo * 1000) / f = x := by rw [← Int.tdiv_eq_ediv_of_nonneg (by omega)]; exact q1
  have q4 : IntKind.i64.wrap ((lo * 1000).tdiv f) = x := by rw [q1]; exact e7
  have q5 : IntKind.i64.wrap ((hi * 1000 + g - 1).tdiv g) = y := by rw [q2]; exact e8
  clear hf hg
  go_enter Try.func48, Try.ntmps48
  go_wp2_with fail
  obtain ⟨X, hX⟩ : ∃ X, X = ((w.alloc (Obj.cells #[.int .i64 a.s, .int .i64 a.w] 23)).alloc (Obj.cells #[.int .i64 0, .int .i64 0] 42)) := ⟨_, rfl⟩
  have BX : Bl w X := by rw [hX]; go_grown
  have S0 : Sv w w.heap.size (.int .i64 a.s) (.int .i64 a.w) X := ⟨BX, by rw [hX]; go_cell, by rw [hX]; go_cell, by rw [hX]; simp; omega⟩
  have R0 : Bx2 X (w.heap.size + 1) (.int .i64 0) (.int .i64 0) := ⟨by rw [hX]; go_cell, by rw [hX]; go_cell, by rw [hX]; simp, by rw [hX]; simp, by rw [hX]; simp⟩
  (try rw [← hX])
  clear hX
  obtain ⟨r0, r1, rf, rg, rl⟩ := R0
  have P0 : (X.setCell ⟨w.heap.size + 1, 0, none⟩ (.int .i64 x)).cell? ⟨w.heap.size + 1, 0, none⟩ = some (.int .i64 x) := by go_cell
  have P1 : ((X.setCell ⟨w.heap.size + 1, 0, none⟩ (.int .i64 x)).setCell ⟨w.heap.size + 1, 1, none⟩ (.int .i64 y)).cell? ⟨w.heap.size + 1, 1, none⟩ = some (.int .i64 y) := by go_cell
  go_region_held3 (fun w' => Bl w w' ∧ w'.cell? ⟨w.heap.size, 0, none⟩ = some (.int .i64 a.s) ∧ w'.cell? ⟨w.heap.size, 1, none⟩ = some (.int .i64 a.w) ∧ w.heap.size < w'.heap.size) (first | exact Sv.t S0 (Bl.dr _ 1) | exact Sv.t (Sv.set (Sv.set S0 (by omega) (by omega)) (by omega) (by omega)) (Bl.dr _ 1)) (first | fail)
  all_goals
    go_wp2_with fail
    rename_i hHeld
    exact bodyPost_ret (v := .agg #[.int .i64 x, .int .i64 y]) (by simp [results, Try.results48, go_sem, P0, P1]) rfl ⟨rfl, hHeld.1⟩
end Go.Proofs.Ythemoomfbbccjaa
