/-
  Contracts of package gun: Excluded.
-/
import Derived.Test.YthemoomfbbccjaaGZ
import Derived.Test.YthemoomfbbccjaaGU
namespace Go.Proofs.Ythemoomfbbccjaa
open Go.RowKit
set_option linter.unusedSimpArgs false
set_option linter.unusedVariables false

abbrev encX (lo hi : Pt) : Value := .agg #[.int .i64 lo.x, .int .i64 lo.y, .int .i64 hi.x, .int .i64 hi.y]
def RZ (b : Nat) (X : World) : Prop := Bx2 X b (.int .i64 0) (.int .i64 0)
theorem RZ.t {b : Nat} {X X' : World} (h : RZ b X) (hb : Bl X X') : RZ b X' := kept2 hb h
set_option maxRecDepth 100000 in
set_option maxHeartbeats 1600000 in
theorem nearest_any (lo hi g : Pt) (w : World) :
    Calls Try.prog 45 #[encX lo hi, encP g] w fun e w' => e = .returned (encP (nearP g lo hi)) ∧ Bl w w' := by
  go_enter Try.func45, Try.ntmps45
  go_wp2_with fail
  all_goals exact bodyPost_ret (v := encP (nearP g lo hi)) (by simp [results, Try.results45, go_sem, nearP, clampF] <;> omega) rfl ⟨rfl, by go_grown⟩

abbrev S6 (w : World) (b0 b1 : Nat) (lo hi g : Pt) (X : World) : Prop :=
  Bl w X ∧ X.cell? ⟨b0, 0, none⟩ = some (.int .i64 lo.x) ∧ X.cell? ⟨b0, 1, none⟩ = some (.int .i64 lo.y) ∧ X.cell? ⟨b0, 2, none⟩ = some (.int .i64 hi.x) ∧ X.cell? ⟨b0, 3, none⟩ = some (.int .i64 hi.y) ∧ X.cell? ⟨b1, 0, none⟩ = some (.int .i64 g.x) ∧ X.cell? ⟨b1, 1, none⟩ = some (.int .i64 g.y) ∧ b0 < X.heap.size ∧ b1 < X.heap.size
theorem S6.t {w X X' : World} {b0 b1 : Nat} {lo hi g : Pt} (h : S6 w b0 b1 lo hi g X) (hb : Bl X X') : S6 w b0 b1 lo hi g X' := by
  obtain ⟨h0, h1, h2, h3, h4, h5, h6, h7, h8⟩ := h
  exact ⟨h0.tr hb, kcb hb h1, kcb hb h2, kcb hb h3, kcb hb h4, kcb hb h5, kcb hb h6, Nat.lt_of_lt_of_le h7 hb.size, Nat.lt_of_lt_of_le h8 hb.size⟩
theorem oth_cell {X : World} {b c o i : Nat} {v : Value} (hc : c ≠ b) : (X.setCell ⟨c, o, none⟩ v).cell? ⟨b, i, none⟩ = X.cell? ⟨b, i, none⟩ :=
  World.cell?_setCell_other _ _ _ _ (by intro e; injection e with e; first | exact hc e | exact hc e.symm)
theorem S6.set {w X : World} {b0 b1 c o : Nat} {lo hi g : Pt} {v : Value} (h : S6 w b0 b1 lo hi g X) (h0 : c ≠ b0) (h1 : c ≠ b1) (hw : w.heap.size ≤ c) : S6 w b0 b1 lo hi g (X.setCell ⟨c, o, none⟩ v) := by
  obtain ⟨k0, k1, k2, k3, k4, k5, k6, k7, k8⟩ := h
  exact ⟨by go_grown, (oth_cell h0).trans k1, (oth_cell h0).trans k2, (oth_cell h0).trans k3, (oth_cell h0).trans k4, (oth_cell h1).trans k5, (oth_cell h1).trans k6, by simpa using k7, by simpa using k8⟩
set_option maxRecDepth 100000 in
set_option maxHeartbeats 1600000 in
theorem farthest_any (lo hi g : Pt) (w : World) (hl : isP lo) (hh : isP hi) (hg : isP g) :
    Calls Try.prog 46 #[encX lo hi, encP g] w fun e w' => e = .returned (encP (farP g lo hi)) ∧ Bl w w' := by
  obtain ⟨⟨a1, a2⟩, a3, a4⟩ := hl
  obtain ⟨⟨b1, b2⟩, b3, b4⟩ := hh
  obtain ⟨⟨c1, c2⟩, c3, c4⟩ := hg
  go_enter Try.func46, Try.ntmps46
  go_wp2_with fail
  obtain ⟨X, hX⟩ : ∃ X, X = (((w.alloc (Obj.cells #[.int .i64 lo.x, .int .i64 lo.y, .int .i64 hi.x, .int .i64 hi.y] 54)).alloc (Obj.cells #[.int .i64 g.x, .int .i64 g.y] 26)).alloc (Obj.cells #[.int .i64 0, .int .i64 0] 26)) := ⟨_, rfl⟩
  have BX : Bl w X := by rw [hX]; go_grown
  have S0 : S6 w w.heap.size (w.heap.size + 1) lo hi g X := ⟨BX, by rw [hX]; go_cell, by rw [hX]; go_cell, by rw [hX]; go_cell, by rw [hX]; go_cell, by rw [hX]; go_cell, by rw [hX]; go_cell, by rw [hX]; (try simp only [World.size_alloc]); omega, by rw [hX]; (try simp only [World.size_alloc]); omega⟩
  have R0 : Bx2 X (w.heap.size + 1 + 1) (.int .i64 0) (.int .i64 0) := ⟨by rw [hX]; go_cell, by rw [hX]; go_cell, by rw [hX]; (try simp only [frozen?_alloc_cells]); exact fz_new (by (try simp only [World.size_alloc]); omega), by rw [hX]; (try simp only [frozen?_alloc_cells]); exact fz_new (by (try simp only [World.size_alloc]); omega), by rw [hX]; (try simp only [World.size_alloc]); omega⟩
  (try rw [← hX])
  clear hX
  obtain ⟨r0, r1, rf, rg, rl⟩ := R0
  have P0 : (X.setCell ⟨w.heap.size + 1 + 1, 0, none⟩ (.int .i64 (farF g.x lo.x hi.x))).cell? ⟨w.heap.size + 1 + 1, 0, none⟩ = some (.int .i64 (farF g.x lo.x hi.x)) := by go_cell
  have P1 : ((X.setCell ⟨w.heap.size + 1 + 1, 0, none⟩ (.int .i64 (farF g.x lo.x hi.x))).setCell ⟨w.heap.size + 1 + 1, 1, none⟩ (.int .i64 (farF g.y lo.y hi.y))).cell? ⟨w.heap.size + 1 + 1, 1, none⟩ = some (.int .i64 (farF g.y lo.y hi.y)) := by go_cell
  go_region_held3 (fun w' => Bl w w' ∧ w'.cell? ⟨w.heap.size, 0, none⟩ = some (.int .i64 lo.x) ∧ w'.cell? ⟨w.heap.size, 1, none⟩ = some (.int .i64 lo.y) ∧ w'.cell? ⟨w.heap.size, 2, none⟩ = some (.int .i64 hi.x) ∧ w'.cell? ⟨w.heap.size, 3, none⟩ = some (.int .i64 hi.y) ∧ w'.cell? ⟨w.heap.size + 1, 0, none⟩ = some (.int .i64 g.x) ∧ w'.cell? ⟨w.heap.size + 1, 1, none⟩ = some (.int .i64 g.y) ∧ w.heap.size < w'.heap.size ∧ w.heap.size + 1 < w'.heap.size) (first | exact S6.t S0 (Bl.dr _ 1) | exact S6.t (S6.set (S6.set S0 (by omega) (by omega) (by omega)) (by omega) (by omega) (by omega)) (Bl.dr _ 1)) (first | (go_at_call 56; refine (farther_any _ _ _ _ (by assumption) (by assumption) (by assumption) (by assumption) (by assumption) (by assumption)).mono ?_; rintro e v1 ⟨rfl, rfl⟩))
  all_goals
    rename_i hHeld
    have hHB := hHeld.1
    clear hHeld
    go_wp2_with fail
    exact bodyPost_ret (v := encP (farP g lo hi)) (by simp [results, Try.results46, go_sem, farP, P0, P1]) rfl ⟨rfl, hHB⟩

abbrev S8 (w : World) (b0 b1 b2 : Nat) (lo hi : Pt) (a : Air) (g : Pt) (X : World) : Prop :=
  Bl w X ∧ X.cell? ⟨b0, 0, none⟩ = some (.int .i64 lo.x) ∧ X.cell? ⟨b0, 1, none⟩ = some (.int .i64 lo.y) ∧ X.cell? ⟨b0, 2, none⟩ = some (.int .i64 hi.x) ∧ X.cell? ⟨b0, 3, none⟩ = some (.int .i64 hi.y) ∧ X.cell? ⟨b1, 0, none⟩ = some (.int .i64 a.s) ∧ X.cell? ⟨b1, 1, none⟩ = some (.int .i64 a.w) ∧ X.cell? ⟨b2, 0, none⟩ = some (.int .i64 g.x) ∧ X.cell? ⟨b2, 1, none⟩ = some (.int .i64 g.y) ∧ b0 < X.heap.size ∧ b1 < X.heap.size ∧ b2 < X.heap.size
theorem S8.t {w X X' : World} {b0 b1 b2 : Nat} {lo hi g : Pt} {a : Air} (h : S8 w b0 b1 b2 lo hi a g X) (hb : Bl X X') : S8 w b0 b1 b2 lo hi a g X' := by
  obtain ⟨h0, h1, h2, h3, h4, h5, h6, h7, h8, h9, h10, h11⟩ := h
  exact ⟨h0.tr hb, kcb hb h1, kcb hb h2, kcb hb h3, kcb hb h4, kcb hb h5, kcb hb h6, kcb hb h7, kcb hb h8, Nat.lt_of_lt_of_le h9 hb.size, Nat.lt_of_lt_of_le h10 hb.size, Nat.lt_of_lt_of_le h11 hb.size⟩
theorem S8.set {w X : World} {b0 b1 b2 c o : Nat} {lo hi g : Pt} {a : Air} {v : Value} (h : S8 w b0 b1 b2 lo hi a g X) (h0 : c ≠ b0) (h1 : c ≠ b1) (h2 : c ≠ b2) (hw : w.heap.size ≤ c) : S8 w b0 b1 b2 lo hi a g (X.setCell ⟨c, o, none⟩ v) := by
  obtain ⟨k0, k1, k2, k3, k4, k5, k6, k7, k8, k9, k10, k11⟩ := h
  exact ⟨by go_grown, (oth_cell h0).trans k1, (oth_cell h0).trans k2, (oth_cell h0).trans k3, (oth_cell h0).trans k4, (oth_cell h1).trans k5, (oth_cell h1).trans k6, (oth_cell h2).trans k7, (oth_cell h2).trans k8, by simpa using k9, by simpa using k10, by simpa using k11⟩
set_option maxRecDepth 100000 in
set_option maxHeartbeats 3200000 in
theorem boxLags_any (lo hi : Pt) (a : Air) (g : Pt) (w : World) (ha : VA a) (hg : isP g) (hb : boxOk lo hi) :
    Calls Try.prog 30 #[encX lo hi, encA a, encP g] w fun e w' => e = .returned (encL (boxL a g lo hi)) ∧ Bl w w' := by
  have hn : isP (nearP g lo hi) := inBox_isP hb (near_box hb)
  have hf : isP (farP g lo hi) := inBox_isP hb (far_box hb)
  have HL := Lib.hid hb.1
  have HH := Lib.hid hb.2.1
  have HAA := Lib.hid ha
  have HG := Lib.hid hg
  clear ha hg hb
  have F1 := fieldS0 (lagP a g (nearP g lo hi)).1 (lagP a g (nearP g lo hi)).2
  have F2 := fieldS1 (lagP a g (farP g lo hi)).1 (lagP a g (farP g lo hi)).2
  go_enter Try.func30, Try.ntmps30
  go_wp2_with fail
  obtain ⟨X, hX⟩ : ∃ X, X = ((((w.alloc (Obj.cells #[.int .i64 lo.x, .int .i64 lo.y, .int .i64 hi.x, .int .i64 hi.y] 54)).alloc (Obj.cells #[.int .i64 a.s, .int .i64 a.w] 23)).alloc (Obj.cells #[.int .i64 g.x, .int .i64 g.y] 26)).alloc (Obj.cells #[.int .i64 0, .int .i64 0] 42)) := ⟨_, rfl⟩
  have BX : Bl w X := by rw [hX]; go_grown
  have S0 : S8 w w.heap.size (w.heap.size + 1) (w.heap.size + 1 + 1) lo hi a g X := ⟨BX, by rw [hX]; go_cell, by rw [hX]; go_cell, by rw [hX]; go_cell, by rw [hX]; go_cell, by rw [hX]; go_cell, by rw [hX]; go_cell, by rw [hX]; go_cell, by rw [hX]; go_cell, by rw [hX]; (try simp only [World.size_alloc]); omega, by rw [hX]; (try simp only [World.size_alloc]); omega, by rw [hX]; (try simp only [World.size_alloc]); omega⟩
  have R0 : RZ (w.heap.size + 1 + 1 + 1) X := ⟨by rw [hX]; go_cell, by rw [hX]; go_cell, by rw [hX]; (try simp only [frozen?_alloc_cells]); exact fz_new (by (try simp only [World.size_alloc]); omega), by rw [hX]; (try simp only [frozen?_alloc_cells]); exact fz_new (by (try simp only [World.size_alloc]); omega), by rw [hX]; (try simp only [World.size_alloc]); omega⟩
  (try rw [← hX])
  clear hX
  go_region_held3 (fun w' => Bl w w' ∧ w'.cell? ⟨w.heap.size, 0, none⟩ = some (.int .i64 lo.x) ∧ w'.cell? ⟨w.heap.size, 1, none⟩ = some (.int .i64 lo.y) ∧ w'.cell? ⟨w.heap.size, 2, none⟩ = some (.int .i64 hi.x) ∧ w'.cell? ⟨w.heap.size, 3, none⟩ = some (.int .i64 hi.y) ∧ w'.cell? ⟨w.heap.size + 1, 0, none⟩ = some (.int .i64 a.s) ∧ w'.cell? ⟨w.heap.size + 1, 1, none⟩ = some (.int .i64 a.w) ∧ w'.cell? ⟨w.heap.size + 1 + 1, 0, none⟩ = some (.int .i64 g.x) ∧ w'.cell? ⟨w.heap.size + 1 + 1, 1, none⟩ = some (.int .i64 g.y) ∧ w.heap.size < w'.heap.size ∧ w.heap.size + 1 < w'.heap.size ∧ w.heap.size + 1 + 1 < w'.heap.size) (first | exact S8.t S0 (Bl.dr _ 1) | exact S8.t (by assumption) hh0 | exact S8.t (by assumption) hh1 | exact S8.t (by assumption) hh2 | exact S8.set (S8.set (by assumption) (by omega) (by omega) (by omega) (by omega)) (by omega) (by omega) (by omega) (by omega)) (first | (go_at_call 45; refine (nearest_any lo hi g _).mono ?_; rintro e v0 ⟨rfl, hh0⟩; have hR0 : RZ (w.heap.size + 1 + 1 + 1) v0 := (by first | exact RZ.t (RZ.t R0 (Bl.dr _ 1)) hh0 | exact RZ.t (by assumption) hh0); have hQ0 := hR0; obtain ⟨r0, r1, rf, rg, rl⟩ := hQ0) | (go_at_call 46; refine (farthest_any lo hi g _ HL.out HH.out HG.out).mono ?_; rintro e v1 ⟨rfl, hh1⟩; have hR1 : RZ (w.heap.size + 1 + 1 + 1) v1 := (by first | exact RZ.t (RZ.t R0 (Bl.dr _ 1)) hh1 | exact RZ.t (by assumption) hh1); have hQ1 := hR1; obtain ⟨r0, r1, rf, rg, rl⟩ := hQ1) | (go_at_call 36; refine (lagOf_any a g _ _ HAA.out HG.out (by assumption)).mono ?_; rintro e v2 ⟨rfl, hh2⟩; have hR2 : RZ (w.heap.size + 1 + 1 + 1) v2 := (by first | exact RZ.t (RZ.t R0 (Bl.dr _ 1)) hh2 | exact RZ.t (by assumption) hh2); have hQ2 := hR2; obtain ⟨r0, r1, rf, rg, rl⟩ := hQ2))
  all_goals
    rename_i hHeld
    have hHB := hHeld.1
    clear hHeld
    go_wp2_with fail
    exact bodyPost_ret (v := encL (boxL a g lo hi)) (by simp [results, Try.results30, go_sem, boxL, r0, r1]) rfl ⟨rfl, hHB⟩
end Go.Proofs.Ythemoomfbbccjaa
