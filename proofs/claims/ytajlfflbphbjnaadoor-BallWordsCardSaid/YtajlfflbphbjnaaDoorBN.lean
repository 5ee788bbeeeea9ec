/-
  Contracts of package ball and of its reference: wires.
-/
import Derived.Test.YtajlfflbphbjnaaDoorBE
import Derived.BigQuiet
import Derived.Deep.QuietTactic
import Derived.Deep.RegionHeld3
namespace Go.Proofs.YtajlfflbphbjnaaDoor
open Go.RowKit
set_option linter.unusedSimpArgs false
set_option linter.unusedVariables false

/-- A slice of relays reads as a function. -/
def Rl (w : World) (A : Option Addr) (n : Nat) (R : Nat → Rly) : Prop :=
  0 < n → ∃ b off, A = some ⟨b, off, none⟩ ∧ b < w.heap.size ∧ ∀ j, j < n →
    w.cell? ⟨b, off + j * 2, none⟩ = some (.int .i64 (R j).lag) ∧ w.cell? ⟨b, off + j * 2 + 1, none⟩ = some (.int .i64 (R j).spr)
theorem Rl.below {w w' : World} {A : Option Addr} {n : Nat} {R : Nat → Rly} (h : Rl w A n R) (hb : Bl w w') : Rl w' A n R := fun hn => by
  obtain ⟨b, off, e, hlt, hc⟩ := h hn
  exact ⟨b, off, e, Nat.lt_of_lt_of_le hlt hb.size, fun j hj => by
    obtain ⟨c0, c1⟩ := hc j hj
    exact ⟨kcb hb c0, kcb hb c1⟩⟩
theorem two_put {X : World} {b : Nat} {x0 x1 : Value} (c0 : X.cell? ⟨b, 0, none⟩ = some x0) (c1 : X.cell? ⟨b, 1, none⟩ = some x1) (y0 y1 : Value) : ((X.setCell ⟨b, 0, none⟩ y0).setCell ⟨b, 1, none⟩ y1).cell? ⟨b, 0, none⟩ = some y0 ∧ ((X.setCell ⟨b, 0, none⟩ y0).setCell ⟨b, 1, none⟩ y1).cell? ⟨b, 1, none⟩ = some y1 := ⟨by go_cell, by go_cell⟩
theorem two_far {X : World} {b b' o : Nat} {v : Value} (hne : b' ≠ b) (c : X.cell? ⟨b, o, none⟩ = some v) (y0 y1 : Value) : ((X.setCell ⟨b', 0, none⟩ y0).setCell ⟨b', 1, none⟩ y1).cell? ⟨b, o, none⟩ = some v := by
  have oth : ∀ (Z : World) (i : Nat) (u : Value), (Z.setCell ⟨b', i, none⟩ u).cell? ⟨b, o, none⟩ = Z.cell? ⟨b, o, none⟩ := fun Z i u => World.cell?_setCell_other _ _ _ _ (by intro e; injection e with e; first | exact hne e | exact hne e.symm)
  rw [oth, oth]; exact c
theorem vw_no {R : Nat → Rly} {n k : Nat} (hk : k < n) (h : ¬ rOk (R k)) : ¬ VW R n := fun hv => h (hv.2.2 k hk)
theorem field0 (a b : Int) (w : World) : (Instr.field 46 (.agg #[.int .i64 a, .int .i64 b]) 0).run Tryd.prog w = .ok (.int .i64 a) w := by kernel_rfl
theorem field1 (a b : Int) (w : World) : (Instr.field 46 (.agg #[.int .i64 a, .int .i64 b]) 1).run Tryd.prog w = .ok (.int .i64 b) w := by kernel_rfl
def lagR (R : Nat → Rly) (n : Nat) : Int × Int × Int := if VW R n then (lagS R n - sprS R n, lagS R n + sprS R n, 0) else (0, 0, 1)
def falR (R : Nat → Rly) (n : Nat) (s : Int) : Int × Int × Int := if VW R n then (if isT s then (s + lagS R n - sprS R n, s + lagS R n + sprS R n, 0) else (0, 0, 7)) else (0, 0, 1)
def sendR (R : Nat → Rly) (n : Nat) (t : Int) : Int × Int := if VW R n then (if isT t then (if t < lagS R n then (0, 8) else (t - lagS R n, 0)) else (0, 7)) else (0, 1)
def sureR (M : Mst) (R : Nat → Rly) (n : Nat) : Bool × Int := if VM M ∧ VW R n then (decide (sprS R n ≤ M.la), 0) else (false, 1)
theorem fal_zero (R : Nat → Rly) (n : Nat) : falR R n 0 = lagR R n := by
  unfold falR lagR
  rw [if_pos (show isT 0 by simp [isT]), Int.zero_add]

set_option maxRecDepth 100000 in
set_option maxHeartbeats 1600000 in
theorem vw_any (A : Option Addr) (n c : Nat) (R : Nat → Rly) (w : World) (hA : Rl w A n R) (hn : n ≤ maxLen) :
    Calls Tryd.prog 26 #[.slice A n c] w fun e w' => e = .returned (.bool (decide (VW R n))) ∧ Bl w w' := by
  have HA := Lib.hid hA
  clear hA
  unfold maxLen at hn
  by_cases h1 : 1 ≤ n ∧ n ≤ 20
  · obtain ⟨n1, n20⟩ := h1
    go_enter Tryd.func26, Tryd.ntmps26
    go_wp2_with fail
    go_loopw [15] (fun i wr => ∃ k : Nat, k ≤ n ∧ i = .int .i64 k ∧ Hid (∀ j, j < k → rOk (R j)) ∧ Bl w wr) (fun i _ => n - (RowKit.intOf i).toNat)
    case atStart => exact ⟨0, Nat.zero_le _, rfl, fun j hj => absurd hj (by omega), Bl.rf _⟩
    case round =>
      obtain ⟨k, hk, rfl, HR, hB⟩ := hrel
      have zB := hB.size
      by_cases hlt : k < n
      · obtain ⟨b, off, rfl, hbb, hc⟩ := (HA.out.below hB) (by omega)
        obtain ⟨c0, c1⟩ := hc k hlt
        clear hc
        obtain ⟨y, hy⟩ : ∃ y, y = R k := ⟨_, rfl⟩
        rw [← hy] at c0 c1
        by_cases q : rOk y
        · have HI := Lib.hid (show ∀ j, j < k + 1 → rOk (R j) from fun j hj => by
            by_cases e : j = k
            · rw [e, ← hy]; exact q
            · exact HR.out j (by omega))
          obtain ⟨q1, q2, q3, q4⟩ := q
          clear hy
          go_wp2_with fail
          go_roundw
          case rel => exact ⟨k + 1, by omega, by go_num, HI.out, by go_grown⟩
          case measure => simp [RowKit.intOf]; omega
        · have HI := Lib.hid (show decide (VW R n) = false from decide_eq_false (vw_no hlt (by rw [← hy]; exact q)))
          have Q := Lib.hid q
          clear hy q
          go_wp2_with fail
          all_goals first
            | (go_ret; exact ⟨ret_bool (by rw [HI.out]), by go_grown⟩)
            | (exfalso; exact Q.out ⟨by omega, by omega, by omega, by omega⟩)
      · obtain rfl : n = k := by omega
        have HI := Lib.hid (show decide (VW R n) = true from decide_eq_true ⟨n1, n20, HR.out⟩)
        go_wp2_with fail
        go_ret
        exact ⟨ret_bool (by rw [HI.out]), hB⟩
  · have HI := Lib.hid (show decide (VW R n) = false from decide_eq_false fun h => h1 ⟨h.1, h.2.1⟩)
    by_cases h2 : n < 1
    · go_enter Tryd.func26, Tryd.ntmps26
      go_wp2_with fail
      go_ret
      exact ⟨ret_bool (by rw [HI.out]), Bl.rf _⟩
    · have h3 : 20 < n := by omega
      clear h1
      go_enter Tryd.func26, Tryd.ntmps26
      go_wp2_with fail
      go_ret
      exact ⟨ret_bool (by rw [HI.out]), Bl.rf _⟩

set_option maxRecDepth 100000 in
set_option maxHeartbeats 1600000 in
theorem joined_any (A : Option Addr) (n c : Nat) (R : Nat → Rly) (w : World) (hA : Rl w A n R) (hV : VW R n) :
    Calls Tryd.prog 27 #[.slice A n c] w fun e w' => e = .returned (.agg #[.int .i64 (lagS R n), .int .i64 (sprS R n)]) ∧ Bl w w' := by
  have HA := Lib.hid hA
  have HV := Lib.hid hV
  have n1 := hV.1
  have n20 := hV.2.1
  clear hA hV
  go_enter Tryd.func27, Tryd.ntmps27
  go_wp2_with fail
  obtain ⟨V, hV⟩ : ∃ V, V = (w.alloc (.cells #[.int .i64 0, .int .i64 0] 46)).alloc (.cells #[.int .i64 0, .int .i64 0] 46) := ⟨_, rfl⟩
  have BV : Bl w V := by rw [hV]; go_grown
  have u0 : V.cell? ⟨w.heap.size, 0, none⟩ = some (.int .i64 0) := by rw [hV]; go_cell
  have u1 : V.cell? ⟨w.heap.size, 1, none⟩ = some (.int .i64 0) := by rw [hV]; go_cell
  have u2 : V.cell? ⟨w.heap.size + 1, 0, none⟩ = some (.int .i64 0) := by rw [hV]; go_cell
  have u3 : V.cell? ⟨w.heap.size + 1, 1, none⟩ = some (.int .i64 0) := by rw [hV]; go_cell
  have g0 : V.frozen? ⟨w.heap.size, 0, none⟩ = false := by rw [hV]; (try simp only [frozen?_alloc_cells, World.frozen?_setCell]); first | assumption | exact fz_new (by (try simp only [World.size_alloc, World.size_setCell]); omega)
  have g1 : V.frozen? ⟨w.heap.size, 1, none⟩ = false := by rw [hV]; (try simp only [frozen?_alloc_cells, World.frozen?_setCell]); first | assumption | exact fz_new (by (try simp only [World.size_alloc, World.size_setCell]); omega)
  have g2 : V.frozen? ⟨w.heap.size + 1, 0, none⟩ = false := by rw [hV]; (try simp only [frozen?_alloc_cells, World.frozen?_setCell]); first | assumption | exact fz_new (by (try simp only [World.size_alloc, World.size_setCell]); omega)
  have g3 : V.frozen? ⟨w.heap.size + 1, 1, none⟩ = false := by rw [hV]; (try simp only [frozen?_alloc_cells, World.frozen?_setCell]); first | assumption | exact fz_new (by (try simp only [World.size_alloc, World.size_setCell]); omega)
  have lV := ltb u2
  rw [← hV]
  clear hV
  go_loopw [8] (fun i wr => ∃ k : Nat, k ≤ n ∧ i = .int .i64 k ∧ wr.cell? ⟨w.heap.size, 0, none⟩ = some (.int .i64 0) ∧ wr.cell? ⟨w.heap.size, 1, none⟩ = some (.int .i64 0) ∧ wr.cell? ⟨w.heap.size + 1, 0, none⟩ = some (.int .i64 (lagS R k)) ∧ wr.cell? ⟨w.heap.size + 1, 1, none⟩ = some (.int .i64 (sprS R k)) ∧ (wr.frozen? ⟨w.heap.size, 0, none⟩ = false ∧ wr.frozen? ⟨w.heap.size, 1, none⟩ = false ∧ wr.frozen? ⟨w.heap.size + 1, 0, none⟩ = false ∧ wr.frozen? ⟨w.heap.size + 1, 1, none⟩ = false) ∧ Bl w wr) (fun i _ => n - (RowKit.intOf i).toNat)
  case atStart => exact ⟨0, Nat.zero_le _, rfl, u0, u1, u2, u3, ⟨g0, g1, g2, g3⟩, BV⟩
  case round =>
    obtain ⟨k, hk, rfl, v0, v1, v2, v3, ⟨f0, f1, f2, f3⟩, hB⟩ := hrel
    have zB := hB.size
    clear u0 u1 u2 u3 g0 g1 g2 g3 lV BV
    have lv := ltb v2
    have lv0 := ltb v0
    obtain ⟨d1, d2, d3⟩ := wire_bd HV.out hk
    by_cases hlt : k < n
    · obtain ⟨b, off, rfl, hbb, hc⟩ := (HA.out.below hB) (by omega)
      obtain ⟨c0, c1⟩ := hc k hlt
      clear hc
      obtain ⟨y, hy⟩ : ∃ y, y = R k := ⟨_, rfl⟩
      rw [← hy] at c0 c1
      have hr := HV.out.2.2 k hlt
      rw [← hy] at hr
      obtain ⟨r1, r2, r3, r4⟩ := hr
      obtain ⟨L, hL⟩ : ∃ L, L = lagS R k := ⟨_, rfl⟩
      obtain ⟨S, hS⟩ : ∃ S, S = sprS R k := ⟨_, rfl⟩
      have HL := Lib.hid (show lagS R (k + 1) = L + y.lag by rw [lagS, ← hL, ← hy])
      have HS := Lib.hid (show sprS R (k + 1) = S + y.spr by rw [sprS, ← hS, ← hy])
      rw [← hL] at v2 d2 d3
      rw [← hS] at v3 d1 d2
      clear hL hS hy
      go_wp2_with fail
      go_roundw
      case rel => exact ⟨k + 1, by omega, by go_num, (World.cell?_alloc_lt _ _ _ (by simpa using lv0)).trans (two_far (by omega) v0 _ _), (World.cell?_alloc_lt _ _ _ (by simpa using lv0)).trans (two_far (by omega) v1 _ _), by rw [HL.out]; exact (World.cell?_alloc_lt _ _ _ (by simpa using lv)).trans (two_put v2 v3 _ _).1, by rw [HS.out]; exact (World.cell?_alloc_lt _ _ _ (by simpa using lv)).trans (two_put v2 v3 _ _).2, ⟨by (try simp only [frozen?_alloc_cells, World.frozen?_setCell]); exact f0, by (try simp only [frozen?_alloc_cells, World.frozen?_setCell]); exact f1, by (try simp only [frozen?_alloc_cells, World.frozen?_setCell]); exact f2, by (try simp only [frozen?_alloc_cells, World.frozen?_setCell]); exact f3⟩, by go_grown⟩
      case measure => simp [RowKit.intOf]; omega
    · obtain rfl : n = k := by omega
      go_wp2_with fail
      exact bodyPost_ret (v := .agg #[.int .i64 (lagS R n), .int .i64 (sprS R n)]) (by simp [results, Tryd.results27, go_sem, v0, v1, f0, f1]) rfl ⟨rfl, by go_grown⟩

set_option maxRecDepth 100000 in
set_option maxHeartbeats 1600000 in
theorem lag_any (A : Option Addr) (n c : Nat) (R : Nat → Rly) (w : World) (hA : Rl w A n R) (hn : n ≤ maxLen) :
    Calls Tryd.prog 14 #[.slice A n c] w fun e w' => e = .returned (.tuple #[.agg #[.int .i64 (lagR R n).1, .int .i64 (lagR R n).2.1], .int .i64 (lagR R n).2.2]) ∧ Bl w w' := by
  have HA := Lib.hid hA
  have HN := Lib.hid hn
  clear hA hn
  by_cases hv : VW R n
  · have HV := Lib.hid hv
    have Q := Lib.hid (show decide (VW R n) = true from decide_eq_true hv)
    obtain ⟨d1, d2, d3⟩ := wire_bd hv (Nat.le_refl n)
    have HS := Lib.hid (show lagR R n = (lagS R n - sprS R n, lagS R n + sprS R n, 0) by unfold lagR; rw [if_pos hv])
    clear hv
    go_enter Tryd.func14, Tryd.ntmps14
    go_wp2_with fail
    refine (vw_any A n c R _ (HA.out.below (by go_grown)) HN.out).mono ?_
    rintro q1 w1 ⟨rfl, hb⟩
    have c0 := kcb hb (b := w.heap.size) (o := 0) (v := .int .i64 0) (by first | assumption | (refine cellUp ?_; assumption) | go_cell)
    have c1 := kcb hb (b := w.heap.size) (o := 1) (v := .int .i64 0) (by first | assumption | (refine cellUp ?_; assumption) | go_cell)
    have z0 := fzb hb (b := w.heap.size) (o := 0) (by (try simp only [frozen?_alloc_cells, World.frozen?_setCell]); first | assumption | exact fz_new (by (try simp only [World.size_alloc, World.size_setCell]); omega)) (by (try simp only [World.size_alloc, World.size_setCell]); omega)
    have z1 := fzb hb (b := w.heap.size) (o := 1) (by (try simp only [frozen?_alloc_cells, World.frozen?_setCell]); first | assumption | exact fz_new (by (try simp only [World.size_alloc, World.size_setCell]); omega)) (by (try simp only [World.size_alloc, World.size_setCell]); omega)
    have B1 : Bl w w1 := Below.trans (by go_grown) (hb.mono (by (try simp only [World.size_alloc, World.size_setCell]); omega))
    have l1 := ltb c1
    have zz1 := B1.size
    clear hb
    rw [Q.out]
    go_wp2_with fail
    refine (joined_any A n c R _ (HA.out.below (by go_grown)) HV.out).mono ?_
    rintro q2 w2 ⟨rfl, hb⟩
    have c0 := kcb hb (b := w.heap.size) (o := 0) (v := .int .i64 0) (by first | assumption | (refine cellUp ?_; assumption) | go_cell)
    have c1 := kcb hb (b := w.heap.size) (o := 1) (v := .int .i64 0) (by first | assumption | (refine cellUp ?_; assumption) | go_cell)
    have z0 := fzb hb (b := w.heap.size) (o := 0) (by (try simp only [frozen?_alloc_cells, World.frozen?_setCell]); first | assumption | exact fz_new (by (try simp only [World.size_alloc, World.size_setCell]); omega)) (by (try simp only [World.size_alloc, World.size_setCell]); omega)
    have z1 := fzb hb (b := w.heap.size) (o := 1) (by (try simp only [frozen?_alloc_cells, World.frozen?_setCell]); first | assumption | exact fz_new (by (try simp only [World.size_alloc, World.size_setCell]); omega)) (by (try simp only [World.size_alloc, World.size_setCell]); omega)
    have B2 : Bl w w2 := Below.trans (by go_grown) (hb.mono (by (try simp only [World.size_alloc, World.size_setCell]); omega))
    have l2 := ltb c1
    have zz2 := B2.size
    clear hb
    go_wp2_with fail
    exact bodyPost_ret (v := .tuple #[.agg #[.int .i64 (lagS R n - sprS R n), .int .i64 (lagS R n + sprS R n)], .int .i64 (0)]) (by simp [results, Tryd.results14, go_sem, c0, c1, z0, z1, l2]) rfl ⟨by rw [HS.out], by go_grown⟩
  · have Q := Lib.hid (show decide (VW R n) = false from decide_eq_false hv)
    have HS := Lib.hid (show lagR R n = (0, 0, 1) by unfold lagR; rw [if_neg hv])
    clear hv
    go_enter Tryd.func14, Tryd.ntmps14
    go_wp2_with fail
    refine (vw_any A n c R _ (HA.out.below (by go_grown)) HN.out).mono ?_
    rintro q1 w1 ⟨rfl, hb⟩
    have c0 := kcb hb (b := w.heap.size) (o := 0) (v := .int .i64 0) (by first | assumption | (refine cellUp ?_; assumption) | go_cell)
    have c1 := kcb hb (b := w.heap.size) (o := 1) (v := .int .i64 0) (by first | assumption | (refine cellUp ?_; assumption) | go_cell)
    have z0 := fzb hb (b := w.heap.size) (o := 0) (by (try simp only [frozen?_alloc_cells, World.frozen?_setCell]); first | assumption | exact fz_new (by (try simp only [World.size_alloc, World.size_setCell]); omega)) (by (try simp only [World.size_alloc, World.size_setCell]); omega)
    have z1 := fzb hb (b := w.heap.size) (o := 1) (by (try simp only [frozen?_alloc_cells, World.frozen?_setCell]); first | assumption | exact fz_new (by (try simp only [World.size_alloc, World.size_setCell]); omega)) (by (try simp only [World.size_alloc, World.size_setCell]); omega)
    have B1 : Bl w w1 := Below.trans (by go_grown) (hb.mono (by (try simp only [World.size_alloc, World.size_setCell]); omega))
    have l1 := ltb c1
    have zz1 := B1.size
    clear hb
    rw [Q.out]
    go_wp2_with fail
    exact bodyPost_ret (v := .tuple #[.agg #[.int .i64 (0), .int .i64 (0)], .int .i64 (1)]) (by simp [results, Tryd.results14, go_sem, c0, c1, z0, z1, l1]) rfl ⟨by rw [HS.out], by go_grown⟩