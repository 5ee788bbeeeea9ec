/-
  Contracts of package ball and of its reference: wires.
-/
import Derived.Test.YtaebclepdobbaaaBE
import Derived.BigQuiet
import Derived.Deep.QuietTactic
import Derived.Deep.RegionHeld3
namespace Go.Proofs.Ytaebclepdobbaaa
open Go.RowKit
set_option linter.unusedSimpArgs false
set_option linter.unusedVariables false

/-- A slice of relays reads as a function. -/
def Rl (w : World) (A : Option Addr) (n : Nat) (R : Nat → Rly) : Prop :=
  0 < n → ∃ b off, A = some ⟨b, off, none⟩ ∧ b < w.heap.size ∧ ∀ j, j < n →
    w.cell? ⟨b, off + j * 2, none⟩ = some (.int .i64 (R j).lag) ∧ w.cell? ⟨b, off + j * 2 + 1, none⟩ = some (.int .i64 (R j).spr)
theorem Rl.below {w w' : World} {A : Option Addr} {n : Nat} {R : Nat → Rly} (h : Rl w A n R) (hb : Bl w w') : Rl w' A n R := fun hn => by
  obtain ⟨b, off, e, hlt, hc⟩ := h hn
  exact ⟨b, off, e, Nat.lt_of_lt_of_le hlt hb.size, fun j hj => by
    obtain ⟨c0, c1⟩ := hc j hj
    exact ⟨kcb hb c0, kcb hb c1⟩⟩
theorem two_put {X : World} {b : Nat} {x0 x1 : Value} (c0 : X.cell? ⟨b, 0, none⟩ = some x0) (c1 : X.cell? ⟨b, 1, none⟩ = some x1) (y0 y1 : Value) : ((X.setCell ⟨b, 0, none⟩ y0).setCell ⟨b, 1, none⟩ y1).cell? ⟨b, 0, none⟩ = some y0 ∧ ((X.setCell ⟨b, 0, none⟩ y0).setCell ⟨b, 1, none⟩ y1).cell? ⟨b, 1, none⟩ = some y1 := ⟨by go_cell, by go_cell⟩
theorem two_far {X : World} {b b' o : Nat} {v : Value} (hne : b' ≠ b) (c : X.cell? ⟨b, o, none⟩ = some v) (y0 y1 : Value) : ((X.setCell ⟨b', 0, none⟩ y0).setCell ⟨b', 1, none⟩ y1).cell? ⟨b, o, none⟩ = some v := by
  have oth : ∀ (Z : World) (i : Nat) (u : Value), (Z.setCell ⟨b', i, none⟩ u).cell? ⟨b, o, none⟩ = Z.cell? ⟨b, o, none⟩ := fun Z i u => World.cell?_setCell_other _ _ _ _ (by intro e; injection e with e; first | exact hne e | exact hne e.symm)
  rw [oth, oth]; exact c
theorem vw_no {R : Nat → Rly} {n k : Nat} (hk : k < n) (h : ¬ rOk (R k)) : ¬ VW R n := fun hv => h (hv.2.2 k hk)
theorem field0 (a b : Int) (w : World) : (Instr.field 68 (.agg #[.int .i64 a, .int .i64 b]) 0).run Try.prog w = .ok (.int .i64 a) w := by kernel_rfl
theorem field1 (a b : Int) (w : World) : (Instr.field 68 (.agg #[.int .i64 a, .int .i64 b]) 1).run Try.prog w = .ok (.int .i64 b) w := by kernel_rfl
def lagR (R : Nat → Rly) (n : Nat) : Int × Int × Int := if VW R n then (lagS R n - sprS R n, lagS R n + sprS R n, 0) else (0, 0, 1)
def falR (R : Nat → Rly) (n : Nat) (s : Int) : Int × Int × Int := if VW R n then (if isT s then (s + lagS R n - sprS R n, s + lagS R n + sprS R n, 0) else (0, 0, 7)) else (0, 0, 1)
def sendR (R : Nat → Rly) (n : Nat) (t : Int) : Int × Int := if VW R n then (if isT t then (if t < lagS R n then (0, 8) else (t - lagS R n, 0)) else (0, 7)) else (0, 1)
def sureR (M : Mst) (R : Nat → Rly) (n : Nat) : Bool × Int := if VM M ∧ VW R n then (decide (sprS R n ≤ M.la), 0) else (false, 1)
theorem fal_zero (R : Nat → Rly) (n : Nat) : falR R n 0 = lagR R n := by
  unfold falR lagR
  rw [if_pos (show isT 0 by simp [isT]), Int.zero_add]

set_option maxRecDepth 100000 in
set_option maxHeartbeats 1600000 in
theorem vw_any (A : Option Addr) (n c : Nat) (R : Nat → Rly) (w : World) (hA : Rl w A n R) (hn : n ≤ maxLen) :
    Calls Try.prog 38 #[.slice A n c] w fun e w' => e = .returned (.bool (decide (VW R n))) ∧ Bl w w' := by
  have HA := Lib.hid hA
  clear hA
  unfold maxLen at hn
  by_cases h1 : 1 ≤ n ∧ n ≤ 20
  · obtain ⟨n1, n20⟩ := h1
    go_enter Try.func38, Try.ntmps38
    go_wp2_with fail
    go_loopw [15] (fun i wr => ∃ k : Nat, k ≤ n ∧ i = .int .i64 k ∧ Hid (∀ j, j < k → rOk (R j)) ∧ Bl w wr) (fun i _ => n - (RowKit.intOf i).toNat)
    case atStart => exact ⟨0, Nat.zero_le _, rfl, fun j hj => absurd hj (by omega), Bl.rf _⟩
    case round =>
      obtain ⟨k, hk, rfl, HR, hB⟩ := hrel
      have zB := hB.size
      by_cases hlt : k < n
      · obtain ⟨b, off, rfl, hbb, hc⟩ := (HA.out.below hB) (by omega)
        obtain ⟨c0, c1⟩ := hc k hlt
        clear hc
        obtain ⟨y, hy⟩ : ∃ y, y = R k := ⟨_, rfl⟩
        rw [← hy] at c0 c1
        by_cases q : rOk y
        · have HI := Lib.hid (show ∀ j, j < k + 1 → rOk (R j) from fun j hj => by
            by_cases e : j = k
            · rw [e, ← hy]; exact q
            · exact HR.out j (by omega))
          obtain ⟨q1, q2, q3, q4⟩ := q
          clear hy
          go_wp2_with fail
          go_roundw
          case rel => exact ⟨k + 1, by omega, by go_num, HI.out, by go_grown⟩
          case measure => simp [RowKit.intOf]; omega
        · have HI := Lib.hid (show decide (VW R n) = false from decide_eq_false (vw_no hlt (by rw [← hy]; exact q)))
          have Q := Lib.hid q
          clear hy q
          go_wp2_with fail
          all_goals first
            | (go_ret; exact ⟨ret_bool (by rw [HI.out]), by go_grown⟩)
            | (exfalso; exact Q.out ⟨by omega, by omega, by omega, by omega⟩)
      · obtain rfl : n = k := by omega
        have HI := Lib.hid (show decide (VW R n) = true from decide_eq_true ⟨n1, n20, HR.out⟩)
        go_wp2_with fail
        go_ret
        exact ⟨ret_bool (by rw [HI.out]), hB⟩
  · have HI := Lib.hid (show decide (VW R n) = false from decide_eq_false fun h => h1 ⟨h.1, h.2.1⟩)
    by_cases h2 : n < 1
    · go_enter Try.func38, Try.ntmps38
      go_wp2_with fail
      go_ret
      exact ⟨ret_bool (by rw [HI.out]), Bl.rf _⟩
    · have h3 : 20 < n := by omega
      clear h1
      go_enter Try.func38, Try.ntmps38
      go_wp2_with fail
      go_ret
      exact ⟨ret_bool (by rw [HI.out]), Bl.rf _⟩

set_option maxRecDepth 100000 in
set_option maxHeartbeats 1600000 in
theorem rvw_any (A : Option Addr) (n c : Nat) (R : Nat → Rly) (w : World) (hA : Rl w A n R) (hn : n ≤ maxLen) :
    Calls Try.prog 39 #[.slice A n c] w fun e w' => e = .returned (.bool (decide (VW R n))) ∧ Bl w w' := by
  have HA := Lib.hid hA
  clear hA
  unfold maxLen at hn
  go_enter Try.func39, Try.ntmps39
  go_wp2_with fail
  go_loopw [7] (fun i wr => ∃ k : Nat, k ≤ n ∧ i = .int .i64 k ∧ Hid (∀ j, j < k → rOk (R j)) ∧ Bl w wr) (fun i _ => n - (RowKit.intOf i).toNat)
  case atStart => exact ⟨0, Nat.zero_le _, rfl, fun j hj => absurd hj (by omega), Bl.rf _⟩
  case round =>
    obtain ⟨k, hk, rfl, HR, hB⟩ := hrel
    have zB := hB.size
    by_cases hlt : k < n
    · obtain ⟨b, off, rfl, hbb, hc⟩ := (HA.out.below hB) (by omega)
      obtain ⟨c0, c1⟩ := hc k hlt
      clear hc
      obtain ⟨y, hy⟩ : ∃ y, y = R k := ⟨_, rfl⟩
      rw [← hy] at c0 c1
      by_cases q : rOk y
      · have HI := Lib.hid (show ∀ j, j < k + 1 → rOk (R j) from fun j hj => by
          by_cases e : j = k
          · rw [e, ← hy]; exact q
          · exact HR.out j (by omega))
        have Q1 := Lib.hid (show decide (0 ≤ y.lag ∧ y.lag ≤ 10000) = true from decide_eq_true ⟨q.1, q.2.1⟩)
        have Q2 := Lib.hid (show decide (0 ≤ y.spr ∧ y.spr ≤ y.lag) = true from decide_eq_true q.2.2)
        clear hy q
        go_wp2_with fail
        refine (within4_any y.lag 0 10000 _).mono ?_
        rintro r w9 ⟨rfl, rfl⟩
        rw [Q1.out]
        go_wp2_with fail
        refine (within4_any y.spr 0 y.lag _).mono ?_
        rintro r w9 ⟨rfl, rfl⟩
        rw [Q2.out]
        go_wp2_with fail
        go_roundw
        case rel => exact ⟨k + 1, by omega, by go_num, HI.out, by go_grown⟩
        case measure => simp [RowKit.intOf]; omega
      · have HI := Lib.hid (show decide (VW R n) = false from decide_eq_false (vw_no hlt (by rw [← hy]; exact q)))
        by_cases q1 : 0 ≤ y.lag ∧ y.lag ≤ 10000
        · have Q1 := Lib.hid (show decide (0 ≤ y.lag ∧ y.lag ≤ 10000) = true from decide_eq_true q1)
          have Q2 := Lib.hid (show decide (0 ≤ y.spr ∧ y.spr ≤ y.lag) = false from decide_eq_false fun h => q ⟨q1.1, q1.2, h.1, h.2⟩)
          clear hy q q1
          go_wp2_with fail
          refine (within4_any y.lag 0 10000 _).mono ?_
          rintro r w9 ⟨rfl, rfl⟩
          rw [Q1.out]
          go_wp2_with fail
          refine (within4_any y.spr 0 y.lag _).mono ?_
          rintro r w9 ⟨rfl, rfl⟩
          rw [Q2.out]
          go_wp2_with fail
          go_ret
          exact ⟨ret_bool (by rw [HI.out]), by go_grown⟩
        · have Q1 := Lib.hid (show decide (0 ≤ y.lag ∧ y.lag ≤ 10000) = false from decide_eq_false q1)
          clear hy q q1
          go_wp2_with (go_at_call 47; refine (within4_any y.lag 0 10000 _).mono ?_; rintro r w' ⟨rfl, rfl⟩; rw [Q1.out])
          go_ret
          exact ⟨ret_bool (by rw [HI.out]), by go_grown⟩
    · obtain rfl : n = k := by omega
      have HI := Lib.hid (show decide ((1 : Int) ≤ (n : Int) ∧ (n : Int) ≤ 20) = decide (VW R n) by
        rw [Bool.eq_iff_iff, decide_eq_true_eq, decide_eq_true_eq]
        exact ⟨fun h => ⟨by omega, by omega, HR.out⟩, fun h => ⟨by have := h.1; omega, by have := h.2.1; omega⟩⟩)
      go_wp2_with (go_at_call 47; refine (within4_any (n : Int) 1 20 _).mono ?_; rintro r w' ⟨rfl, rfl⟩; rw [HI.out])
      go_ret
      exact ⟨rfl, hB⟩

set_option maxRecDepth 100000 in
set_option maxHeartbeats 1600000 in
theorem joined_any (A : Option Addr) (n c : Nat) (R : Nat → Rly) (w : World) (hA : Rl w A n R) (hV : VW R n) :
    Calls Try.prog 64 #[.slice A n c] w fun e w' => e = .returned (.agg #[.int .i64 (lagS R n), .int .i64 (sprS R n)]) ∧ Bl w w' := by
  have HA := Lib.hid hA
  have HV := Lib.hid hV
  have n1 := hV.1
  have n20 := hV.2.1
  clear hA hV
  go_enter Try.func64, Try.ntmps64
  go_wp2_with fail
  obtain ⟨V, hV⟩ : ∃ V, V = (w.alloc (.cells #[.int .i64 0, .int .i64 0] 68)).alloc (.cells #[.int .i64 0, .int .i64 0] 68) := ⟨_, rfl⟩
  have BV : Bl w V := by rw [hV]; go_grown
  have u0 : V.cell? ⟨w.heap.size, 0, none⟩ = some (.int .i64 0) := by rw [hV]; go_cell
  have u1 : V.cell? ⟨w.heap.size, 1, none⟩ = some (.int .i64 0) := by rw [hV]; go_cell
  have u2 : V.cell? ⟨w.heap.size + 1, 0, none⟩ = some (.int .i64 0) := by rw [hV]; go_cell
  have u3 : V.cell? ⟨w.heap.size + 1, 1, none⟩ = some (.int .i64 0) := by rw [hV]; go_cell
  have g0 : V.frozen? ⟨w.heap.size, 0, none⟩ = false := by rw [hV]; (try simp only [frozen?_alloc_cells, World.frozen?_setCell]); first | assumption | exact fz_new (by (try simp only [World.size_alloc, World.size_setCell]); omega)
  have g1 : V.frozen? ⟨w.heap.size, 1, none⟩ = false := by rw [hV]; (try simp only [frozen?_alloc_cells, World.frozen?_setCell]); first | assumption | exact fz_new (by (try simp only [World.size_alloc, World.size_setCell]); omega)
  have g2 : V.frozen? ⟨w.heap.size + 1, 0, none⟩ = false := by rw [hV]; (try simp only [frozen?_alloc_cells, World.frozen?_setCell]); first | assumption | exact fz_new (by (try simp only [World.size_alloc, World.size_setCell]); omega)
  have g3 : V.frozen? ⟨w.heap.size + 1, 1, none⟩ = false := by rw [hV]; (try simp only [frozen?_alloc_cells, World.frozen?_setCell]); first | assumption | exact fz_new (by (try simp only [World.size_alloc, World.size_setCell]); omega)
  have lV := ltb u2
  rw [← hV]
  clear hV
  go_loopw [8] (fun i wr => ∃ k : Nat, k ≤ n ∧ i = .int .i64 k ∧ wr.cell? ⟨w.heap.size, 0, none⟩ = some (.int .i64 0) ∧ wr.cell? ⟨w.heap.size, 1, none⟩ = some (.int .i64 0) ∧ wr.cell? ⟨w.heap.size + 1, 0, none⟩ = some (.int .i64 (lagS R k)) ∧ wr.cell? ⟨w.heap.size + 1, 1, none⟩ = some (.int .i64 (sprS R k)) ∧ (wr.frozen? ⟨w.heap.size, 0, none⟩ = false ∧ wr.frozen? ⟨w.heap.size, 1, none⟩ = false ∧ wr.frozen? ⟨w.heap.size + 1, 0, none⟩ = false ∧ wr.frozen? ⟨w.heap.size + 1, 1, none⟩ = false) ∧ Bl w wr) (fun i _ => n - (RowKit.intOf i).toNat)
  case atStart => exact ⟨0, Nat.zero_le _, rfl, u0, u1, u2, u3, ⟨g0, g1, g2, g3⟩, BV⟩
  case round =>
    obtain ⟨k, hk, rfl, v0, v1, v2, v3, ⟨f0, f1, f2, f3⟩, hB⟩ := hrel
    have zB := hB.size
    clear u0 u1 u2 u3 g0 g1 g2 g3 lV BV
    have lv := ltb v2
    have lv0 := ltb v0
    obtain ⟨d1, d2, d3⟩ := wire_bd HV.out hk
    by_cases hlt : k < n
    · obtain ⟨b, off, rfl, hbb, hc⟩ := (HA.out.below hB) (by omega)
      obtain ⟨c0, c1⟩ := hc k hlt
      clear hc
      obtain ⟨y, hy⟩ : ∃ y, y = R k := ⟨_, rfl⟩
      rw [← hy] at c0 c1
      have hr := HV.out.2.2 k hlt
      rw [← hy] at hr
      obtain ⟨r1, r2, r3, r4⟩ := hr
      obtain ⟨L, hL⟩ : ∃ L, L = lagS R k := ⟨_, rfl⟩
      obtain ⟨S, hS⟩ : ∃ S, S = sprS R k := ⟨_, rfl⟩
      have HL := Lib.hid (show lagS R (k + 1) = L + y.lag by rw [lagS, ← hL, ← hy])
      have HS := Lib.hid (show sprS R (k + 1) = S + y.spr by rw [sprS, ← hS, ← hy])
      rw [← hL] at v2 d2 d3
      rw [← hS] at v3 d1 d2
      clear hL hS hy
      go_wp2_with fail
      go_roundw
      case rel => exact ⟨k + 1, by omega, by go_num, (World.cell?_alloc_lt _ _ _ (by simpa using lv0)).trans (two_far (by omega) v0 _ _), (World.cell?_alloc_lt _ _ _ (by simpa using lv0)).trans (two_far (by omega) v1 _ _), by rw [HL.out]; exact (World.cell?_alloc_lt _ _ _ (by simpa using lv)).trans (two_put v2 v3 _ _).1, by rw [HS.out]; exact (World.cell?_alloc_lt _ _ _ (by simpa using lv)).trans (two_put v2 v3 _ _).2, ⟨by (try simp only [frozen?_alloc_cells, World.frozen?_setCell]); exact f0, by (try simp only [frozen?_alloc_cells, World.frozen?_setCell]); exact f1, by (try simp only [frozen?_alloc_cells, World.frozen?_setCell]); exact f2, by (try simp only [frozen?_alloc_cells, World.frozen?_setCell]); exact f3⟩, by go_grown⟩
      case measure => simp [RowKit.intOf]; omega
    · obtain rfl : n = k := by omega
      go_wp2_with fail
      exact bodyPost_ret (v := .agg #[.int .i64 (lagS R n), .int .i64 (sprS R n)]) (by simp [results, Try.results64, go_sem, v0, v1, f0, f1]) rfl ⟨rfl, by go_grown⟩

set_option maxRecDepth 100000 in
set_option maxHeartbeats 1600000 in
theorem sums_any (A : Option Addr) (n c : Nat) (R : Nat → Rly) (w : World) (hA : Rl w A n R) (hV : VW R n) :
    Calls Try.prog 65 #[.slice A n c] w fun e w' => e = .returned (.tuple #[.int .i64 (lagS R n), .int .i64 (sprS R n)]) ∧ Bl w w' := by
  have HA := Lib.hid hA
  have HV := Lib.hid hV
  have n1 := hV.1
  have n20 := hV.2.1
  clear hA hV
  go_enter Try.func65, Try.ntmps65
  go_wp2_with fail
  go_loopw [2, 3, 8] (fun x y i wr => ∃ k : Nat, k ≤ n ∧ i = .int .i64 k ∧ x = .int .i64 (lagS R k) ∧ y = .int .i64 (sprS R k) ∧ Bl w wr) (fun _ _ i _ => n - (RowKit.intOf i).toNat)
  case atStart => exact ⟨0, Nat.zero_le _, rfl, rfl, rfl, Bl.rf _⟩
  case round =>
    obtain ⟨k, hk, rfl, rfl, rfl, hB⟩ := hrel
    have zB := hB.size
    obtain ⟨d1, d2, d3⟩ := wire_bd HV.out hk
    by_cases hlt : k < n
    · obtain ⟨b, off, rfl, hbb, hc⟩ := (HA.out.below hB) (by omega)
      obtain ⟨c0, c1⟩ := hc k hlt
      clear hc
      obtain ⟨y, hy⟩ : ∃ y, y = R k := ⟨_, rfl⟩
      rw [← hy] at c0 c1
      have hr := HV.out.2.2 k hlt
      rw [← hy] at hr
      obtain ⟨r1, r2, r3, r4⟩ := hr
      obtain ⟨L, hL⟩ : ∃ L, L = lagS R k := ⟨_, rfl⟩
      obtain ⟨S, hS⟩ : ∃ S, S = sprS R k := ⟨_, rfl⟩
      have HL := Lib.hid (show lagS R (k + 1) = L + y.lag by rw [lagS, ← hL, ← hy])
      have HS := Lib.hid (show sprS R (k + 1) = S + y.spr by rw [sprS, ← hS, ← hy])
      rw [← hL, ← hS]
      rw [← hL] at d2 d3
      rw [← hS] at d1 d2
      clear hL hS hy
      go_wp2_with fail
      go_quiet (fail)
      go_wp2_with fail
      go_roundw
      case rel => exact ⟨k + 1, by omega, by go_num, by rw [HL.out], by rw [HS.out], Bl.tr (by go_grown) (Bl.db _ _)⟩
      case measure => simp [RowKit.intOf]; omega
    · obtain rfl : n = k := by omega
      go_wp2_with fail
      go_ret2
      exact ⟨rfl, hB⟩
set_option maxRecDepth 100000 in
set_option maxHeartbeats 1600000 in
theorem lag_any (A : Option Addr) (n c : Nat) (R : Nat → Rly) (w : World) (hA : Rl w A n R) (hn : n ≤ maxLen) :
    Calls Try.prog 32 #[.slice A n c] w fun e w' => e = .returned (.tuple #[.agg #[.int .i64 (lagR R n).1, .int .i64 (lagR R n).2.1], .int .i64 (lagR R n).2.2]) ∧ Bl w w' := by
  have HA := Lib.hid hA
  have HN := Lib.hid hn
  clear hA hn
  by_cases hv : VW R n
  · have HV := Lib.hid hv
    have Q := Lib.hid (show decide (VW R n) = true from decide_eq_true hv)
    obtain ⟨d1, d2, d3⟩ := wire_bd hv (Nat.le_refl n)
    have HS := Lib.hid (show lagR R n = (lagS R n - sprS R n, lagS R n + sprS R n, 0) by unfold lagR; rw [if_pos hv])
    clear hv
    go_enter Try.func32, Try.ntmps32
    go_wp2_with fail
    refine (vw_any A n c R _ (HA.out.below (by go_grown)) HN.out).mono ?_
    rintro q1 w1 ⟨rfl, hb⟩
    have c0 := kcb hb (b := w.heap.size) (o := 0) (v := .int .i64 0) (by go_cell)
    have c1 := kcb hb (b := w.heap.size) (o := 1) (v := .int .i64 0) (by go_cell)
    have z0 := fzb hb (b := w.heap.size) (o := 0) (by (try simp only [frozen?_alloc_cells, World.frozen?_setCell]); first | assumption | exact fz_new (by (try simp only [World.size_alloc, World.size_setCell]); omega)) (by (try simp only [World.size_alloc, World.size_setCell]); omega)
    have z1 := fzb hb (b := w.heap.size) (o := 1) (by (try simp only [frozen?_alloc_cells, World.frozen?_setCell]); first | assumption | exact fz_new (by (try simp only [World.size_alloc, World.size_setCell]); omega)) (by (try simp only [World.size_alloc, World.size_setCell]); omega)
    have B1 : Bl w w1 := Below.trans (by go_grown) (hb.mono (by (try simp only [World.size_alloc, World.size_setCell]); omega))
    have l1 := ltb c1
    have zz1 := B1.size
    clear hb
    rw [Q.out]
    go_wp2_with fail
    refine (joined_any A n c R _ (HA.out.below (by go_grown)) HV.out).mono ?_
    rintro q2 w2 ⟨rfl, hb⟩
    have c0 := kcb hb (b := w.heap.size) (o := 0) (v := .int .i64 0) (by go_cell)
    have c1 := kcb hb (b := w.heap.size) (o := 1) (v := .int .i64 0) (by go_cell)
    have z0 := fzb hb (b := w.heap.size) (o := 0) (by (try simp only [frozen?_alloc_cells, World.frozen?_setCell]); first | assumption | exact fz_new (by (try simp only [World.size_alloc, World.size_setCell]); omega)) (by (try simp only [World.size_alloc, World.size_setCell]); omega)
    have z1 := fzb hb (b := w.heap.size) (o := 1) (by (try simp only [frozen?_alloc_cells, World.frozen?_setCell]); first | assumption | exact fz_new (by (try simp only [World.size_alloc, World.size_setCell]); omega)) (by (try simp only [World.size_alloc, World.size_setCell]); omega)
    have B2 : Bl w w2 := Below.trans (by go_grown) (hb.mono (by (try simp only [World.size_alloc, World.size_setCell]); omega))
    have l2 := ltb c1
    have zz2 := B2.size
    clear hb
    go_wp2_with fail
    exact bodyPost_ret (v := .tuple #[.agg #[.int .i64 (lagS R n - sprS R n), .int .i64 (lagS R n + sprS R n)], .int .i64 (0)]) (by simp [results, Try.results32, go_sem, c0, c1, z0, z1, l2]) rfl ⟨by rw [HS.out], by go_grown⟩
  · have Q := Lib.hid (show decide (VW R n) = false from decide_eq_false hv)
    have HS := Lib.hid (show lagR R n = (0, 0, 1) by unfold lagR; rw [if_neg hv])
    clear hv
    go_enter Try.func32, Try.ntmps32
    go_wp2_with fail
    refine (vw_any A n c R _ (HA.out.below (by go_grown)) HN.out).mono ?_
    rintro q1 w1 ⟨rfl, hb⟩
    have c0 := kcb hb (b := w.heap.size) (o := 0) (v := .int .i64 0) (by go_cell)
    have c1 := kcb hb (b := w.heap.size) (o := 1) (v := .int .i64 0) (by go_cell)
    have z0 := fzb hb (b := w.heap.size) (o := 0) (by (try simp only [frozen?_alloc_cells, World.frozen?_setCell]); first | assumption | exact fz_new (by (try simp only [World.size_alloc, World.size_setCell]); omega)) (by (try simp only [World.size_alloc, World.size_setCell]); omega)
    have z1 := fzb hb (b := w.heap.size) (o := 1) (by (try simp only [frozen?_alloc_cells, World.frozen?_setCell]); first | assumption | exact fz_new (by (try simp only [World.size_alloc, World.size_setCell]); omega)) (by (try simp only [World.size_alloc, World.size_setCell]); omega)
    have B1 : Bl w w1 := Below.trans (by go_grown) (hb.mono (by (try simp only [World.size_alloc, World.size_setCell]); omega))
    have l1 := ltb c1
    have zz1 := B1.size
    clear hb
    rw [Q.out]
    go_wp2_with fail
    exact bodyPost_ret (v := .tuple #[.agg #[.int .i64 (0), .int .i64 (0)], .int .i64 (1)]) (by simp [results, Try.results32, go_sem, c0, c1, z0, z1, l1]) rfl ⟨by rw [HS.out], by go_grown⟩
set_option maxRecDepth 100000 in
set_option maxHeartbeats 1600000 in
theorem send_any (A : Option Addr) (n c : Nat) (R : Nat → Rly) (x : Int) (w : World) (hA : Rl w A n R) (hn : n ≤ maxLen) :
    Calls Try.prog 34 #[.slice A n c, .int .i64 x] w fun e w' => e = .returned (.tuple #[.int .i64 (sendR R n x).1, .int .i64 (sendR R n x).2]) ∧ Bl w w' := by
  have HA := Lib.hid hA
  have HN := Lib.hid hn
  clear hA hn
  by_cases hv : VW R n
  · have HV := Lib.hid hv
    have Q := Lib.hid (show decide (VW R n) = true from decide_eq_true hv)
    obtain ⟨d1, d2, d3⟩ := wire_bd hv (Nat.le_refl n)
    have F0 := field0 (lagS R n) (sprS R n)
    by_cases q : isT x
    · have T := Lib.hid (show decide (isT x) = true from decide_eq_true (by simp only [isT] at q ⊢; omega))
      have q0 := q.1
      have q1 := q.2
      by_cases r : x < lagS R n
      · have HS := Lib.hid (show sendR R n x = (0, 8) by unfold sendR; rw [if_pos hv, if_pos q, if_pos r])
        clear hv q
        go_enter Try.func34, Try.ntmps34
        go_wp2_with fail
        refine (vw_any A n c R _ (HA.out.below (by go_grown)) HN.out).mono ?_
        rintro q1 w1 ⟨rfl, hb⟩
        have B1 : Bl w w1 := Below.trans (by go_grown) (hb.mono (by (try simp only [World.size_alloc, World.size_setCell]); omega))
        have zz1 := B1.size
        clear hb
        rw [Q.out]
        go_wp2_with fail
        refine (isTime_any x _).mono ?_
        rintro q9 w9 ⟨rfl, rfl⟩
        rw [T.out]
        go_wp2_with fail
        refine (joined_any A n c R _ (HA.out.below (by go_grown)) HV.out).mono ?_
        rintro q2 w2 ⟨rfl, hb⟩
        have B2 : Bl w w2 := Below.trans (by go_grown) (hb.mono (by (try simp only [World.size_alloc, World.size_setCell]); omega))
        have zz2 := B2.size
        clear hb
        go_wp2_with fail
        go_ret2
        exact ⟨by rw [HS.out]; rfl, by go_grown⟩
      · have HS := Lib.hid (show sendR R n x = (x - lagS R n, 0) by unfold sendR; rw [if_pos hv, if_pos q, if_neg r])
        clear hv q
        go_enter Try.func34, Try.ntmps34
        go_wp2_with fail
        refine (vw_any A n c R _ (HA.out.below (by go_grown)) HN.out).mono ?_
        rintro q1 w1 ⟨rfl, hb⟩
        have B1 : Bl w w1 := Below.trans (by go_grown) (hb.mono (by (try simp only [World.size_alloc, World.size_setCell]); omega))
        have zz1 := B1.size
        clear hb
        rw [Q.out]
        go_wp2_with fail
        refine (isTime_any x _).mono ?_
        rintro q9 w9 ⟨rfl, rfl⟩
        rw [T.out]
        go_wp2_with fail
        refine (joined_any A n c R _ (HA.out.below (by go_grown)) HV.out).mono ?_
        rintro q2 w2 ⟨rfl, hb⟩
        have B2 : Bl w w2 := Below.trans (by go_grown) (hb.mono (by (try simp only [World.size_alloc, World.size_setCell]); omega))
        have zz2 := B2.size
        clear hb
        go_wp2_with fail
        go_ret2
        exact ⟨by rw [HS.out]; rfl, by go_grown⟩
    · have T := Lib.hid (show decide (isT x) = false from decide_eq_false (q))
      have HS := Lib.hid (show sendR R n x = (0, 7) by unfold sendR; rw [if_pos hv, if_neg q])
      clear hv q
      go_enter Try.func34, Try.ntmps34
      go_wp2_with fail
      refine (vw_any A n c R _ (HA.out.below (by go_grown)) HN.out).mono ?_
      rintro q1 w1 ⟨rfl, hb⟩
      have B1 : Bl w w1 := Below.trans (by go_grown) (hb.mono (by (try simp only [World.size_alloc, World.size_setCell]); omega))
      have zz1 := B1.size
      clear hb
      rw [Q.out]
      go_wp2_with fail
      refine (isTime_any x _).mono ?_
      rintro q9 w9 ⟨rfl, rfl⟩
      rw [T.out]
      go_wp2_with fail
      go_ret2
      exact ⟨by rw [HS.out]; rfl, by go_grown⟩
  · have Q := Lib.hid (show decide (VW R n) = false from decide_eq_false hv)
    have HS := Lib.hid (show sendR R n x = (0, 1) by unfold sendR; rw [if_neg hv])
    clear hv
    go_enter Try.func34, Try.ntmps34
    go_wp2_with fail
    refine (vw_any A n c R _ (HA.out.below (by go_grown)) HN.out).mono ?_
    rintro q1 w1 ⟨rfl, hb⟩
    have B1 : Bl w w1 := Below.trans (by go_grown) (hb.mono (by (try simp only [World.size_alloc, World.size_setCell]); omega))
    have zz1 := B1.size
    clear hb
    rw [Q.out]
    go_wp2_with fail
    go_ret2
    exact ⟨by rw [HS.out]; rfl, by go_grown⟩
set_option maxRecDepth 100000 in
set_option maxHeartbeats 1600000 in
theorem rsend_any (A : Option Addr) (n c : Nat) (R : Nat → Rly) (x : Int) (w : World) (hA : Rl w A n R) (hn : n ≤ maxLen) :
    Calls Try.prog 35 #[.slice A n c, .int .i64 x] w fun e w' => e = .returned (.tuple #[.int .i64 (sendR R n x).1, .int .i64 (sendR R n x).2]) ∧ Bl w w' := by
  have HA := Lib.hid hA
  have HN := Lib.hid hn
  clear hA hn
  by_cases hv : VW R n
  · have HV := Lib.hid hv
    have Q := Lib.hid (show decide (VW R n) = true from decide_eq_true hv)
    obtain ⟨d1, d2, d3⟩ := wire_bd hv (Nat.le_refl n)
    by_cases q : isT x
    · have T := Lib.hid (show decide (0 ≤ x ∧ x ≤ 86399999) = true from decide_eq_true (by simp only [isT] at q ⊢; omega))
      have q0 := q.1
      have q1 := q.2
      by_cases r : x < lagS R n
      · have HS := Lib.hid (show sendR R n x = (0, 8) by unfold sendR; rw [if_pos hv, if_pos q, if_pos r])
        clear hv q
        go_enter Try.func35, Try.ntmps35
        go_wp2_with fail
        refine (rvw_any A n c R _ (HA.out.below (by go_grown)) HN.out).mono ?_
        rintro q1 w1 ⟨rfl, hb⟩
        have B1 : Bl w w1 := Below.trans (by go_grown) (hb.mono (by (try simp only [World.size_alloc, World.size_setCell]); omega))
        have zz1 := B1.size
        clear hb
        rw [Q.out]
        go_wp2_with fail
        refine (within4_any x 0 86399999 _).mono ?_
        rintro q9 w9 ⟨rfl, rfl⟩
        rw [T.out]
        go_wp2_with fail
        refine (sums_any A n c R _ (HA.out.below (by go_grown)) HV.out).mono ?_
        rintro q2 w2 ⟨rfl, hb⟩
        have B2 : Bl w w2 := Below.trans (by go_grown) (hb.mono (by (try simp only [World.size_alloc, World.size_setCell]); omega))
        have zz2 := B2.size
        clear hb
        go_wp2_with fail
        go_ret2
        exact ⟨by rw [HS.out]; rfl, by go_grown⟩
      · have HS := Lib.hid (show sendR R n x = (x - lagS R n, 0) by unfold sendR; rw [if_pos hv, if_pos q, if_neg r])
        clear hv q
        go_enter Try.func35, Try.ntmps35
        go_wp2_with fail
        refine (rvw_any A n c R _ (HA.out.below (by go_grown)) HN.out).mono ?_
        rintro q1 w1 ⟨rfl, hb⟩
        have B1 : Bl w w1 := Below.trans (by go_grown) (hb.mono (by (try simp only [World.size_alloc, World.size_setCell]); omega))
        have zz1 := B1.size
        clear hb
        rw [Q.out]
        go_wp2_with fail
        refine (within4_any x 0 86399999 _).mono ?_
        rintro q9 w9 ⟨rfl, rfl⟩
        rw [T.out]
        go_wp2_with fail
        refine (sums_any A n c R _ (HA.out.below (by go_grown)) HV.out).mono ?_
        rintro q2 w2 ⟨rfl, hb⟩
        have B2 : Bl w w2 := Below.trans (by go_grown) (hb.mono (by (try simp only [World.size_alloc, World.size_setCell]); omega))
        have zz2 := B2.size
        clear hb
        go_wp2_with fail
        go_ret2
        exact ⟨by rw [HS.out]; rfl, by go_grown⟩
    · have T := Lib.hid (show decide (0 ≤ x ∧ x ≤ 86399999) = false from decide_eq_false (by simp only [isT] at q; omega))
      have HS := Lib.hid (show sendR R n x = (0, 7) by unfold sendR; rw [if_pos hv, if_neg q])
      clear hv q
      go_enter Try.func35, Try.ntmps35
      go_wp2_with fail
      refine (rvw_any A n c R _ (HA.out.below (by go_grown)) HN.out).mono ?_
      rintro q1 w1 ⟨rfl, hb⟩
      have B1 : Bl w w1 := Below.trans (by go_grown) (hb.mono (by (try simp only [World.size_alloc, World.size_setCell]); omega))
      have zz1 := B1.size
      clear hb
      rw [Q.out]
      go_wp2_with fail
      refine (within4_any x 0 86399999 _).mono ?_
      rintro q9 w9 ⟨rfl, rfl⟩
      rw [T.out]
      go_wp2_with fail
      go_ret2
      exact ⟨by rw [HS.out]; rfl, by go_grown⟩
  · have Q := Lib.hid (show decide (VW R n) = false from decide_eq_false hv)
    have HS := Lib.hid (show sendR R n x = (0, 1) by unfold sendR; rw [if_neg hv])
    clear hv
    go_enter Try.func35, Try.ntmps35
    go_wp2_with fail
    refine (rvw_any A n c R _ (HA.out.below (by go_grown)) HN.out).mono ?_
    rintro q1 w1 ⟨rfl, hb⟩
    have B1 : Bl w w1 := Below.trans (by go_grown) (hb.mono (by (try simp only [World.size_alloc, World.size_setCell]); omega))
    have zz1 := B1.size
    clear hb
    rw [Q.out]
    go_wp2_with fail
    go_ret2
    exact ⟨by rw [HS.out]; rfl, by go_grown⟩
set_option maxRecDepth 100000 in
set_option maxHeartbeats 1600000 in
theorem rfalls_any (A : Option Addr) (n c : Nat) (R : Nat → Rly) (x : Int) (w : World) (hA : Rl w A n R) (hn : n ≤ maxLen) :
    Calls Try.prog 37 #[.slice A n c, .int .i64 x] w fun e w' => e = .returned (.tuple #[.agg #[.int .i64 (falR R n x).1, .int .i64 (falR R n x).2.1], .int .i64 (falR R n x).2.2]) ∧ Bl w w' := by
  have HA := Lib.hid hA
  have HN := Lib.hid hn
  clear hA hn
  by_cases hv : VW R n
  · have HV := Lib.hid hv
    have Q := Lib.hid (show decide (VW R n) = true from decide_eq_true hv)
    obtain ⟨d1, d2, d3⟩ := wire_bd hv (Nat.le_refl n)
    by_cases q : isT x
    · have T := Lib.hid (show decide (0 ≤ x ∧ x ≤ 86399999) = true from decide_eq_true (by simp only [isT] at q ⊢; omega))
      have q0 := q.1
      have q1 := q.2
      have HS := Lib.hid (show falR R n x = (x + lagS R n - sprS R n, x + lagS R n + sprS R n, 0) by unfold falR; rw [if_pos hv, if_pos q])
      clear hv q
      go_enter Try.func37, Try.ntmps37
      go_wp2_with fail
      refine (rvw_any A n c R _ (HA.out.below (by go_grown)) HN.out).mono ?_
      rintro q1 w1 ⟨rfl, hb⟩
      have c0 := kcb hb (b := w.heap.size) (o := 0) (v := .int .i64 0) (by go_cell)
      have c1 := kcb hb (b := w.heap.size) (o := 1) (v := .int .i64 0) (by go_cell)
      have z0 := fzb hb (b := w.heap.size) (o := 0) (by (try simp only [frozen?_alloc_cells, World.frozen?_setCell]); first | assumption | exact fz_new (by (try simp only [World.size_alloc, World.size_setCell]); omega)) (by (try simp only [World.size_alloc, World.size_setCell]); omega)
      have z1 := fzb hb (b := w.heap.size) (o := 1) (by (try simp only [frozen?_alloc_cells, World.frozen?_setCell]); first | assumption | exact fz_new (by (try simp only [World.size_alloc, World.size_setCell]); omega)) (by (try simp only [World.size_alloc, World.size_setCell]); omega)
      have B1 : Bl w w1 := Below.trans (by go_grown) (hb.mono (by (try simp only [World.size_alloc, World.size_setCell]); omega))
      have l1 := ltb c1
      have zz1 := B1.size
      clear hb
      rw [Q.out]
      go_wp2_with fail
      refine (within4_any x 0 86399999 _).mono ?_
      rintro q9 w9 ⟨rfl, rfl⟩
      rw [T.out]
      go_wp2_with fail
      refine (sums_any A n c R _ (HA.out.below (by go_grown)) HV.out).mono ?_
      rintro q2 w2 ⟨rfl, hb⟩
      have c0 := kcb hb (b := w.heap.size) (o := 0) (v := .int .i64 0) (by go_cell)
      have c1 := kcb hb (b := w.heap.size) (o := 1) (v := .int .i64 0) (by go_cell)
      have z0 := fzb hb (b := w.heap.size) (o := 0) (by (try simp only [frozen?_alloc_cells, World.frozen?_setCell]); first | assumption | exact fz_new (by (try simp only [World.size_alloc, World.size_setCell]); omega)) (by (try simp only [World.size_alloc, World.size_setCell]); omega)
      have z1 := fzb hb (b := w.heap.size) (o := 1) (by (try simp only [frozen?_alloc_cells, World.frozen?_setCell]); first | assumption | exact fz_new (by (try simp only [World.size_alloc, World.size_setCell]); omega)) (by (try simp only [World.size_alloc, World.size_setCell]); omega)
      have B2 : Bl w w2 := Below.trans (by go_grown) (hb.mono (by (try simp only [World.size_alloc, World.size_setCell]); omega))
      have l2 := ltb c1
      have zz2 := B2.size
      clear hb
      go_wp2_with fail
      exact bodyPost_ret (v := .tuple #[.agg #[.int .i64 (x + lagS R n - sprS R n), .int .i64 (x + lagS R n + sprS R n)], .int .i64 (0)]) (by simp [results, Try.results37, go_sem, c0, c1, z0, z1, l2]) rfl ⟨by rw [HS.out], by go_grown⟩
    · have T := Lib.hid (show decide (0 ≤ x ∧ x ≤ 86399999) = false from decide_eq_false (by simp only [isT] at q; omega))
      have HS := Lib.hid (show falR R n x = (0, 0, 7) by unfold falR; rw [if_pos hv, if_neg q])
      clear hv q
      go_enter Try.func37, Try.ntmps37
      go_wp2_with fail
      refine (rvw_any A n c R _ (HA.out.below (by go_grown)) HN.out).mono ?_
      rintro q1 w1 ⟨rfl, hb⟩
      have c0 := kcb hb (b := w.heap.size) (o := 0) (v := .int .i64 0) (by go_cell)
      have c1 := kcb hb (b := w.heap.size) (o := 1) (v := .int .i64 0) (by go_cell)
      have z0 := fzb hb (b := w.heap.size) (o := 0) (by (try simp only [frozen?_alloc_cells, World.frozen?_setCell]); first | assumption | exact fz_new (by (try simp only [World.size_alloc, World.size_setCell]); omega)) (by (try simp only [World.size_alloc, World.size_setCell]); omega)
      have z1 := fzb hb (b := w.heap.size) (o := 1) (by (try simp only [frozen?_alloc_cells, World.frozen?_setCell]); first | assumption | exact fz_new (by (try simp only [World.size_alloc, World.size_setCell]); omega)) (by (try simp only [World.size_alloc, World.size_setCell]); omega)
      have B1 : Bl w w1 := Below.trans (by go_grown) (hb.mono (by (try simp only [World.size_alloc, World.size_setCell]); omega))
      have l1 := ltb c1
      have zz1 := B1.size
      clear hb
      rw [Q.out]
      go_wp2_with fail
      refine (within4_any x 0 86399999 _).mono ?_
      rintro q9 w9 ⟨rfl, rfl⟩
      rw [T.out]
      go_wp2_with fail
      exact bodyPost_ret (v := .tuple #[.agg #[.int .i64 (0), .int .i64 (0)], .int .i64 (7)]) (by simp [results, Try.results37, go_sem, c0, c1, z0, z1, l1]) rfl ⟨by rw [HS.out], by go_grown⟩
  · have Q := Lib.hid (show decide (VW R n) = false from decide_eq_false hv)
    have HS := Lib.hid (show falR R n x = (0, 0, 1) by unfold falR; rw [if_neg hv])
    clear hv
    go_enter Try.func37, Try.ntmps37
    go_wp2_with fail
    refine (rvw_any A n c R _ (HA.out.below (by go_grown)) HN.out).mono ?_
    rintro q1 w1 ⟨rfl, hb⟩
    have c0 := kcb hb (b := w.heap.size) (o := 0) (v := .int .i64 0) (by go_cell)
    have c1 := kcb hb (b := w.heap.size) (o := 1) (v := .int .i64 0) (by go_cell)
    have z0 := fzb hb (b := w.heap.size) (o := 0) (by (try simp only [frozen?_alloc_cells, World.frozen?_setCell]); first | assumption | exact fz_new (by (try simp only [World.size_alloc, World.size_setCell]); omega)) (by (try simp only [World.size_alloc, World.size_setCell]); omega)
    have z1 := fzb hb (b := w.heap.size) (o := 1) (by (try simp only [frozen?_alloc_cells, World.frozen?_setCell]); first | assumption | exact fz_new (by (try simp only [World.size_alloc, World.size_setCell]); omega)) (by (try simp only [World.size_alloc, World.size_setCell]); omega)
    have B1 : Bl w w1 := Below.trans (by go_grown) (hb.mono (by (try simp only [World.size_alloc, World.size_setCell]); omega))
    have l1 := ltb c1
    have zz1 := B1.size
    clear hb
    rw [Q.out]
    go_wp2_with fail
    exact bodyPost_ret (v := .tuple #[.agg #[.int .i64 (0), .int .i64 (0)], .int .i64 (1)]) (by simp [results, Try.results37, go_sem, c0, c1, z0, z1, l1]) rfl ⟨by rw [HS.out], by go_grown⟩
set_option maxHeartbeats 1600000 in
theorem rlag_any (A : Option Addr) (n c : Nat) (R : Nat → Rly) (w : World) (hA : Rl w A n R) (hn : n ≤ maxLen) :
    Calls Try.prog 33 #[.slice A n c] w fun e w' => e = .returned (.tuple #[.agg #[.int .i64 (lagR R n).1, .int .i64 (lagR R n).2.1], .int .i64 (lagR R n).2.2]) ∧ Bl w w' := by
  have HA := Lib.hid hA
  clear hA
  obtain ⟨a, b, e, he⟩ : ∃ a b e, lagR R n = (a, b, e) := ⟨_, _, _, rfl⟩
  have HF := Lib.hid (show falR R n 0 = (a, b, e) by rw [fal_zero, he])
  have HS := Lib.hid he
  clear he
  go_enter Try.func33, Try.ntmps33
  go_wp2_with fail
  refine (rfalls_any A n c R 0 _ (HA.out.below (by go_grown)) hn).mono ?_
  rintro q1 w1 ⟨rfl, hb⟩
  have c0 := kcb hb (b := w.heap.size) (o := 0) (v := .int .i64 0) (by go_cell)
  have c1 := kcb hb (b := w.heap.size) (o := 1) (v := .int .i64 0) (by go_cell)
  have z0 := fzb hb (b := w.heap.size) (o := 0) (by (try simp only [frozen?_alloc_cells, World.frozen?_setCell]); first | assumption | exact fz_new (by (try simp only [World.size_alloc, World.size_setCell]); omega)) (by (try simp only [World.size_alloc, World.size_setCell]); omega)
  have z1 := fzb hb (b := w.heap.size) (o := 1) (by (try simp only [frozen?_alloc_cells, World.frozen?_setCell]); first | assumption | exact fz_new (by (try simp only [World.size_alloc, World.size_setCell]); omega)) (by (try simp only [World.size_alloc, World.size_setCell]); omega)
  have B1 : Bl w w1 := Below.trans (by go_grown) (hb.mono (by (try simp only [World.size_alloc, World.size_setCell]); omega))
  have l1 := ltb c1
  have zz1 := B1.size
  clear hb
  rw [HF.out]
  go_wp2_with fail
  exact bodyPost_ret (v := .tuple #[.agg #[.int .i64 (a), .int .i64 (b)], .int .i64 (e)]) (by simp [results, Try.results33, go_sem, c0, c1, z0, z1, l1]) rfl ⟨by rw [HS.out], by go_grown⟩
set_option maxRecDepth 100000 in
set_option maxHeartbeats 1600000 in
theorem falls_any (A : Option Addr) (n c : Nat) (R : Nat → Rly) (x : Int) (w : World) (hA : Rl w A n R) (hn : n ≤ maxLen) :
    Calls Try.prog 36 #[.slice A n c, .int .i64 x] w fun e w' => e = .returned (.tuple #[.agg #[.int .i64 (falR R n x).1, .int .i64 (falR R n x).2.1], .int .i64 (falR R n x).2.2]) ∧ Bl w w' := by
  have HA := Lib.hid hA
  have HN := Lib.hid hn
  clear hA hn
  by_cases hv : VW R n
  · have HL := Lib.hid (show lagR R n = (lagS R n - sprS R n, lagS R n + sprS R n, 0) by unfold lagR; rw [if_pos hv])
    obtain ⟨d1, d2, d3⟩ := wire_bd hv (Nat.le_refl n)
    by_cases q : isT x
    · have T := Lib.hid (show decide (isT x) = true from decide_eq_true q)
      have q0 := q.1
      have q1 := q.2
      have HS := Lib.hid (show falR R n x = (x + (lagS R n - sprS R n), x + (lagS R n + sprS R n), 0) by unfold falR; rw [if_pos hv, if_pos q]; congr 1; omega; congr 1; omega)
      clear hv q
      go_enter Try.func36, Try.ntmps36
      go_wp2_with fail
      refine (lag_any A n c R _ (HA.out.below (by go_grown)) HN.out).mono ?_
      rintro q1 w1 ⟨rfl, hb⟩
      have c0 := kcb hb (b := w.heap.size) (o := 0) (v := .int .i64 0) (by go_cell)
      have c1 := kcb hb (b := w.heap.size) (o := 1) (v := .int .i64 0) (by go_cell)
      have z0 := fzb hb (b := w.heap.size) (o := 0) (by (try simp only [frozen?_alloc_cells, World.frozen?_setCell]); first | assumption | exact fz_new (by (try simp only [World.size_alloc, World.size_setCell]); omega)) (by (try simp only [World.size_alloc, World.size_setCell]); omega)
      have z1 := fzb hb (b := w.heap.size) (o := 1) (by (try simp only [frozen?_alloc_cells, World.frozen?_setCell]); first | assumption | exact fz_new (by (try simp only [World.size_alloc, World.size_setCell]); omega)) (by (try simp only [World.size_alloc, World.size_setCell]); omega)
      have B1 : Bl w w1 := Below.trans (by go_grown) (hb.mono (by (try simp only [World.size_alloc, World.size_setCell]); omega))
      have l1 := ltb c1
      have zz1 := B1.size
      clear hb
      rw [HL.out]
      go_wp2_with fail
      refine (isTime_any x _).mono ?_
      rintro q9 w9 ⟨rfl, rfl⟩
      rw [T.out]
      go_wp2_with fail
      exact bodyPost_ret (v := .tuple #[.agg #[.int .i64 (x + (lagS R n - sprS R n)), .int .i64 (x + (lagS R n + sprS R n))], .int .i64 (0)]) (by simp [results, Try.results36, go_sem, c0, c1, z0, z1, l1]) rfl ⟨by rw [HS.out], by go_grown⟩
    · have T := Lib.hid (show decide (isT x) = false from decide_eq_false q)
      have HS := Lib.hid (show falR R n x = (0, 0, 7) by unfold falR; rw [if_pos hv, if_neg q])
      clear hv q
      go_enter Try.func36, Try.ntmps36
      go_wp2_with fail
      refine (lag_any A n c R _ (HA.out.below (by go_grown)) HN.out).mono ?_
      rintro q1 w1 ⟨rfl, hb⟩
      have c0 := kcb hb (b := w.heap.size) (o := 0) (v := .int .i64 0) (by go_cell)
      have c1 := kcb hb (b := w.heap.size) (o := 1) (v := .int .i64 0) (by go_cell)
      have z0 := fzb hb (b := w.heap.size) (o := 0) (by (try simp only [frozen?_alloc_cells, World.frozen?_setCell]); first | assumption | exact fz_new (by (try simp only [World.size_alloc, World.size_setCell]); omega)) (by (try simp only [World.size_alloc, World.size_setCell]); omega)
      have z1 := fzb hb (b := w.heap.size) (o := 1) (by (try simp only [frozen?_alloc_cells, World.frozen?_setCell]); first | assumption | exact fz_new (by (try simp only [World.size_alloc, World.size_setCell]); omega)) (by (try simp only [World.size_alloc, World.size_setCell]); omega)
      have B1 : Bl w w1 := Below.trans (by go_grown) (hb.mono (by (try simp only [World.size_alloc, World.size_setCell]); omega))
      have l1 := ltb c1
      have zz1 := B1.size
      clear hb
      rw [HL.out]
      go_wp2_with fail
      refine (isTime_any x _).mono ?_
      rintro q9 w9 ⟨rfl, rfl⟩
      rw [T.out]
      go_wp2_with fail
      exact bodyPost_ret (v := .tuple #[.agg #[.int .i64 (0), .int .i64 (0)], .int .i64 (7)]) (by simp [results, Try.results36, go_sem, c0, c1, z0, z1, l1]) rfl ⟨by rw [HS.out], by go_grown⟩
  · have HL := Lib.hid (show lagR R n = (0, 0, 1) by unfold lagR; rw [if_neg hv])
    have HS := Lib.hid (show falR R n x = (0, 0, 1) by unfold falR; rw [if_neg hv])
    clear hv
    go_enter Try.func36, Try.ntmps36
    go_wp2_with fail
    refine (lag_any A n c R _ (HA.out.below (by go_grown)) HN.out).mono ?_
    rintro q1 w1 ⟨rfl, hb⟩
    have c0 := kcb hb (b := w.heap.size) (o := 0) (v := .int .i64 0) (by go_cell)
    have c1 := kcb hb (b := w.heap.size) (o := 1) (v := .int .i64 0) (by go_cell)
    have z0 := fzb hb (b := w.heap.size) (o := 0) (by (try simp only [frozen?_alloc_cells, World.frozen?_setCell]); first | assumption | exact fz_new (by (try simp only [World.size_alloc, World.size_setCell]); omega)) (by (try simp only [World.size_alloc, World.size_setCell]); omega)
    have z1 := fzb hb (b := w.heap.size) (o := 1) (by (try simp only [frozen?_alloc_cells, World.frozen?_setCell]); first | assumption | exact fz_new (by (try simp only [World.size_alloc, World.size_setCell]); omega)) (by (try simp only [World.size_alloc, World.size_setCell]); omega)
    have B1 : Bl w w1 := Below.trans (by go_grown) (hb.mono (by (try simp only [World.size_alloc, World.size_setCell]); omega))
    have l1 := ltb c1
    have zz1 := B1.size
    clear hb
    rw [HL.out]
    go_wp2_with fail
    exact bodyPost_ret (v := .tuple #[.agg #[.int .i64 (0), .int .i64 (0)], .int .i64 (1)]) (by simp [results, Try.results36, go_sem, c0, c1, z0, z1, l1]) rfl ⟨by rw [HS.out], by go_grown⟩
set_option maxRecDepth 100000 in
set_option maxHeartbeats 1600000 in
theorem sure_any (M : Mst) (A : Option Addr) (n c : Nat) (R : Nat → Rly) (w : World) (hA : Rl w A n R) (hn : n ≤ maxLen) :
    Calls Try.prog 40 #[encM M, .slice A n c] w fun e w' => e = .returned (.tuple #[.bool (sureR M R n).1, .int .i64 (sureR M R n).2]) ∧ Bl w w' := by
  have HA := Lib.hid hA
  have HN := Lib.hid hn
  clear hA hn
  by_cases hM : VM M
  · have QM := Lib.hid (show decide (VM M) = true from decide_eq_true hM)
    by_cases hv : VW R n
    · have HV := Lib.hid hv
      have Q := Lib.hid (show decide (VW R n) = true from decide_eq_true hv)
      have HS := Lib.hid (show sureR M R n = (decide (sprS R n ≤ M.la), 0) by unfold sureR; rw [if_pos ⟨hM, hv⟩])
      have F1 := field1 (lagS R n) (sprS R n)
      clear hM hv
      go_enter Try.func40, Try.ntmps40
      go_wp2_with fail
      refine (validMast_any M _).mono ?_
      rintro q1 w1 ⟨rfl, hb⟩
      have m0 := kcb hb (b := w.heap.size) (o := 0) (v := .int .i64 M.no) (by go_cell)
      have m1 := kcb hb (b := w.heap.size) (o := 1) (v := .int .i64 M.hf) (by go_cell)
      have m2 := kcb hb (b := w.heap.size) (o := 2) (v := .int .i64 M.fu) (by go_cell)
      have m3 := kcb hb (b := w.heap.size) (o := 3) (v := .int .i64 M.la) (by go_cell)
      have m4 := kcb hb (b := w.heap.size) (o := 4) (v := .int .i64 M.ag) (by go_cell)
      have m5 := kcb hb (b := w.heap.size) (o := 5) (v := .int .i64 M.wi) (by go_cell)
      have B1 : Bl w w1 := Below.trans (by go_grown) (hb.mono (by (try simp only [World.size_alloc, World.size_setCell]); omega))
      have l1 := ltb m5
      have zz1 := B1.size
      clear hb
      rw [QM.out]
      go_wp2_with fail
      refine (vw_any A n c R _ (HA.out.below (by go_grown)) HN.out).mono ?_
      rintro q2 w2 ⟨rfl, hb⟩
      have m0 := kcb hb (b := w.heap.size) (o := 0) (v := .int .i64 M.no) (by go_cell)
      have m1 := kcb hb (b := w.heap.size) (o := 1) (v := .int .i64 M.hf) (by go_cell)
      have m2 := kcb hb (b := w.heap.size) (o := 2) (v := .int .i64 M.fu) (by go_cell)
      have m3 := kcb hb (b := w.heap.size) (o := 3) (v := .int .i64 M.la) (by go_cell)
      have m4 := kcb hb (b := w.heap.size) (o := 4) (v := .int .i64 M.ag) (by go_cell)
      have m5 := kcb hb (b := w.heap.size) (o := 5) (v := .int .i64 M.wi) (by go_cell)
      have B2 : Bl w w2 := Below.trans (by go_grown) (hb.mono (by (try simp only [World.size_alloc, World.size_setCell]); omega))
      have l2 := ltb m5
      have zz2 := B2.size
      clear hb
      rw [Q.out]
      go_wp2_with fail
      refine wp_region_noPanic ?_
      refine wp_region_held_drew (S := fun w' => Bl w w' ∧ w'.cell? ⟨w.heap.size, 0, none⟩ = some (.int .i64 M.no) ∧ w'.cell? ⟨w.heap.size, 1, none⟩ = some (.int .i64 M.hf) ∧ w'.cell? ⟨w.heap.size, 2, none⟩ = some (.int .i64 M.fu) ∧ w'.cell? ⟨w.heap.size, 3, none⟩ = some (.int .i64 M.la) ∧ w'.cell? ⟨w.heap.size, 4, none⟩ = some (.int .i64 M.ag) ∧ w'.cell? ⟨w.heap.size, 5, none⟩ = some (.int .i64 M.wi)) (by kernel_rfl) (⟨B2.tr (Bl.d1 _), kcb (Bl.d1 _) m0, kcb (Bl.d1 _) m1, kcb (Bl.d1 _) m2, kcb (Bl.d1 _) m3, kcb (Bl.d1 _) m4, kcb (Bl.d1 _) m5⟩) (fun hH => ?_)
      refine wpAnyH_take (i := 0) (oi := ({ dst := some 14, op := Go.Op.move (Go.Operand.tmp 1), type := 49, pos := "wire.go:64", after := #[], guard := none } : Oper)) (v := ?_) rfl (by kernel_rfl) (by kernel_rfl) (by kernel_rfl) (fun _ _ _ h => h) (Or.inl ⟨by rfl, ?_⟩) hH ?_
      rotate_left
      · intro w hSw; (try dsimp only at hSw); go_simp; try with_reducible rfl
      try simp only [Act.put, List.setIfInBounds_toArray, List.set_cons_zero, List.set_cons_succ]
      refine wpAnyH_take (i := 3) (oi := ({ dst := some 17, op := Go.Op.fieldAddr 23 (Go.Operand.tmp 2) 3, type := 0, pos := "wire.go:64", after := #[], guard := none } : Oper)) (v := ?_) rfl (by kernel_rfl) (by kernel_rfl) (by kernel_rfl) (fun _ _ _ h => h) (Or.inl ⟨by rfl, ?_⟩) hH ?_
      rotate_left
      · intro w hSw; (try dsimp only at hSw); go_simp; try with_reducible rfl
      try simp only [Act.put, List.setIfInBounds_toArray, List.set_cons_zero, List.set_cons_succ]
      refine wpAnyH_take (i := 4) (oi := ({ dst := some 18, op := Go.Op.load 3 (Go.Operand.tmp 17), type := 3, pos := "wire.go:64", after := #[{ on := 3, ground := Go.Ground.data }], guard := none } : Oper)) (v := ?_) rfl (by kernel_rfl) (by kernel_rfl) (by kernel_rfl) (fun _ _ _ h => h) (Or.inl ⟨by rfl, ?_⟩) hH ?_
      rotate_left
      · intro w hSw; (try dsimp only at hSw); go_simp; try with_reducible rfl
      try simp only [Act.put, List.setIfInBounds_toArray, List.set_cons_zero, List.set_cons_succ]
      refine wpAnyH_ready (rs := [1]) (by kernel_rfl) (by simp) ?_
      refine AllReadyH.cons (o := ({ dst := some 15, op := Go.Op.call { callee := Go.Callee.value (Go.Operand.func 64), args := #[Go.Operand.tmp 14], argTypes := #[49] }, type := 68, pos := "wire.go:64", after := #[{ on := 0, ground := Go.Ground.data }], guard := none } : Oper)) rfl (fun K hK => ?_) AllReadyH.nil
      go_simp
      go_at_call 64
      refine (joined_any A n c R _ (HA.out.below hH.1) HV.out).mono ?_
      rintro e9 v5 ⟨rfl, hb⟩
      refine hK.out _ _ ⟨hH.1.tr hb, kcb hb hH.2.1, kcb hb hH.2.2.1, kcb hb hH.2.2.2.1, kcb hb hH.2.2.2.2.1, kcb hb hH.2.2.2.2.2.1, kcb hb hH.2.2.2.2.2.2⟩ (fun hH' => ?_)
      clear hH
      have hH := hH'
      clear hH' hK K
      try simp only [Act.put, List.setIfInBounds_toArray, List.set_cons_zero, List.set_cons_succ]
      refine wpAnyH_take (i := 2) (oi := ({ dst := some 16, op := Go.Op.field 68 (Go.Operand.tmp 15) 1, type := 3, pos := "wire.go:64", after := #[{ on := 1, ground := Go.Ground.data }], guard := none } : Oper)) (v := ?_) rfl (by kernel_rfl) (by kernel_rfl) (by kernel_rfl) (fun _ _ _ h => h) (Or.inl ⟨by rfl, ?_⟩) hH ?_
      rotate_left
      · intro w hSw; (try dsimp only at hSw); go_simp; try with_reducible rfl
      try simp only [Act.put, List.setIfInBounds_toArray, List.set_cons_zero, List.set_cons_succ]
      refine wpAnyH_take (i := 5) (oi := ({ dst := some 19, op := Go.Op.binOp Go.BinOp.leq 3 (Go.Operand.tmp 16) (Go.Operand.tmp 18) 3, type := 4, pos := "wire.go:64", after := #[{ on := 2, ground := Go.Ground.data }, { on := 4, ground := Go.Ground.data }], guard := none } : Oper)) (v := ?_) rfl (by kernel_rfl) (by kernel_rfl) (by kernel_rfl) (fun _ _ _ h => h) (Or.inl ⟨by rfl, ?_⟩) hH ?_
      rotate_left
      · intro w hSw; (try dsimp only at hSw); go_simp; try with_reducible rfl
      try simp only [Act.put, List.setIfInBounds_toArray, List.set_cons_zero, List.set_cons_succ]
      refine wpAnyH_take (i := 6) (oi := ({ dst := some 4, op := Go.Op.assign (Go.Operand.tmp 19), type := 4, pos := "wire.go:64", after := #[{ on := 5, ground := Go.Ground.data }, { on := 1, ground := Go.Ground.chain }, { on := 0, ground := Go.Ground.phase }, { on := 1, ground := Go.Ground.phase }, { on := 2, ground := Go.Ground.phase }, { on := 3, ground := Go.Ground.phase }, { on := 4, ground := Go.Ground.phase }, { on := 5, ground := Go.Ground.phase }], guard := none } : Oper)) (v := ?_) rfl (by kernel_rfl) (by kernel_rfl) (by kernel_rfl) (fun _ _ _ h => h) (Or.inl ⟨by rfl, ?_⟩) hH ?_
      rotate_left
      · intro w hSw; (try dsimp only at hSw); go_simp; try with_reducible rfl
      try simp only [Act.put, List.setIfInBounds_toArray, List.set_cons_zero, List.set_cons_succ]
      refine wpAnyH_take (i := 7) (oi := ({ dst := some 5, op := Go.Op.assign (Go.Operand.const (Go.Value.int Go.IntKind.i64 0)), type := 25, pos := "wire.go:64", after := #[{ on := 6, ground := Go.Ground.chain }, { on := 0, ground := Go.Ground.phase }, { on := 1, ground := Go.Ground.phase }, { on := 2, ground := Go.Ground.phase }, { on := 3, ground := Go.Ground.phase }, { on := 4, ground := Go.Ground.phase }, { on := 5, ground := Go.Ground.phase }, { on := 6, ground := Go.Ground.phase }], guard := none } : Oper)) (v := ?_) rfl (by kernel_rfl) (by kernel_rfl) (by kernel_rfl) (fun _ _ _ h => h) (Or.inl ⟨by rfl, ?_⟩) hH ?_
      rotate_left
      · intro w hSw; (try dsimp only at hSw); go_simp; try with_reducible rfl
      try simp only [Act.put, List.setIfInBounds_toArray, List.set_cons_zero, List.set_cons_succ]
      refine wpAnyH_done (by kernel_rfl) ?_ _
      refine NoPanic.normal ?_
      have HB := Lib.hid hH.1
      go_wp2_with fail
      go_ret2
      exact ⟨by rw [HS.out]; rfl, HB.out⟩
    · have Q := Lib.hid (show decide (VW R n) = false from decide_eq_false hv)
      have HS := Lib.hid (show sureR M R n = (false, 1) by unfold sureR; rw [if_neg (fun h => hv h.2)])
      clear hM hv
      go_enter Try.func40, Try.ntmps40
      go_wp2_with fail
      refine (validMast_any M _).mono ?_
      rintro q1 w1 ⟨rfl, hb⟩
      have m0 := kcb hb (b := w.heap.size) (o := 0) (v := .int .i64 M.no) (by go_cell)
      have m1 := kcb hb (b := w.heap.size) (o := 1) (v := .int .i64 M.hf) (by go_cell)
      have m2 := kcb hb (b := w.heap.size) (o := 2) (v := .int .i64 M.fu) (by go_cell)
      have m3 := kcb hb (b := w.heap.size) (o := 3) (v := .int .i64 M.la) (by go_cell)
      have m4 := kcb hb (b := w.heap.size) (o := 4) (v := .int .i64 M.ag) (by go_cell)
      have m5 := kcb hb (b := w.heap.size) (o := 5) (v := .int .i64 M.wi) (by go_cell)
      have B1 : Bl w w1 := Below.trans (by go_grown) (hb.mono (by (try simp only [World.size_alloc, World.size_setCell]); omega))
      have l1 := ltb m5
      have zz1 := B1.size
      clear hb
      rw [QM.out]
      go_wp2_with fail
      refine (vw_any A n c R _ (HA.out.below (by go_grown)) HN.out).mono ?_
      rintro q2 w2 ⟨rfl, hb⟩
      have m0 := kcb hb (b := w.heap.size) (o := 0) (v := .int .i64 M.no) (by go_cell)
      have m1 := kcb hb (b := w.heap.size) (o := 1) (v := .int .i64 M.hf) (by go_cell)
      have m2 := kcb hb (b := w.heap.size) (o := 2) (v := .int .i64 M.fu) (by go_cell)
      have m3 := kcb hb (b := w.heap.size) (o := 3) (v := .int .i64 M.la) (by go_cell)
      have m4 := kcb hb (b := w.heap.size) (o := 4) (v := .int .i64 M.ag) (by go_cell)
      have m5 := kcb hb (b := w.heap.size) (o := 5) (v := .int .i64 M.wi) (by go_cell)
      have B2 : Bl w w2 := Below.trans (by go_grown) (hb.mono (by (try simp only [World.size_alloc, World.size_setCell]); omega))
      have l2 := ltb m5
      have zz2 := B2.size
      clear hb
      rw [Q.out]
      go_wp2_with fail
      go_ret2
      exact ⟨by rw [HS.out]; rfl, by go_grown⟩
  · have QM := Lib.hid (show decide (VM M) = false from decide_eq_false hM)
    have HS := Lib.hid (show sureR M R n = (false, 1) by unfold sureR; rw [if_neg (fun h => hM h.1)])
    clear hM
    go_enter Try.func40, Try.ntmps40
    go_wp2_with fail
    refine (validMast_any M _).mono ?_
    rintro q1 w1 ⟨rfl, hb⟩
    have m0 := kcb hb (b := w.heap.size) (o := 0) (v := .int .i64 M.no) (by go_cell)
    have m1 := kcb hb (b := w.heap.size) (o := 1) (v := .int .i64 M.hf) (by go_cell)
    have m2 := kcb hb (b := w.heap.size) (o := 2) (v := .int .i64 M.fu) (by go_cell)
    have m3 := kcb hb (b := w.heap.size) (o := 3) (v := .int .i64 M.la) (by go_cell)
    have m4 := kcb hb (b := w.heap.size) (o := 4) (v := .int .i64 M.ag) (by go_cell)
    have m5 := kcb hb (b := w.heap.size) (o := 5) (v := .int .i64 M.wi) (by go_cell)
    have B1 : Bl w w1 := Below.trans (by go_grown) (hb.mono (by (try simp only [World.size_alloc, World.size_setCell]); omega))
    have l1 := ltb m5
    have zz1 := B1.size
    clear hb
    rw [QM.out]
    go_wp2_with fail
    go_ret2
    exact ⟨by rw [HS.out]; rfl, by go_grown⟩
set_option maxRecDepth 100000 in
set_option maxHeartbeats 1600000 in
theorem rsure_any (M : Mst) (A : Option Addr) (n c : Nat) (R : Nat → Rly) (w : World) (hA : Rl w A n R) (hn : n ≤ maxLen) :
    Calls Try.prog 41 #[encM M, .slice A n c] w fun e w' => e = .returned (.tuple #[.bool (sureR M R n).1, .int .i64 (sureR M R n).2]) ∧ Bl w w' := by
  have HA := Lib.hid hA
  have HN := Lib.hid hn
  clear hA hn
  by_cases hM : VM M
  · have QM := Lib.hid (show decide (VM M) = true from decide_eq_true hM)
    by_cases hv : VW R n
    · have HV := Lib.hid hv
      have Q := Lib.hid (show decide (VW R n) = true from decide_eq_true hv)
      have HS := Lib.hid (show sureR M R n = (decide (sprS R n ≤ M.la), 0) by unfold sureR; rw [if_pos ⟨hM, hv⟩])
      have F1 := field1 (lagS R n) (sprS R n)
      clear hM hv
      go_enter Try.func41, Try.ntmps41
      go_wp2_with fail
      refine (rvalidMast_any M _).mono ?_
      rintro q1 w1 ⟨rfl, hb⟩
      have m0 := kcb hb (b := w.heap.size) (o := 0) (v := .int .i64 M.no) (by go_cell)
      have m1 := kcb hb (b := w.heap.size) (o := 1) (v := .int .i64 M.hf) (by go_cell)
      have m2 := kcb hb (b := w.heap.size) (o := 2) (v := .int .i64 M.fu) (by go_cell)
      have m3 := kcb hb (b := w.heap.size) (o := 3) (v := .int .i64 M.la) (by go_cell)
      have m4 := kcb hb (b := w.heap.size) (o := 4) (v := .int .i64 M.ag) (by go_cell)
      have m5 := kcb hb (b := w.heap.size) (o := 5) (v := .int .i64 M.wi) (by go_cell)
      have B1 : Bl w w1 := Below.trans (by go_grown) (hb.mono (by (try simp only [World.size_alloc, World.size_setCell]); omega))
      have l1 := ltb m5
      have zz1 := B1.size
      clear hb
      rw [QM.out]
      go_wp2_with fail
      refine (rvw_any A n c R _ (HA.out.below (by go_grown)) HN.out).mono ?_
      rintro q2 w2 ⟨rfl, hb⟩
      have m0 := kcb hb (b := w.heap.size) (o := 0) (v := .int .i64 M.no) (by go_cell)
      have m1 := kcb hb (b := w.heap.size) (o := 1) (v := .int .i64 M.hf) (by go_cell)
      have m2 := kcb hb (b := w.heap.size) (o := 2) (v := .int .i64 M.fu) (by go_cell)
      have m3 := kcb hb (b := w.heap.size) (o := 3) (v := .int .i64 M.la) (by go_cell)
      have m4 := kcb hb (b := w.heap.size) (o := 4) (v := .int .i64 M.ag) (by go_cell)
      have m5 := kcb hb (b := w.heap.size) (o := 5) (v := .int .i64 M.wi) (by go_cell)
      have B2 : Bl w w2 := Below.trans (by go_grown) (hb.mono (by (try simp only [World.size_alloc, World.size_setCell]); omega))
      have l2 := ltb m5
      have zz2 := B2.size
      clear hb
      rw [Q.out]
      go_wp2_with fail
      refine (sums_any A n c R _ (HA.out.below (by go_grown)) HV.out).mono ?_
      rintro q3 w3 ⟨rfl, hb⟩
      have m0 := kcb hb (b := w.heap.size) (o := 0) (v := .int .i64 M.no) (by go_cell)
      have m1 := kcb hb (b := w.heap.size) (o := 1) (v := .int .i64 M.hf) (by go_cell)
      have m2 := kcb hb (b := w.heap.size) (o := 2) (v := .int .i64 M.fu) (by go_cell)
      have m3 := kcb hb (b := w.heap.size) (o := 3) (v := .int .i64 M.la) (by go_cell)
      have m4 := kcb hb (b := w.heap.size) (o := 4) (v := .int .i64 M.ag) (by go_cell)
      have m5 := kcb hb (b := w.heap.size) (o := 5) (v := .int .i64 M.wi) (by go_cell)
      have B3 : Bl w w3 := Below.trans (by go_grown) (hb.mono (by (try simp only [World.size_alloc, World.size_setCell]); omega))
      have l3 := ltb m5
      have zz3 := B3.size
      clear hb
      go_wp2_with fail
      go_ret2
      exact ⟨by rw [HS.out]; rfl, by go_grown⟩
    · have Q := Lib.hid (show decide (VW R n) = false from decide_eq_false hv)
      have HS := Lib.hid (show sureR M R n = (false, 1) by unfold sureR; rw [if_neg (fun h => hv h.2)])
      clear hM hv
      go_enter Try.func41, Try.ntmps41
      go_wp2_with fail
      refine (rvalidMast_any M _).mono ?_
      rintro q1 w1 ⟨rfl, hb⟩
      have m0 := kcb hb (b := w.heap.size) (o := 0) (v := .int .i64 M.no) (by go_cell)
      have m1 := kcb hb (b := w.heap.size) (o := 1) (v := .int .i64 M.hf) (by go_cell)
      have m2 := kcb hb (b := w.heap.size) (o := 2) (v := .int .i64 M.fu) (by go_cell)
      have m3 := kcb hb (b := w.heap.size) (o := 3) (v := .int .i64 M.la) (by go_cell)
      have m4 := kcb hb (b := w.heap.size) (o := 4) (v := .int .i64 M.ag) (by go_cell)
      have m5 := kcb hb (b := w.heap.size) (o := 5) (v := .int .i64 M.wi) (by go_cell)
      have B1 : Bl w w1 := Below.trans (by go_grown) (hb.mono (by (try simp only [World.size_alloc, World.size_setCell]); omega))
      have l1 := ltb m5
      have zz1 := B1.size
      clear hb
      rw [QM.out]
      go_wp2_with fail
      refine (rvw_any A n c R _ (HA.out.below (by go_grown)) HN.out).mono ?_
      rintro q2 w2 ⟨rfl, hb⟩
      have m0 := kcb hb (b := w.heap.size) (o := 0) (v := .int .i64 M.no) (by go_cell)
      have m1 := kcb hb (b := w.heap.size) (o := 1) (v := .int .i64 M.hf) (by go_cell)
      have m2 := kcb hb (b := w.heap.size) (o := 2) (v := .int .i64 M.fu) (by go_cell)
      have m3 := kcb hb (b := w.heap.size) (o := 3) (v := .int .i64 M.la) (by go_cell)
      have m4 := kcb hb (b := w.heap.size) (o := 4) (v := .int .i64 M.ag) (by go_cell)
      have m5 := kcb hb (b := w.heap.size) (o := 5) (v := .int .i64 M.wi) (by go_cell)
      have B2 : Bl w w2 := Below.trans (by go_grown) (hb.mono (by (try simp only [World.size_alloc, World.size_setCell]); omega))
      have l2 := ltb m5
      have zz2 := B2.size
      clear hb
      rw [Q.out]
      go_wp2_with fail
      go_ret2
      exact ⟨by rw [HS.out]; rfl, by go_grown⟩
  · have QM := Lib.hid (show decide (VM M) = false from decide_eq_false hM)
    have HS := Lib.hid (show sureR M R n = (false, 1) by unfold sureR; rw [if_neg (fun h => hM h.1)])
    clear hM
    go_enter Try.func41, Try.ntmps41
    go_wp2_with fail
    refine (rvalidMast_any M _).mono ?_
    rintro q1 w1 ⟨rfl, hb⟩
    have m0 := kcb hb (b := w.heap.size) (o := 0) (v := .int .i64 M.no) (by go_cell)
    have m1 := kcb hb (b := w.heap.size) (o := 1) (v := .int .i64 M.hf) (by go_cell)
    have m2 := kcb hb (b := w.heap.size) (o := 2) (v := .int .i64 M.fu) (by go_cell)
    have m3 := kcb hb (b := w.heap.size) (o := 3) (v := .int .i64 M.la) (by go_cell)
    have m4 := kcb hb (b := w.heap.size) (o := 4) (v := .int .i64 M.ag) (by go_cell)
    have m5 := kcb hb (b := w.heap.size) (o := 5) (v := .int .i64 M.wi) (by go_cell)
    have B1 : Bl w w1 := Below.trans (by go_grown) (hb.mono (by (try simp only [World.size_alloc, World.size_setCell]); omega))
    have l1 := ltb m5
    have zz1 := B1.size
    clear hb
    rw [QM.out]
    go_wp2_with fail
    go_ret2
    exact ⟨by rw [HS.out]; rfl, by go_grown⟩
end Go.Proofs.Ytaebclepdobbaaa
