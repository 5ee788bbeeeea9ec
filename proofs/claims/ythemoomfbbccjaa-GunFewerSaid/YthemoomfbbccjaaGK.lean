/-
  Contracts of package gun and of its reference: what suits; the walk of GunSuits.
-/
import Derived.Test.YthemoomfbbccjaaGJ
namespace Go.Proofs.Ythemoomfbbccjaa
open Go.RowKit
set_option linter.unusedSimpArgs false
set_option linter.unusedVariables false

abbrev Sw (w : World) (ba bp bs : Nat) (a : Air) (p : Pt) (y : Sho) (X : World) : Prop :=
  Bl w X ∧ X.cell? ⟨ba, 0, none⟩ = some (.int .i64 a.s) ∧ X.cell? ⟨ba, 1, none⟩ = some (.int .i64 a.w) ∧ X.cell? ⟨bp, 0, none⟩ = some (.int .i64 p.x) ∧ X.cell? ⟨bp, 1, none⟩ = some (.int .i64 p.y) ∧ X.cell? ⟨bs, 0, none⟩ = some (.int .i64 y.p.x) ∧ X.cell? ⟨bs, 1, none⟩ = some (.int .i64 y.p.y) ∧ X.cell? ⟨bs, 2, none⟩ = some (.int .i64 y.lo) ∧ X.cell? ⟨bs, 3, none⟩ = some (.int .i64 y.hi) ∧ ba < X.heap.size ∧ bp < X.heap.size ∧ bs < X.heap.size
theorem Sw.t {w X X' : World} {ba bp bs : Nat} {a : Air} {p : Pt} {y : Sho} (h : Sw w ba bp bs a p y X) (hb : Bl X X') : Sw w ba bp bs a p y X' := by
  obtain ⟨h0, h1, h2, h3, h4, h5, h6, h7, h8, h9, h10, h11⟩ := h
  exact ⟨h0.tr hb, kcb hb h1, kcb hb h2, kcb hb h3, kcb hb h4, kcb hb h5, kcb hb h6, kcb hb h7, kcb hb h8, Nat.lt_of_lt_of_le h9 hb.size, Nat.lt_of_lt_of_le h10 hb.size, Nat.lt_of_lt_of_le h11 hb.size⟩
theorem suit_no {a : Air} {S : Nat → Sho} {n k : Nat} {p : Pt} (hk : k < n) (h : ¬ suit1 a (S k) p) : ¬ suitN a S n p := fun g => h (g k hk)

set_option maxRecDepth 100000 in
set_option maxHeartbeats 6400000 in
theorem suits_any (a : Air) (A : Option Addr) (n c : Nat) (S : Nat → Sho) (p : Pt) (w : World) (hA : Shl w A n S) (hn : n ≤ maxLen) (ha : VA a) (hp : isP p) (hS : ∀ j, j < n → vSh (S j)) :
    Calls Try.prog 22 #[encA a, .slice A n c, encP p] w fun e w' => e = .returned (.bool (decide (suitN a S n p))) ∧ Bl w w' := by
  have HA := Lib.hid hA
  have HAA := Lib.hid ha
  have HP := Lib.hid hp
  have HSS := Lib.hid hS
  clear hA ha hp hS
  unfold maxLen at hn
  go_enter Try.func22, Try.ntmps22
  go_wp2_with fail
  go_loopw [11] (fun i wr => ∃ k : Nat, k ≤ n ∧ i = .int .i64 k ∧ Hid (∀ j, j < k → suit1 a (S j) p) ∧ Bl w wr ∧ wr.cell? ⟨w.heap.size, 0, none⟩ = some (.int .i64 a.s) ∧ wr.cell? ⟨w.heap.size, 1, none⟩ = some (.int .i64 a.w) ∧ wr.cell? ⟨w.heap.size + 1, 0, none⟩ = some (.int .i64 p.x) ∧ wr.cell? ⟨w.heap.size + 1, 1, none⟩ = some (.int .i64 p.y)) (fun i _ => n - (RowKit.intOf i).toNat)
  case atStart => exact ⟨0, Nat.zero_le _, rfl, fun j hj => absurd hj (by omega), by go_grown, by go_cell, by go_cell, by go_cell, by go_cell⟩
  case round =>
    obtain ⟨k, hk, rfl, HR, hB, ca0, ca1, cp0, cp1⟩ := hrel
    have zB := hB.size
    have la := ltb ca0
    have lp := ltb cp0
    by_cases hlt : k < n
    · obtain ⟨b, off, rfl, hbb, hc⟩ := (HA.out.below hB) (by omega)
      obtain ⟨c0, c1, c2, c3⟩ := hc k hlt
      clear hc
      obtain ⟨y, hy⟩ : ∃ y, y = S k := ⟨_, rfl⟩
      rw [← hy] at c0 c1 c2 c3
      have yv : vSh y := by rw [hy]; exact HSS.out k hlt
      have YP := Lib.hid yv.1
      obtain ⟨b1, b2, b3⟩ := lagP_bd HAA.out yv.1 HP.out
      obtain ⟨u, v, huv⟩ : ∃ u v, lagP a y.p p = (u, v) := ⟨_, _, rfl⟩
      have HUV := Lib.hid huv
      have V1 : Hid (vS u v = true) := Lib.hid (lagSp (by rw [huv] at b1; exact b1) (by rw [huv] at b2; exact b2) (by rw [huv] at b3; omega))
      have V2 : Hid (vS y.lo y.hi = true) := Lib.hid (lagSp yv.2.1 yv.2.2.1 yv.2.2.2)
      clear b1 b2 b3
      by_cases q : mt u v y.lo y.hi
      · have Q1 := Lib.hid (show decide (mt u v y.lo y.hi) = true from decide_eq_true q)
        have HI := Lib.hid (show ∀ j, j < k + 1 → suit1 a (S j) p from fun j hj => by
          by_cases e : j = k
          · rw [e, ← hy]; unfold suit1; rw [huv]; exact q
          · exact HR.out j (by omega))
        clear hy q huv yv
        go_wp2_with fail
        obtain ⟨X, hX⟩ : ∃ X, X = wr.alloc (Obj.cells #[.int .i64 y.p.x, .int .i64 y.p.y, .int .i64 y.lo, .int .i64 y.hi] 44) := ⟨_, rfl⟩
        have BX : Bl w X := by rw [hX]; go_grown
        have S0 : Sw w w.heap.size (w.heap.size + 1) wr.heap.size a p y X := ⟨BX, by rw [hX]; exact cellUp ca0, by rw [hX]; exact cellUp ca1, by rw [hX]; exact cellUp cp0, by rw [hX]; exact cellUp cp1, by rw [hX]; go_cell, by rw [hX]; go_cell, by rw [hX]; go_cell, by rw [hX]; go_cell, by rw [hX]; simp; omega, by rw [hX]; simp; omega, by rw [hX]; simp⟩
        rw [← hX]
        clear hX c0 c1 c2 c3 ca0 ca1 cp0 cp1
        go_region_held3 (fun w' => Bl w w' ∧ w'.cell? ⟨w.heap.size, 0, none⟩ = some (.int .i64 a.s) ∧ w'.cell? ⟨w.heap.size, 1, none⟩ = some (.int .i64 a.w) ∧ w'.cell? ⟨w.heap.size + 1, 0, none⟩ = some (.int .i64 p.x) ∧ w'.cell? ⟨w.heap.size + 1, 1, none⟩ = some (.int .i64 p.y) ∧ w'.cell? ⟨wr.heap.size, 0, none⟩ = some (.int .i64 y.p.x) ∧ w'.cell? ⟨wr.heap.size, 1, none⟩ = some (.int .i64 y.p.y) ∧ w'.cell? ⟨wr.heap.size, 2, none⟩ = some (.int .i64 y.lo) ∧ w'.cell? ⟨wr.heap.size, 3, none⟩ = some (.int .i64 y.hi) ∧ w.heap.size < w'.heap.size ∧ w.heap.size + 1 < w'.heap.size ∧ wr.heap.size < w'.heap.size) (first | exact Sw.t S0 (Bl.dr _ 1) | exact Sw.t (by assumption) hh0 | exact Sw.t (by assumption) hh1) (first | (go_at_call 36; refine (lagOf_any a y.p p _ HAA.out YP.out HP.out).mono ?_; rintro e v0 ⟨rfl, hh0⟩; rw [HUV.out]) | (go_at_call 29; refine (overlap_any u v y.lo y.hi _ V1.out V2.out).mono ?_; rintro e v1 ⟨rfl, hh1⟩; rw [Q1.out]))
        all_goals
          go_wp2_with fail
          rename_i hHeld
          go_roundw
          case rel => exact ⟨k + 1, by omega, by go_num, HI.out, hHeld.1, hHeld.2.1, hHeld.2.2.1, hHeld.2.2.2.1, hHeld.2.2.2.2.1⟩
          case measure => simp [RowKit.intOf]; omega
      · have Q1 := Lib.hid (show decide (mt u v y.lo y.hi) = false from decide_eq_false q)
        have HI := Lib.hid (show decide (suitN a S n p) = false from decide_eq_false (suit_no hlt (by rw [← hy]; unfold suit1; rw [huv]; exact q)))
        clear hy q huv yv
        go_wp2_with fail
        obtain ⟨X, hX⟩ : ∃ X, X = wr.alloc (Obj.cells #[.int .i64 y.p.x, .int .i64 y.p.y, .int .i64 y.lo, .int .i64 y.hi] 44) := ⟨_, rfl⟩
        have BX : Bl w X := by rw [hX]; go_grown
        have S0 : Sw w w.heap.size (w.heap.size + 1) wr.heap.size a p y X := ⟨BX, by rw [hX]; exact cellUp ca0, by rw [hX]; exact cellUp ca1, by rw [hX]; exact cellUp cp0, by rw [hX]; exact cellUp cp1, by rw [hX]; go_cell, by rw [hX]; go_cell, by rw [hX]; go_cell, by rw [hX]; go_cell, by rw [hX]; simp; omega, by rw [hX]; simp; omega, by rw [hX]; simp⟩
        rw [← hX]
        clear hX c0 c1 c2 c3 ca0 ca1 cp0 cp1
        go_region_held3 (fun w' => Bl w w' ∧ w'.cell? ⟨w.heap.size, 0, none⟩ = some (.int .i64 a.s) ∧ w'.cell? ⟨w.heap.size, 1, none⟩ = some (.int .i64 a.w) ∧ w'.cell? ⟨w.heap.size + 1, 0, none⟩ = some (.int .i64 p.x) ∧ w'.cell? ⟨w.heap.size + 1, 1, none⟩ = some (.int .i64 p.y) ∧ w'.cell? ⟨wr.heap.size, 0, none⟩ = some (.int .i64 y.p.x) ∧ w'.cell? ⟨wr.heap.size, 1, none⟩ = some (.int .i64 y.p.y) ∧ w'.cell? ⟨wr.heap.size, 2, none⟩ = some (.int .i64 y.lo) ∧ w'.cell? ⟨wr.heap.size, 3, none⟩ = some (.int .i64 y.hi) ∧ w.heap.size < w'.heap.size ∧ w.heap.size + 1 < w'.heap.size ∧ wr.heap.size < w'.heap.size) (first | exact Sw.t S0 (Bl.dr _ 1) | exact Sw.t (by assumption) hh0 | exact Sw.t (by assumption) hh1) (first | (go_at_call 36; refine (lagOf_any a y.p p _ HAA.out YP.out HP.out).mono ?_; rintro e v0 ⟨rfl, hh0⟩; rw [HUV.out]) | (go_at_call 29; refine (overlap_any u v y.lo y.hi _ V1.out V2.out).mono ?_; rintro e v1 ⟨rfl, hh1⟩; rw [Q1.out]))
        all_goals
          go_wp2_with fail
          rename_i hHeld
          go_ret
          exact ⟨ret_bool (by rw [HI.out]), hHeld.1⟩
    · obtain rfl : n = k := by omega
      have HI := Lib.hid (show decide (suitN a S n p) = true from decide_eq_true HR.out)
      go_wp2_with fail
      go_ret
      exact ⟨ret_bool (by rw [HI.out]), hB⟩

set_option maxRecDepth 100000 in
set_option maxHeartbeats 6400000 in
theorem rsuits_any (a : Air) (A : Option Addr) (n c : Nat) (S : Nat → Sho) (p : Pt) (w : World) (hA : Shl w A n S) (hn : n ≤ maxLen) (ha : VA a) (hp : isP p) (hS : ∀ j, j < n → vSh (S j)) :
    Calls Try.prog 26 #[encA a, .slice A n c, encP p] w fun e w' => e = .returned (.bool (decide (suitN a S n p))) ∧ Bl w w' := by
  have HA := Lib.hid hA
  have HAA := Lib.hid ha
  have HP := Lib.hid hp
  have HSS := Lib.hid hS
  clear hA ha hp hS
  unfold maxLen at hn
  go_enter Try.func26, Try.ntmps26
  go_wp2_with fail
  go_loopw [11] (fun i wr => ∃ k : Nat, k ≤ n ∧ i = .int .i64 k ∧ Hid (∀ j, j < k → suit1 a (S j) p) ∧ Bl w wr ∧ wr.cell? ⟨w.heap.size, 0, none⟩ = some (.int .i64 a.s) ∧ wr.cell? ⟨w.heap.size, 1, none⟩ = some (.int .i64 a.w) ∧ wr.cell? ⟨w.heap.size + 1, 0, none⟩ = some (.int .i64 p.x) ∧ wr.cell? ⟨w.heap.size + 1, 1, none⟩ = some (.int .i64 p.y)) (fun i _ => n - (RowKit.intOf i).toNat)
  case atStart => exact ⟨0, Nat.zero_le _, rfl, fun j hj => absurd hj (by omega), by go_grown, by go_cell, by go_cell, by go_cell, by go_cell⟩
  case round =>
    obtain ⟨k, hk, rfl, HR, hB, ca0, ca1, cp0, cp1⟩ := hrel
    have zB := hB.size
    have la := ltb ca0
    have lp := ltb cp0
    by_cases hlt : k < n
    · obtain ⟨b, off, rfl, hbb, hc⟩ := (HA.out.below hB) (by omega)
      obtain ⟨c0, c1, c2, c3⟩ := hc k hlt
      clear hc
      obtain ⟨y, hy⟩ : ∃ y, y = S k := ⟨_, rfl⟩
      rw [← hy] at c0 c1 c2 c3
      have yv : vSh y := by rw [hy]; exact HSS.out k hlt
      have YP := Lib.hid yv.1
      obtain ⟨b1, b2, b3⟩ := lagP_bd HAA.out yv.1 HP.out
      obtain ⟨u, v, huv⟩ : ∃ u v, lagP a y.p p = (u, v) := ⟨_, _, rfl⟩
      have HUV := Lib.hid huv
      have V1 : Hid (vS u v = true) := Lib.hid (lagSp (by rw [huv] at b1; exact b1) (by rw [huv] at b2; exact b2) (by rw [huv] at b3; omega))
      have V2 : Hid (vS y.lo y.hi = true) := Lib.hid (lagSp yv.2.1 yv.2.2.1 yv.2.2.2)
      clear b1 b2 b3
      by_cases q : mt u v y.lo y.hi
      · have Q1 := Lib.hid (show decide (mt u v y.lo y.hi) = true from decide_eq_true q)
        have HI := Lib.hid (show ∀ j, j < k + 1 → suit1 a (S j) p from fun j hj => by
          by_cases e : j = k
          · rw [e, ← hy]; unfold suit1; rw [huv]; exact q
          · exact HR.out j (by omega))
        clear hy q huv yv
        go_wp2_with fail
        obtain ⟨X, hX⟩ : ∃ X, X = wr.alloc (Obj.cells #[.int .i64 y.p.x, .int .i64 y.p.y, .int .i64 y.lo, .int .i64 y.hi] 44) := ⟨_, rfl⟩
        have BX : Bl w X := by rw [hX]; go_grown
        have S0 : Sw w w.heap.size (w.heap.size + 1) wr.heap.size a p y X := ⟨BX, by rw [hX]; exact cellUp ca0, by rw [hX]; exact cellUp ca1, by rw [hX]; exact cellUp cp0, by rw [hX]; exact cellUp cp1, by rw [hX]; go_cell, by rw [hX]; go_cell, by rw [hX]; go_cell, by rw [hX]; go_cell, by rw [hX]; simp; omega, by rw [hX]; simp; omega, by rw [hX]; simp⟩
        rw [← hX]
        clear hX c0 c1 c2 c3 ca0 ca1 cp0 cp1
        go_region_held3 (fun w' => Bl w w' ∧ w'.cell? ⟨w.heap.size, 0, none⟩ = some (.int .i64 a.s) ∧ w'.cell? ⟨w.heap.size, 1, none⟩ = some (.int .i64 a.w) ∧ w'.cell? ⟨w.heap.size + 1, 0, none⟩ = some (.int .i64 p.x) ∧ w'.cell? ⟨w.heap.size + 1, 1, none⟩ = some (.int .i64 p.y) ∧ w'.cell? ⟨wr.heap.size, 0, none⟩ = some (.int .i64 y.p.x) ∧ w'.cell? ⟨wr.heap.size, 1, none⟩ = some (.int .i64 y.p.y) ∧ w'.cell? ⟨wr.heap.size, 2, none⟩ = some (.int .i64 y.lo) ∧ w'.cell? ⟨wr.heap.size, 3, none⟩ = some (.int .i64 y.hi) ∧ w.heap.size < w'.heap.size ∧ w.heap.size + 1 < w'.heap.size ∧ wr.heap.size < w'.heap.size) (first | exact Sw.t S0 (Bl.dr _ 1) | exact Sw.t (by assumption) hh0 | exact Sw.t (by assumption) hh1) (first | (go_at_call 33; refine (lag5_any a y.p p _ HAA.out YP.out HP.out).mono ?_; rintro e v0 ⟨rfl, hh0⟩; rw [HUV.out]) | (go_at_call 32; refine (meet5_any u v y.lo y.hi _).mono ?_; rintro e v1 ⟨rfl, hh1⟩; rw [Q1.out]))
        all_goals
          go_wp2_with fail
          rename_i hHeld
          go_roundw
          case rel => exact ⟨k + 1, by omega, by go_num, HI.out, hHeld.1, hHeld.2.1, hHeld.2.2.1, hHeld.2.2.2.1, hHeld.2.2.2.2.1⟩
          case measure => simp [RowKit.intOf]; omega
      · have Q1 := Lib.hid (show decide (mt u v y.lo y.hi) = false from decide_eq_false q)
        have HI := Lib.hid (show decide (suitN a S n p) = false from decide_eq_false (suit_no hlt (by rw [← hy]; unfold suit1; rw [huv]; exact q)))
        clear hy q huv yv
        go_wp2_with fail
        obtain ⟨X, hX⟩ : ∃ X, X = wr.alloc (Obj.cells #[.int .i64 y.p.x, .int .i64 y.p.y, .int .i64 y.lo, .int .i64 y.hi] 44) := ⟨_, rfl⟩
        have BX : Bl w X := by rw [hX]; go_grown
        have S0 : Sw w w.heap.size (w.heap.size + 1) wr.heap.size a p y X := ⟨BX, by rw [hX]; exact cellUp ca0, by rw [hX]; exact cellUp ca1, by rw [hX]; exact cellUp cp0, by rw [hX]; exact cellUp cp1, by rw [hX]; go_cell, by rw [hX]; go_cell, by rw [hX]; go_cell, by rw [hX]; go_cell, by rw [hX]; simp; omega, by rw [hX]; simp; omega, by rw [hX]; simp⟩
        rw [← hX]
        clear hX c0 c1 c2 c3 ca0 ca1 cp0 cp1
        go_region_held3 (fun w' => Bl w w' ∧ w'.cell? ⟨w.heap.size, 0, none⟩ = some (.int .i64 a.s) ∧ w'.cell? ⟨w.heap.size, 1, none⟩ = some (.int .i64 a.w) ∧ w'.cell? ⟨w.heap.size + 1, 0, none⟩ = some (.int .i64 p.x) ∧ w'.cell? ⟨w.heap.size + 1, 1, none⟩ = some (.int .i64 p.y) ∧ w'.cell? ⟨wr.heap.size, 0, none⟩ = some (.int .i64 y.p.x) ∧ w'.cell? ⟨wr.heap.size, 1, none⟩ = some (.int .i64 y.p.y) ∧ w'.cell? ⟨wr.heap.size, 2, none⟩ = some (.int .i64 y.lo) ∧ w'.cell? ⟨wr.heap.size, 3, none⟩ = some (.int .i64 y.hi) ∧ w.heap.size < w'.heap.size ∧ w.heap.size + 1 < w'.heap.size ∧ wr.heap.size < w'.heap.size) (first | exact Sw.t S0 (Bl.dr _ 1) | exact Sw.t (by assumption) hh0 | exact Sw.t (by assumption) hh1) (first | (go_at_call 33; refine (lag5_any a y.p p _ HAA.out YP.out HP.out).mono ?_; rintro e v0 ⟨rfl, hh0⟩; rw [HUV.out]) | (go_at_call 32; refine (meet5_any u v y.lo y.hi _).mono ?_; rintro e v1 ⟨rfl, hh1⟩; rw [Q1.out]))
        all_goals
          go_wp2_with fail
          rename_i hHeld
          go_ret
          exact ⟨ret_bool (by rw [HI.out]), hHeld.1⟩
    · obtain rfl : n = k := by omega
      have HI := Lib.hid (show decide (suitN a S n p) = true from decide_eq_true HR.out)
      go_wp2_with fail
      go_ret
      exact ⟨ret_bool (by rw [HI.out]), hB⟩

set_option maxRecDepth 100000 in
set_option maxHeartbeats 3200000 in
theorem Suits_any (a : Air) (A : Option Addr) (n c : Nat) (S : Nat → Sho) (p : Pt) (w : World) (hA : Shl w A n S) (hn : n ≤ maxLen) :
    Calls Try.prog 13 #[encA a, .slice A n c, encP p] w fun e w' => e = .returned (rB (suitsR a S n p)) ∧ Bl w w' := by
  have HA := Lib.hid hA
  have HN := Lib.hid hn
  clear hA hn
  by_cases ha : VA a
  · have Q0 := Lib.hid (show decide (VA a) = true from decide_eq_true ha)
    by_cases hS : VSh S n
    · have Q1 := Lib.hid (show decide (VSh S n) = true from decide_eq_true hS)
      by_cases hp : isP p
      · have Q2 := Lib.hid (show decide (allP (fun _ => p) 1) = true from decide_eq_true (allP_one.2 hp))
        have HI := Lib.hid (show suitsR a S n p = (decide (suitN a S n p), 0) by rw [suitsR, if_pos ⟨ha, hS⟩, if_pos hp])
        have HAA := Lib.hid ha
        have HP := Lib.hid hp
        have HV := Lib.hid hS.2.2
        clear ha hS hp
        go_enter Try.func13, Try.ntmps13
        go_wp2_with fail
        refine (validAir_any a _).mono ?_
        rintro q1 w1 ⟨rfl, hb⟩
        have xa0 := kcb hb (b := w.heap.size) (o := 0) (v := .int .i64 a.s) (by first | assumption | (refine cellUp ?_; assumption) | go_cell)
        have xa1 := kcb hb (b := w.heap.size) (o := 1) (v := .int .i64 a.w) (by first | assumption | (refine cellUp ?_; assumption) | go_cell)
        have xp0 := kcb hb (b := w.heap.size + 1) (o := 0) (v := .int .i64 p.x) (by first | assumption | (refine cellUp ?_; assumption) | go_cell)
        have xp1 := kcb hb (b := w.heap.size + 1) (o := 1) (v := .int .i64 p.y) (by first | assumption | (refine cellUp ?_; assumption) | go_cell)
        have B1 : Bl w w1 := Below.trans (by go_grown) (hb.mono (by (try simp only [World.size_alloc, World.size_setCell]); omega))
        have l1 := ltb xp1
        have l1_1 := ltb xa1
        have zz1 := B1.size
        clear hb
        rw [Q0.out]
        go_wp2_with fail
        refine (validShots_any A n c S _ (HA.out.below (by exact B1)) HN.out).mono ?_
        rintro q2 w2 ⟨rfl, hb⟩
        have xa0 := kcb hb (b := w.heap.size) (o := 0) (v := .int .i64 a.s) (by first | assumption | (refine cellUp ?_; assumption) | go_cell)
        have xa1 := kcb hb (b := w.heap.size) (o := 1) (v := .int .i64 a.w) (by first | assumption | (refine cellUp ?_; assumption) | go_cell)
        have xp0 := kcb hb (b := w.heap.size + 1) (o := 0) (v := .int .i64 p.x) (by first | assumption | (refine cellUp ?_; assumption) | go_cell)
        have xp1 := kcb hb (b := w.heap.size + 1) (o := 1) (v := .int .i64 p.y) (by first | assumption | (refine cellUp ?_; assumption) | go_cell)
        have B2 : Bl w w2 := Below.trans (by go_grown) (hb.mono (by (try simp only [World.size_alloc, World.size_setCell]); omega))
        have l2 := ltb xp1
        have l2_1 := ltb xa1
        have zz2 := B2.size
        clear hb
        rw [Q1.out]
        go_wp2_with fail
        refine (arePl_any _ 1 1 (fun _ => p) _ (pl_one (by go_cell) (by go_cell)) (by unfold maxLen; omega)).mono ?_
        rintro q3 w3 ⟨rfl, hb⟩
        have xa0 := kcb hb (b := w.heap.size) (o := 0) (v := .int .i64 a.s) (by first | assumption | (refine cellUp ?_; assumption) | go_cell)
        have xa1 := kcb hb (b := w.heap.size) (o := 1) (v := .int .i64 a.w) (by first | assumption | (refine cellUp ?_; assumption) | go_cell)
        have xp0 := kcb hb (b := w.heap.size + 1) (o := 0) (v := .int .i64 p.x) (by first | assumption | (refine cellUp ?_; assumption) | go_cell)
        have xp1 := kcb hb (b := w.heap.size + 1) (o := 1) (v := .int .i64 p.y) (by first | assumption | (refine cellUp ?_; assumption) | go_cell)
        have B3 : Bl w w3 := Below.trans (by go_grown) (hb.mono (by (try simp only [World.size_alloc, World.size_setCell]); omega))
        have l3 := ltb xp1
        have l3_1 := ltb xa1
        have zz3 := B3.size
        clear hb
        rw [Q2.out]
        go_wp2_with fail
        refine (suits_any a A n c S p _ (HA.out.below (by exact B3)) HN.out HAA.out HP.out HV.out).mono ?_
        rintro q4 w4 ⟨rfl, hb⟩
        have xa0 := kcb hb (b := w.heap.size) (o := 0) (v := .int .i64 a.s) (by first | assumption | (refine cellUp ?_; assumption) | go_cell)
        have xa1 := kcb hb (b := w.heap.size) (o := 1) (v := .int .i64 a.w) (by first | assumption | (refine cellUp ?_; assumption) | go_cell)
        have xp0 := kcb hb (b := w.heap.size + 1) (o := 0) (v := .int .i64 p.x) (by first | assumption | (refine cellUp ?_; assumption) | go_cell)
        have xp1 := kcb hb (b := w.heap.size + 1) (o := 1) (v := .int .i64 p.y) (by first | assumption | (refine cellUp ?_; assumption) | go_cell)
        have B4 : Bl w w4 := Below.trans (by go_grown) (hb.mono (by (try simp only [World.size_alloc, World.size_setCell]); omega))
        have l4 := ltb xp1
        have l4_1 := ltb xa1
        have zz4 := B4.size
        clear hb
        go_wp2_with fail
        exact bodyPost_ret (v := rB (suitsR a S n p)) (by simp [results, Try.results13, go_sem, HI.out, rB]) rfl ⟨rfl, by go_grown⟩
      · have Q2 := Lib.hid (show decide (allP (fun _ => p) 1) = false from decide_eq_false (fun g => hp (allP_one.1 g)))
        have HI := Lib.hid (show suitsR a S n p = (false, 7) by rw [suitsR, if_pos ⟨ha, hS⟩, if_neg hp])
        clear ha hS hp
        go_enter Try.func13, Try.ntmps13
        go_wp2_with fail
        refine (validAir_any a _).mono ?_
        rintro q1 w1 ⟨rfl, hb⟩
        have xa0 := kcb hb (b := w.heap.size) (o := 0) (v := .int .i64 a.s) (by first | assumption | (refine cellUp ?_; assumption) | go_cell)
        have xa1 := kcb hb (b := w.heap.size) (o := 1) (v := .int .i64 a.w) (by first | assumption | (refine cellUp ?_; assumption) | go_cell)
        have xp0 := kcb hb (b := w.heap.size + 1) (o := 0) (v := .int .i64 p.x) (by first | assumption | (refine cellUp ?_; assumption) | go_cell)
        have xp1 := kcb hb (b := w.heap.size + 1) (o := 1) (v := .int .i64 p.y) (by first | assumption | (refine cellUp ?_; assumption) | go_cell)
        have B1 : Bl w w1 := Below.trans (by go_grown) (hb.mono (by (try simp only [World.size_alloc, World.size_setCell]); omega))
        have l1 := ltb xp1
        have l1_1 := ltb xa1
        have zz1 := B1.size
        clear hb
        rw [Q0.out]
        go_wp2_with fail
        refine (validShots_any A n c S _ (HA.out.below (by exact B1)) HN.out).mono ?_
        rintro q2 w2 ⟨rfl, hb⟩
        have xa0 := kcb hb (b := w.heap.size) (o := 0) (v := .int .i64 a.s) (by first | assumption | (refine cellUp ?_; assumption) | go_cell)
        have xa1 := kcb hb (b := w.heap.size) (o := 1) (v := .int .i64 a.w) (by first | assumption | (refine cellUp ?_; assumption) | go_cell)
        have xp0 := kcb hb (b := w.heap.size + 1) (o := 0) (v := .int .i64 p.x) (by first | assumption | (refine cellUp ?_; assumption) | go_cell)
        have xp1 := kcb hb (b := w.heap.size + 1) (o := 1) (v := .int .i64 p.y) (by first | assumption | (refine cellUp ?_; assumption) | go_cell)
        have B2 : Bl w w2 := Below.trans (by go_grown) (hb.mono (by (try simp only [World.size_alloc, World.size_setCell]); omega))
        have l2 := ltb xp1
        have l2_1 := ltb xa1
        have zz2 := B2.size
        clear hb
        rw [Q1.out]
        go_wp2_with fail
        refine (arePl_any _ 1 1 (fun _ => p) _ (pl_one (by go_cell) (by go_cell)) (by unfold maxLen; omega)).mono ?_
        rintro q3 w3 ⟨rfl, hb⟩
        have xa0 := kcb hb (b := w.heap.size) (o := 0) (v := .int .i64 a.s) (by first | assumption | (refine cellUp ?_; assumption) | go_cell)
        have xa1 := kcb hb (b := w.heap.size) (o := 1) (v := .int .i64 a.w) (by first | assumption | (refine cellUp ?_; assumption) | go_cell)
        have xp0 := kcb hb (b := w.heap.size + 1) (o := 0) (v := .int .i64 p.x) (by first | assumption | (refine cellUp ?_; assumption) | go_cell)
        have xp1 := kcb hb (b := w.heap.size + 1) (o := 1) (v := .int .i64 p.y) (by first | assumption | (refine cellUp ?_; assumption) | go_cell)
        have B3 : Bl w w3 := Below.trans (by go_grown) (hb.mono (by (try simp only [World.size_alloc, World.size_setCell]); omega))
        have l3 := ltb xp1
        have l3_1 := ltb xa1
        have zz3 := B3.size
        clear hb
        rw [Q2.out]
        go_wp2_with fail
        exact bodyPost_ret (v := rB (suitsR a S n p)) (by simp [results, Try.results13, go_sem, HI.out, rB]) rfl ⟨rfl, by go_grown⟩
    · have Q1 := Lib.hid (show decide (VSh S n) = false from decide_eq_false hS)
      have HI := Lib.hid (show suitsR a S n p = (false, 1) by rw [suitsR, if_neg (fun g => hS g.2)])
      clear ha hS
      go_enter Try.func13, Try.ntmps13
      go_wp2_with fail
      refine (validAir_any a _).mono ?_
      rintro q1 w1 ⟨rfl, hb⟩
      have xa0 := kcb hb (b := w.heap.size) (o := 0) (v := .int .i64 a.s) (by first | assumption | (refine cellUp ?_; assumption) | go_cell)
      have xa1 := kcb hb (b := w.heap.size) (o := 1) (v := .int .i64 a.w) (by first | assumption | (refine cellUp ?_; assumption) | go_cell)
      have xp0 := kcb hb (b := w.heap.size + 1) (o := 0) (v := .int .i64 p.x) (by first | assumption | (refine cellUp ?_; assumption) | go_cell)
      have xp1 := kcb hb (b := w.heap.size + 1) (o := 1) (v := .int .i64 p.y) (by first | assumption | (refine cellUp ?_; assumption) | go_cell)
      have B1 : Bl w w1 := Below.trans (by go_grown) (hb.mono (by (try simp only [World.size_alloc, World.size_setCell]); omega))
      have l1 := ltb xp1
      have l1_1 := ltb xa1
      have zz1 := B1.size
      clear hb
      rw [Q0.out]
      go_wp2_with fail
      refine (validShots_any A n c S _ (HA.out.below (by exact B1)) HN.out).mono ?_
      rintro q2 w2 ⟨rfl, hb⟩
      have xa0 := kcb hb (b := w.heap.size) (o := 0) (v := .int .i64 a.s) (by first | assumption | (refine cellUp ?_; assumption) | go_cell)
      have xa1 := kcb hb (b := w.heap.size) (o := 1) (v := .int .i64 a.w) (by first | assumption | (refine cellUp ?_; assumption) | go_cell)
      have xp0 := kcb hb (b := w.heap.size + 1) (o := 0) (v := .int .i64 p.x) (by first | assumption | (refine cellUp ?_; assumption) | go_cell)
      have xp1 := kcb hb (b := w.heap.size + 1) (o := 1) (v := .int .i64 p.y) (by first | assumption | (refine cellUp ?_; assumption) | go_cell)
      have B2 : Bl w w2 := Below.trans (by go_grown) (hb.mono (by (try simp only [World.size_alloc, World.size_setCell]); omega))
      have l2 := ltb xp1
      have l2_1 := ltb xa1
      have zz2 := B2.size
      clear hb
      rw [Q1.out]
      go_wp2_with fail
      exact bodyPost_ret (v := rB (suitsR a S n p)) (by simp [results, Try.results13, go_sem, HI.out, rB]) rfl ⟨rfl, by go_grown⟩
  · have Q0 := Lib.hid (show decide (VA a) = false from decide_eq_false ha)
    have HI := Lib.hid (show suitsR a S n p = (false, 1) by rw [suitsR, if_neg (fun g => ha g.1)])
    clear ha
    go_enter Try.func13, Try.ntmps13
    go_wp2_with fail
    refine (validAir_any a _).mono ?_
    rintro q1 w1 ⟨rfl, hb⟩
    have xa0 := kcb hb (b := w.heap.size) (o := 0) (v := .int .i64 a.s) (by first | assumption | (refine cellUp ?_; assumption) | go_cell)
    have xa1 := kcb hb (b := w.heap.size) (o := 1) (v := .int .i64 a.w) (by first | assumption | (refine cellUp ?_; assumption) | go_cell)
    have xp0 := kcb hb (b := w.heap.size + 1) (o := 0) (v := .int .i64 p.x) (by first | assumption | (refine cellUp ?_; assumption) | go_cell)
    have xp1 := kcb hb (b := w.heap.size + 1) (o := 1) (v := .int .i64 p.y) (by first | assumption | (refine cellUp ?_; assumption) | go_cell)
    have B1 : Bl w w1 := Below.trans (by go_grown) (hb.mono (by (try simp only [World.size_alloc, World.size_setCell]); omega))
    have l1 := ltb xp1
    have l1_1 := ltb xa1
    have zz1 := B1.size
    clear hb
    rw [Q0.out]
    go_wp2_with fail
    exact bodyPost_ret (v := rB (suitsR a S n p)) (by simp [results, Try.results13, go_sem, HI.out, rB]) rfl ⟨rfl, by go_grown⟩

set_option maxRecDepth 100000 in
set_option maxHeartbeats 3200000 in
theorem valid5_any (a : Air) (A : Option Addr) (n c : Nat) (S : Nat → Sho) (w : World) (hA : Shl w A n S) (hn : n ≤ maxLen) :
    Calls Try.prog 23 #[encA a, .slice A n c] w fun e w' => e = .returned (.bool (decide (VA a ∧ VSh S n))) ∧ Bl w w' := by
  have HA := Lib.hid hA
  have HN := Lib.hid hn
  clear hA hn
  by_cases ha : VA a
  · have Q0 := Lib.hid (show decide (VA a) = true from decide_eq_true ha)
    have HI := Lib.hid (show decide (VA a ∧ VSh S n) = decide (VSh S n) by rw [Bool.eq_iff_iff]; simp [ha])
    clear ha
    go_enter Try.func23, Try.ntmps23
    go_wp2_with fail
    refine (rvalidAir_any a _).mono ?_
    rintro q1 w1 ⟨rfl, hb⟩
    have xa0 := kcb hb (b := w.heap.size) (o := 0) (v := .int .i64 a.s) (by first | assumption | (refine cellUp ?_; assumption) | go_cell)
    have xa1 := kcb hb (b := w.heap.size) (o := 1) (v := .int .i64 a.w) (by first | assumption | (refine cellUp ?_; assumption) | go_cell)
    have B1 : Bl w w1 := Below.trans (by go_grown) (hb.mono (by (try simp only [World.size_alloc, World.size_setCell]); omega))
    have l1 := ltb xa1
    have zz1 := B1.size
    clear hb
    rw [Q0.out]
    go_wp2_with fail
    refine (rvalidShots_any A n c S _ (HA.out.below (by exact B1)) HN.out).mono ?_
    rintro q2 w2 ⟨rfl, hb⟩
    have xa0 := kcb hb (b := w.heap.size) (o := 0) (v := .int .i64 a.s) (by first | assumption | (refine cellUp ?_; assumption) | go_cell)
    have xa1 := kcb hb (b := w.heap.size) (o := 1) (v := .int .i64 a.w) (by first | assumption | (refine cellUp ?_; assumption) | go_cell)
    have B2 : Bl w w2 := Below.trans (by go_grown) (hb.mono (by (try simp only [World.size_alloc, World.size_setCell]); omega))
    have l2 := ltb xa1
    have zz2 := B2.size
    clear hb
    go_wp2_with fail
    go_ret
    exact ⟨ret_bool (by rw [HI.out]), by go_grown⟩
  · have Q0 := Lib.hid (show decide (VA a) = false from decide_eq_false ha)
    have HI := Lib.hid (show decide (VA a ∧ VSh S n) = false from decide_eq_false fun g => ha g.1)
    clear ha
    go_enter Try.func23, Try.ntmps23
    go_wp2_with fail
    refine (rvalidAir_any a _).mono ?_
    rintro q1 w1 ⟨rfl, hb⟩
    have xa0 := kcb hb (b := w.heap.size) (o := 0) (v := .int .i64 a.s) (by first | assumption | (refine cellUp ?_; assumption) | go_cell)
    have xa1 := kcb hb (b := w.heap.size) (o := 1) (v := .int .i64 a.w) (by first | assumption | (refine cellUp ?_; assumption) | go_cell)
    have B1 : Bl w w1 := Below.trans (by go_grown) (hb.mono (by (try simp only [World.size_alloc, World.size_setCell]); omega))
    have l1 := ltb xa1
    have zz1 := B1.size
    clear hb
    rw [Q0.out]
    go_wp2_with fail
    go_ret
    exact ⟨ret_bool (by rw [HI.out]), by go_grown⟩

set_option maxHeartbeats 400000 in
theorem few_any (A : Option Addr) (n c : Nat) (w : World) (hn : n ≤ maxLen) : Calls Try.prog 5 #[.slice A n c] w fun e w' => e = .returned (.bool (decide (n ≤ 50))) ∧ Bl w w' := by
  unfold maxLen at hn
  go_enter Try.func5, Try.ntmps5
  go_wp2
  all_goals (go_ret; exact ⟨ret_bool (by rw [Bool.eq_iff_iff]; simp; try omega), by go_grown⟩)
