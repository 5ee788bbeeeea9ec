/-
  Where of package gun.
-/
import Derived.Test.YthemoomfbbccjaaHH
namespace Go.Proofs.Ythemoomfbbccjaa
open Go.RowKit Go.Shelf
set_option linter.unusedSimpArgs false
set_option linter.unusedVariables false
attribute [local go_sem] Oper.semAt_some

theorem Kg.bl {bx bs : Nat} {W W' : World} (h : Bl W W') : Kg bx bs W W' := ⟨fun o v hv => kcb h hv, fun o v hv => kcb h hv⟩
theorem Kg.put {bx bs N : Nat} (h1 : bx < N) (h2 : bs < N) (W : World) (l : Nat) (o' : Obj) (hl : N ≤ l) : Kg bx bs W (W.putObj l o') :=
  ⟨fun o v hv => (World.cell?_of_block (World.putObj_heap_other (by show bx ≠ l; omega))).trans hv, fun o v hv => (World.cell?_of_block (World.putObj_heap_other (by show bs ≠ l; omega))).trans hv⟩
theorem keeps_bl {B : Nat} {W W' : World} (h : Bl W W') : KeepsFrom B W W' := ⟨h.size, fun k o _ hk _ => (h.block k (Array.getElem?_eq_some_iff.1 hk).1).trans hk⟩
theorem boxed_blg {W W' : World} {B : Nat} {t : TypeId} {v : Value} (h : Boxed W B t v) (hb : Bl W W') : Boxed W' B t v := (hb.block B h.lt).trans h
theorem own_baseg {w : World} {base base' : Nat} {e : TypeId} {size : Nat} {v : Value} {n : Nat} {xs : List Value} (h : w.ownsRow base e size v n xs) (hb : base' ≤ base) : w.ownsRow base' e size v n xs := by
  obtain ⟨h1, h2 | ⟨g, cap, cur, e1, e2, rest⟩⟩ := h
  · exact ⟨h1, .inl h2⟩
  · exact ⟨h1, .inr ⟨g, cap, cur, e1, Nat.le_trans hb e2, rest⟩⟩
theorem grown_setg (W : World) (b o : Nat) (v : Value) : W.grownBy (W.setCell ⟨b, o, none⟩ v) (some b) :=
  ⟨rfl, rfl, rfl, (KeepsWalks.setCell W _ v).size, fun k _ hk => Below.heap_setCell _ _ _ k (fun e => hk (by rw [e]))⟩
theorem own_setg {w : World} {base b o : Nat} {e : TypeId} {size n g cap : Nat} {u : Value} {xs : List Value} (h : w.ownsRow base e size (.slice (some ⟨g, 0, none⟩) n cap) n xs) (hb : b < base) : (w.setCell ⟨b, o, none⟩ u).ownsRow base e size (.slice (some ⟨g, 0, none⟩) n cap) n xs := by
  refine h.kept (grown_setg w b o u) (.inr ?_)
  have hl := h.lt g rfl
  simp [Value.ownBlock]
  omega
theorem kg_app {W w1 : World} {tmp : Obj} {v : Value} {k N hi size : Nat} {e : TypeId} {xs : List Value} {u : Value} (hgrow : (W.alloc tmp).grownBy w1 v.ownBlock) (hrow : W.ownsRow hi e size v k xs) (hhi : hi ≤ W.heap.size) (hN : N + 1 + 1 < hi) :
    Kg (N + 1) (N + 1 + 1) W (w1.setCell ⟨N, 0, none⟩ u) := by
  have key : ∀ b, b ≠ N → b < hi → ∀ o, (w1.setCell ⟨N, 0, none⟩ u).cell? ⟨b, o, none⟩ = W.cell? ⟨b, o, none⟩ := fun b h1 h2 o => by
    refine World.cell?_of_block ?_
    rw [Below.heap_setCell _ _ _ b (by show b ≠ N; exact h1)]
    rw [hgrow.block b (by simp; omega) (fun e => by have := (hrow.lt b e.symm).1; omega)]
    exact Below.heap_alloc _ _ _ (by omega)
  exact ⟨fun o x hx => (key _ (by omega) (by omega) o).trans hx, fun o x hx => (key _ (by omega) hN o).trans hx⟩
/-- The places that suit. -/
def fP (P : Pt → Bool) (pre : List Pv) : List Pt := (pre.map Subtype.val).filter P
theorem fP_yes {P : Pt → Bool} {pre : List Pv} {x : Pv} (h : P x.1 = true) : fP P (pre ++ [x]) = fP P pre ++ [x.1] := by simp [fP, h]
theorem fP_no {P : Pt → Bool} {pre : List Pv} {x : Pv} (h : P x.1 = false) : fP P (pre ++ [x]) = fP P pre := by simp [fP, h]
theorem fP_len (P : Pt → Bool) (pre : List Pv) : (fP P pre).length ≤ pre.length := by
  have := List.length_filter_le P (pre.map Subtype.val)
  simpa [fP] using this
set_option maxRecDepth 100000 in
set_option maxHeartbeats 16000000 in
theorem Where_any (a : Air) (A : Option Addr) (n c : Nat) (S : Nat → Sho) (lo hi : Pt) (st : Int) (w : World) (hA : Shl w A n S) (hn : n ≤ maxLen) :
    Calls Try.prog 8 #[encA a, .slice A n c, encP lo, encP hi, .int .i64 st] w (WhPost a S n lo hi st w) := by
  obtain ⟨i0, hi0, hz0, hz1, hz2⟩ := info_parts point_info
  have HI := Lib.hid (And.intro hi0 (And.intro hz0 (And.intro hz1 hz2)))
  clear hi0 hz0 hz1 hz2
  have HA := Lib.hid hA
  have HN := Lib.hid hn
  clear hA hn
  by_cases ha : VA a
  rotate_left
  · have Q0 := Lib.hid (show decide (VA a) = false from decide_eq_false ha)
    have HE := Lib.hid (show whE a S n lo hi st = 1 by unfold whE; rw [if_neg (fun h => ha h.1)])
    clear ha
    go_enter Try.func8, Try.ntmps8
    go_wp2_with fail
    refine (validAir_any a _).mono ?_
    rintro q1 w1 ⟨rfl, hb⟩
    have xa0 := kcb hb (b := w.heap.size) (o := 0) (v := .int .i64 a.s) (by first | assumption | (refine cellUp ?_; assumption) | go_cell)
    have xa1 := kcb hb (b := w.heap.size) (o := 1) (v := .int .i64 a.w) (by first | assumption | (refine cellUp ?_; assumption) | go_cell)
    have xs0 := kcb hb (b := w.heap.size + 1) (o := 0) (v := .slice A n c) (by first | assumption | (refine cellUp ?_; assumption) | go_cell)
    have xp0 := kcb hb (b := w.heap.size + 1 + 1) (o := 0) (v := .int .i64 lo.x) (by first | assumption | (refine cellUp ?_; assumption) | go_cell)
    have xp1 := kcb hb (b := w.heap.size + 1 + 1) (o := 1) (v := .int .i64 lo.y) (by first | assumption | (refine cellUp ?_; assumption) | go_cell)
    have xq0 := kcb hb (b := w.heap.size + 1 + 1 + 1) (o := 0) (v := .int .i64 hi.x) (by first | assumption | (refine cellUp ?_; assumption) | go_cell)
    have xq1 := kcb hb (b := w.heap.size + 1 + 1 + 1) (o := 1) (v := .int .i64 hi.y) (by first | assumption | (refine cellUp ?_; assumption) | go_cell)
    have B1 : Bl w w1 := Below.trans (by go_grown) (hb.mono (by (try simp only [World.size_alloc, World.size_setCell, World.size_drew]); omega))
    have l1 := ltb xq1
    have l1_1 := ltb xp1
    have l1_2 := ltb xs0
    have l1_3 := ltb xa1
    have zz1 := B1.size
    clear hb
    rw [Q0.out]
    go_wp2_with fail
    go_ret2
    exact wh_bad HE.out (by decide) (by first | exact B1 | exact B1.tr (by go_grown) | go_grown)
  have Q0 := Lib.hid (show decide (VA a) = true from decide_eq_true ha)
  have HAA := Lib.hid ha
  clear ha
  by_cases hv : VSh S n
  rotate_left
  · have Q1 := Lib.hid (show decide (VSh S n) = false from decide_eq_false hv)
    have HE := Lib.hid (show whE a S n lo hi st = 1 by unfold whE; rw [if_neg (fun h => hv h.2)])
    clear hv
    go_enter Try.func8, Try.ntmps8
    go_wp2_with fail
    refine (validAir_any a _).mono ?_
    rintro q1 w1 ⟨rfl, hb⟩
    have xa0 := kcb hb (b := w.heap.size) (o := 0) (v := .int .i64 a.s) (by first | assumption | (refine cellUp ?_; assumption) | go_cell)
    have xa1 := kcb hb (b := w.heap.size) (o := 1) (v := .int .i64 a.w) (by first | assumption | (refine cellUp ?_; assumption) | go_cell)
    have xs0 := kcb hb (b := w.heap.size + 1) (o := 0) (v := .slice A n c) (by first | assumption | (refine cellUp ?_; assumption) | go_cell)
    have xp0 := kcb hb (b := w.heap.size + 1 + 1) (o := 0) (v := .int .i64 lo.x) (by first | assumption | (refine cellUp ?_; assumption) | go_cell)
    have xp1 := kcb hb (b := w.heap.size + 1 + 1) (o := 1) (v := .int .i64 lo.y) (by first | assumption | (refine cellUp ?_; assumption) | go_cell)
    have xq0 := kcb hb (b := w.heap.size + 1 + 1 + 1) (o := 0) (v := .int .i64 hi.x) (by first | assumption | (refine cellUp ?_; assumption) | go_cell)
    have xq1 := kcb hb (b := w.heap.size + 1 + 1 + 1) (o := 1) (v := .int .i64 hi.y) (by first | assumption | (refine cellUp ?_; assumption) | go_cell)
    have B1 : Bl w w1 := Below.trans (by go_grown) (hb.mono (by (try simp only [World.size_alloc, World.size_setCell, World.size_drew]); omega))
    have l1 := ltb xq1
    have l1_1 := ltb xp1
    have l1_2 := ltb xs0
    have l1_3 := ltb xa1
    have zz1 := B1.size
    clear hb
    rw [Q0.out]
    go_wp2_with fail
    refine (validShots_any A n c S _ (HA.out.below (by first | exact Bl.tr B1 (by go_grown) | go_grown)) HN.out).mono ?_
    rintro q2 w2 ⟨rfl, hb⟩
    have xa0 := kcb hb (b := w.heap.size) (o := 0) (v := .int .i64 a.s) (by first | assumption | (refine cellUp ?_; assumption) | go_cell)
    have xa1 := kcb hb (b := w.heap.size) (o := 1) (v := .int .i64 a.w) (by first | assumption | (refine cellUp ?_; assumption) | go_cell)
    have xs0 := kcb hb (b := w.heap.size + 1) (o := 0) (v := .slice A n c) (by first | assumption | (refine cellUp ?_; assumption) | go_cell)
    have xp0 := kcb hb (b := w.heap.size + 1 + 1) (o := 0) (v := .int .i64 lo.x) (by first | assumption | (refine cellUp ?_; assumption) | go_cell)
    have xp1 := kcb hb (b := w.heap.size + 1 + 1) (o := 1) (v := .int .i64 lo.y) (by first | assumption | (refine cellUp ?_; assumption) | go_cell)
    have xq0 := kcb hb (b := w.heap.size + 1 + 1 + 1) (o := 0) (v := .int .i64 hi.x) (by first | assumption | (refine cellUp ?_; assumption) | go_cell)
    have xq1 := kcb hb (b := w.heap.size + 1 + 1 + 1) (o := 1) (v := .int .i64 hi.y) (by first | assumption | (refine cellUp ?_; assumption) | go_cell)
    have B2 : Bl w w2 := Below.trans (by go_grown) (hb.mono (by (try simp only [World.size_alloc, World.size_setCell, World.size_drew]); omega))
    have l2 := ltb xq1
    have l2_1 := ltb xp1
    have l2_2 := ltb xs0
    have l2_3 := ltb xa1
    have zz2 := B2.size
    clear hb
    rw [Q1.out]
    go_wp2_with fail
    go_ret2
    exact wh_bad HE.out (by decide) (by first | exact B2 | exact B2.tr (by go_grown) | go_grown)
  have Q1 := Lib.hid (show decide (VSh S n) = true from decide_eq_true hv)
  have HV := Lib.hid hv
  clear hv
  by_cases hb : boxOk lo hi
  rotate_left
  · have Q2 := Lib.hid (show decide (boxOk lo hi) = false from decide_eq_false hb)
    have HE := Lib.hid (show whE a S n lo hi st = 7 by unfold whE; rw [if_pos ⟨HAA.out, HV.out⟩, if_neg (fun h => hb h.1)])
    clear hb
    go_enter Try.func8, Try.ntmps8
    go_wp2_with fail
    refine (validAir_any a _).mono ?_
    rintro q1 w1 ⟨rfl, hb⟩
    have xa0 := kcb hb (b := w.heap.size) (o := 0) (v := .int .i64 a.s) (by first | assumption | (refine cellUp ?_; assumption) | go_cell)
    have xa1 := kcb hb (b := w.heap.size) (o := 1) (v := .int .i64 a.w) (by first | assumption | (refine cellUp ?_; assumption) | go_cell)
    have xs0 := kcb hb (b := w.heap.size + 1) (o := 0) (v := .slice A n c) (by first | assumption | (refine cellUp ?_; assumption) | go_cell)
    have xp0 := kcb hb (b := w.heap.size + 1 + 1) (o := 0) (v := .int .i64 lo.x) (by first | assumption | (refine cellUp ?_; assumption) | go_cell)
    have xp1 := kcb hb (b := w.heap.size + 1 + 1) (o := 1) (v := .int .i64 lo.y) (by first | assumption | (refine cellUp ?_; assumption) | go_cell)
    have xq0 := kcb hb (b := w.heap.size + 1 + 1 + 1) (o := 0) (v := .int .i64 hi.x) (by first | assumption | (refine cellUp ?_; assumption) | go_cell)
    have xq1 := kcb hb (b := w.heap.size + 1 + 1 + 1) (o := 1) (v := .int .i64 hi.y) (by first | assumption | (refine cellUp ?_; assumption) | go_cell)
    have B1 : Bl w w1 := Below.trans (by go_grown) (hb.mono (by (try simp only [World.size_alloc, World.size_setCell, World.size_drew]); omega))
    have l1 := ltb xq1
    have l1_1 := ltb xp1
    have l1_2 := ltb xs0
    have l1_3 := ltb xa1
    have zz1 := B1.size
    clear hb
    rw [Q0.out]
    go_wp2_with fail
    refine (validShots_any A n c S _ (HA.out.below (by first | exact Bl.tr B1 (by go_grown) | go_grown)) HN.out).mono ?_
    rintro q2 w2 ⟨rfl, hb⟩
    have xa0 := kcb hb (b := w.heap.size) (o := 0) (v := .int .i64 a.s) (by first | assumption | (refine cellUp ?_; assumption) | go_cell)
    have xa1 := kcb hb (b := w.heap.size) (o := 1) (v := .int .i64 a.w) (by first | assumption | (refine cellUp ?_; assumption) | go_cell)
    have xs0 := kcb hb (b := w.heap.size + 1) (o := 0) (v := .slice A n c) (by first | assumption | (refine cellUp ?_; assumption) | go_cell)
    have xp0 := kcb hb (b := w.heap.size + 1 + 1) (o := 0) (v := .int .i64 lo.x) (by first | assumption | (refine cellUp ?_; assumption) | go_cell)
    have xp1 := kcb hb (b := w.heap.size + 1 + 1) (o := 1) (v := .int .i64 lo.y) (by first | assumption | (refine cellUp ?_; assumption) | go_cell)
    have xq0 := kcb hb (b := w.heap.size + 1 + 1 + 1) (o := 0) (v := .int .i64 hi.x) (by first | assumption | (refine cellUp ?_; assumption) | go_cell)
    have xq1 := kcb hb (b := w.heap.size + 1 + 1 + 1) (o := 1) (v := .int .i64 hi.y) (by first | assumption | (refine cellUp ?_; assumption) | go_cell)
    have B2 : Bl w w2 := Below.trans (by go_grown) (hb.mono (by (try simp only [World.size_alloc, World.size_setCell, World.size_drew]); omega))
    have l2 := ltb xq1
    have l2_1 := ltb xp1
    have l2_2 := ltb xs0
    have l2_3 := ltb xa1
    have zz2 := B2.size
    clear hb
    rw [Q1.out]
    go_wp2_with fail
    refine (boxValid_any lo hi _).mono ?_
    rintro q3 w3 ⟨rfl, hb⟩
    have xa0 := kcb hb (b := w.heap.size) (o := 0) (v := .int .i64 a.s) (by first | assumption | (refine cellUp ?_; assumption) | go_cell)
    have xa1 := kcb hb (b := w.heap.size) (o := 1) (v := .int .i64 a.w) (by first | assumption | (refine cellUp ?_; assumption) | go_cell)
    have xs0 := kcb hb (b := w.heap.size + 1) (o := 0) (v := .slice A n c) (by first | assumption | (refine cellUp ?_; assumption) | go_cell)
    have xp0 := kcb hb (b := w.heap.size + 1 + 1) (o := 0) (v := .int .i64 lo.x) (by first | assumption | (refine cellUp ?_; assumption) | go_cell)
    have xp1 := kcb hb (b := w.heap.size + 1 + 1) (o := 1) (v := .int .i64 lo.y) (by first | assumption | (refine cellUp ?_; assumption) | go_cell)
    have xq0 := kcb hb (b := w.heap.size + 1 + 1 + 1) (o := 0) (v := .int .i64 hi.x) (by first | assumption | (refine cellUp ?_; assumption) | go_cell)
    have xq1 := kcb hb (b := w.heap.size + 1 + 1 + 1) (o := 1) (v := .int .i64 hi.y) (by first | assumption | (refine cellUp ?_; assumption) | go_cell)
    have xb0 := kcb hb (b := w2.heap.size) (o := 0) (v := .int .i64 lo.x) (by first | assumption | (refine cellUp ?_; assumption) | go_cell)
    have xb1 := kcb hb (b := w2.heap.size) (o := 1) (v := .int .i64 lo.y) (by first | assumption | (refine cellUp ?_; assumption) | go_cell)
    have xb2 := kcb hb (b := w2.heap.size) (o := 2) (v := .int .i64 hi.x) (by first | assumption | (refine cellUp ?_; assumption) | go_cell)
    have xb3 := kcb hb (b := w2.heap.size) (o := 3) (v := .int .i64 hi.y) (by first | assumption | (refine cellUp ?_; assumption) | go_cell)
    have B3 : Bl w w3 := Below.trans (by go_grown) (hb.mono (by (try simp only [World.size_alloc, World.size_setCell, World.size_drew]); omega))
    have l3 := ltb xb3
    have l3_1 := ltb xq1
    have l3_2 := ltb xp1
    have l3_3 := ltb xs0
    have l3_4 := ltb xa1
    have zz3 := B3.size
    clear hb
    rw [Q2.out]
    go_wp2_with fail
    go_ret2
    exact wh_bad HE.out (by decide) (by first | exact B3 | exact B3.tr (by go_grown) | go_grown)
  have Q2 := Lib.hid (show decide (boxOk lo hi) = true from decide_eq_true hb)
  have HB := Lib.hid hb
  clear hb
  by_cases hs : stOk st
  rotate_left
  · have HE := Lib.hid (show whE a S n lo hi st = 7 by unfold whE; rw [if_pos ⟨HAA.out, HV.out⟩, if_neg (fun h => hs h.2)])
    unfold stOk at hs
    by_cases s1 : st < 1
    · clear hs
      go_enter Try.func8, Try.ntmps8
      go_wp2_with fail
      refine (validAir_any a _).mono ?_
      rintro q1 w1 ⟨rfl, hb⟩
      have xa0 := kcb hb (b := w.heap.size) (o := 0) (v := .int .i64 a.s) (by first | assumption | (refine cellUp ?_; assumption) | go_cell)
      have xa1 := kcb hb (b := w.heap.size) (o := 1) (v := .int .i64 a.w) (by first | assumption | (refine cellUp ?_; assumption) | go_cell)
      have xs0 := kcb hb (b := w.heap.size + 1) (o := 0) (v := .slice A n c) (by first | assumption | (refine cellUp ?_; assumption) | go_cell)
      have xp0 := kcb hb (b := w.heap.size + 1 + 1) (o := 0) (v := .int .i64 lo.x) (by first | assumption | (refine cellUp ?_; assumption) | go_cell)
      have xp1 := kcb hb (b := w.heap.size + 1 + 1) (o := 1) (v := .int .i64 lo.y) (by first | assumption | (refine cellUp ?_; assumption) | go_cell)
      have xq0 := kcb hb (b := w.heap.size + 1 + 1 + 1) (o := 0) (v := .int .i64 hi.x) (by first | assumption | (refine cellUp ?_; assumption) | go_cell)
      have xq1 := kcb hb (b := w.heap.size + 1 + 1 + 1) (o := 1) (v := .int .i64 hi.y) (by first | assumption | (refine cellUp ?_; assumption) | go_cell)
      have B1 : Bl w w1 := Below.trans (by go_grown) (hb.mono (by (try simp only [World.size_alloc, World.size_setCell, World.size_drew]); omega))
      have l1 := ltb xq1
      have l1_1 := ltb xp1
      have l1_2 := ltb xs0
      have l1_3 := ltb xa1
      have zz1 := B1.size
      clear hb
      rw [Q0.out]
      go_wp2_with fail
      refine (validShots_any A n c S _ (HA.out.below (by first | exact Bl.tr B1 (by go_grown) | go_grown)) HN.out).mono ?_
      rintro q2 w2 ⟨rfl, hb⟩
      have xa0 := kcb hb (b := w.heap.size) (o := 0) (v := .int .i64 a.s) (by first | assumption | (refine cellUp ?_; assumption) | go_cell)
      have xa1 := kcb hb (b := w.heap.size) (o := 1) (v := .int .i64 a.w) (by first | assumption | (refine cellUp ?_; assumption) | go_cell)
      have xs0 := kcb hb (b := w.heap.size + 1) (o := 0) (v := .slice A n c) (by first | assumption | (refine cellUp ?_; assumption) | go_cell)
      have xp0 := kcb hb (b := w.heap.size + 1 + 1) (o := 0) (v := .int .i64 lo.x) (by first | assumption | (refine cellUp ?_; assumption) | go_cell)
      have xp1 := kcb hb (b := w.heap.size + 1 + 1) (o := 1) (v := .int .i64 lo.y) (by first | assumption | (refine cellUp ?_; assumption) | go_cell)
      have xq0 := kcb hb (b := w.heap.size + 1 + 1 + 1) (o := 0) (v := .int .i64 hi.x) (by first | assumption | (refine cellUp ?_; assumption) | go_cell)
      have xq1 := kcb hb (b := w.heap.size + 1 + 1 + 1) (o := 1) (v := .int .i64 hi.y) (by first | assumption | (refine cellUp ?_; assumption) | go_cell)
      have B2 : Bl w w2 := Below.trans (by go_grown) (hb.mono (by (try simp only [World.size_alloc, World.size_setCell, World.size_drew]); omega))
      have l2 := ltb xq1
      have l2_1 := ltb xp1
      have l2_2 := ltb xs0
      have l2_3 := ltb xa1
      have zz2 := B2.size
      clear hb
      rw [Q1.out]
      go_wp2_with fail
      refine (boxValid_any lo hi _).mono ?_
      rintro q3 w3 ⟨rfl, hb⟩
      have xa0 := kcb hb (b := w.heap.size) (o := 0) (v := .int .i64 a.s) (by first | assumption | (refine cellUp ?_; assumption) | go_cell)
      have xa1 := kcb hb (b := w.heap.size) (o := 1) (v := .int .i64 a.w) (by first | assumption | (refine cellUp ?_; assumption) | go_cell)
      have xs0 := kcb hb (b := w.heap.size + 1) (o := 0) (v := .slice A n c) (by first | assumption | (refine cellUp ?_; assumption) | go_cell)
      have xp0 := kcb hb (b := w.heap.size + 1 + 1) (o := 0) (v := .int .i64 lo.x) (by first | assumption | (refine cellUp ?_; assumption) | go_cell)
      have xp1 := kcb hb (b := w.heap.size + 1 + 1) (o := 1) (v := .int .i64 lo.y) (by first | assumption | (refine cellUp ?_; assumption) | go_cell)
      have xq0 := kcb hb (b := w.heap.size + 1 + 1 + 1) (o := 0) (v := .int .i64 hi.x) (by first | assumption | (refine cellUp ?_; assumption) | go_cell)
      have xq1 := kcb hb (b := w.heap.size + 1 + 1 + 1) (o := 1) (v := .int .i64 hi.y) (by first | assumption | (refine cellUp ?_; assumption) | go_cell)
      have xb0 := kcb hb (b := w2.heap.size) (o := 0) (v := .int .i64 lo.x) (by first | assumption | (refine cellUp ?_; assumption) | go_cell)
      have xb1 := kcb hb (b := w2.heap.size) (o := 1) (v := .int .i64 lo.y) (by first | assumption | (refine cellUp ?_; assumption) | go_cell)
      have xb2 := kcb hb (b := w2.heap.size) (o := 2) (v := .int .i64 hi.x) (by first | assumption | (refine cellUp ?_; assumption) | go_cell)
      have xb3 := kcb hb (b := w2.heap.size) (o := 3) (v := .int .i64 hi.y) (by first | assumption | (refine cellUp ?_; assumption) | go_cell)
      have B3 : Bl w w3 := Below.trans (by go_grown) (hb.mono (by (try simp only [World.size_alloc, World.size_setCell, World.size_drew]); omega))
      have l3 := ltb xb3
      have l3_1 := ltb xq1
      have l3_2 := ltb xp1
      have l3_3 := ltb xs0
      have l3_4 := ltb xa1
      have zz3 := B3.size
      clear hb
      rw [Q2.out]
      go_wp2_with fail
      go_ret2
      exact wh_bad HE.out (by decide) (by first | exact B3 | exact B3.tr (by go_grown) | go_grown)
    · have s2 : 10000 < st := by omega
      have s1' : 1 ≤ st := by omega
      clear hs s1
      go_enter Try.func8, Try.ntmps8
      go_wp2_with fail
      refine (validAir_any a _).mono ?_
      rintro q1 w1 ⟨rfl, hb⟩
      have xa0 := kcb hb (b := w.heap.size) (o := 0) (v := .int .i64 a.s) (by first | assumption | (refine cellUp ?_; assumption) | go_cell)
      have xa1 := kcb hb (b := w.heap.size) (o := 1) (v := .int .i64 a.w) (by first | assumption | (refine cellUp ?_; assumption) | go_cell)
      have xs0 := kcb hb (b := w.heap.size + 1) (o := 0) (v := .slice A n c) (by first | assumption | (refine cellUp ?_; assumption) | go_cell)
      have xp0 := kcb hb (b := w.heap.size + 1 + 1) (o := 0) (v := .int .i64 lo.x) (by first | assumption | (refine cellUp ?_; assumption) | go_cell)
      have xp1 := kcb hb (b := w.heap.size + 1 + 1) (o := 1) (v := .int .i64 lo.y) (by first | assumption | (refine cellUp ?_; assumption) | go_cell)
      have xq0 := kcb hb (b := w.heap.size + 1 + 1 + 1) (o := 0) (v := .int .i64 hi.x) (by first | assumption | (refine cellUp ?_; assumption) | go_cell)
      have xq1 := kcb hb (b := w.heap.size + 1 + 1 + 1) (o := 1) (v := .int .i64 hi.y) (by first | assumption | (refine cellUp ?_; assumption) | go_cell)
      have B1 : Bl w w1 := Below.trans (by go_grown) (hb.mono (by (try simp only [World.size_alloc, World.size_setCell, World.size_drew]); omega))
      have l1 := ltb xq1
      have l1_1 := ltb xp1
      have l1_2 := ltb xs0
      have l1_3 := ltb xa1
      have zz1 := B1.size
      clear hb
      rw [Q0.out]
      go_wp2_with fail
      refine (validShots_any A n c S _ (HA.out.below (by first | exact Bl.tr B1 (by go_grown) | go_grown)) HN.out).mono ?_
      rintro q2 w2 ⟨rfl, hb⟩
      have xa0 := kcb hb (b := w.heap.size) (o := 0) (v := .int .i64 a.s) (by first | assumption | (refine cellUp ?_; assumption) | go_cell)
      have xa1 := kcb hb (b := w.heap.size) (o := 1) (v := .int .i64 a.w) (by first | assumption | (refine cellUp ?_; assumption) | go_cell)
      have xs0 := kcb hb (b := w.heap.size + 1) (o := 0) (v := .slice A n c) (by first | assumption | (refine cellUp ?_; assumption) | go_cell)
      have xp0 := kcb hb (b := w.heap.size + 1 + 1) (o := 0) (v := .int .i64 lo.x) (by first | assumption | (refine cellUp ?_; assumption) | go_cell)
      have xp1 := kcb hb (b := w.heap.size + 1 + 1) (o := 1) (v := .int .i64 lo.y) (by first | assumption | (refine cellUp ?_; assumption) | go_cell)
      have xq0 := kcb hb (b := w.heap.size + 1 + 1 + 1) (o := 0) (v := .int .i64 hi.x) (by first | assumption | (refine cellUp ?_; assumption) | go_cell)
      have xq1 := kcb hb (b := w.heap.size + 1 + 1 + 1) (o := 1) (v := .int .i64 hi.y) (by first | assumption | (refine cellUp ?_; assumption) | go_cell)
      have B2 : Bl w w2 := Below.trans (by go_grown) (hb.mono (by (try simp only [World.size_alloc, World.size_setCell, World.size_drew]); omega))
      have l2 := ltb xq1
      have l2_1 := ltb xp1
      have l2_2 := ltb xs0
      have l2_3 := ltb xa1
      have zz2 := B2.size
      clear hb
      rw [Q1.out]
      go_wp2_with fail
      refine (boxValid_any lo hi _).mono ?_
      rintro q3 w3 ⟨rfl, hb⟩
      have xa0 := kcb hb (b := w.heap.size) (o := 0) (v := .int .i64 a.s) (by first | assumption | (refine cellUp ?_; assumption) | go_cell)
      have xa1 := kcb hb (b := w.heap.size) (o := 1) (v := .int .i64 a.w) (by first | assumption | (refine cellUp ?_; assumption) | go_cell)
      have xs0 := kcb hb (b := w.heap.size + 1) (o := 0) (v := .slice A n c) (by first | assumption | (refine cellUp ?_; assumption) | go_cell)
      have xp0 := kcb hb (b := w.heap.size + 1 + 1) (o := 0) (v := .int .i64 lo.x) (by first | assumption | (refine cellUp ?_; assumption) | go_cell)
      have xp1 := kcb hb (b := w.heap.size + 1 + 1) (o := 1) (v := .int .i64 lo.y) (by first | assumption | (refine cellUp ?_; assumption) | go_cell)
      have xq0 := kcb hb (b := w.heap.size + 1 + 1 + 1) (o := 0) (v := .int .i64 hi.x) (by first | assumption | (refine cellUp ?_; assumption) | go_cell)
      have xq1 := kcb hb (b := w.heap.size + 1 + 1 + 1) (o := 1) (v := .int .i64 hi.y) (by first | assumption | (refine cellUp ?_; assumption) | go_cell)
      have xb0 := kcb hb (b := w2.heap.size) (o := 0) (v := .int .i64 lo.x) (by first | assumption | (refine cellUp ?_; assumption) | go_cell)
      have xb1 := kcb hb (b := w2.heap.size) (o := 1) (v := .int .i64 lo.y) (by first | assumption | (refine cellUp ?_; assumption) | go_cell)
      have xb2 := kcb hb (b := w2.heap.size) (o := 2) (v := .int .i64 hi.x) (by first | assumption | (refine cellUp ?_; assumption) | go_cell)
      have xb3 := kcb hb (b := w2.heap.size) (o := 3) (v := .int .i64 hi.y) (by first | assumption | (refine cellUp ?_; assumption) | go_cell)
      have B3 : Bl w w3 := Below.trans (by go_grown) (hb.mono (by (try simp only [World.size_alloc, World.size_setCell, World.size_drew]); omega))
      have l3 := ltb xb3
      have l3_1 := ltb xq1
      have l3_2 := ltb xp1
      have l3_3 := ltb xs0
      have l3_4 := ltb xa1
      have zz3 := B3.size
      clear hb
      rw [Q2.out]
      go_wp2_with fail
      go_ret2
      exact wh_bad HE.out (by decide) (by first | exact B3 | exact B3.tr (by go_grown) | go_grown)
  have HST := Lib.hid hs
  obtain ⟨s1, s2⟩ := hs
  obtain ⟨m, hm⟩ : ∃ m, m = cntF lo hi st := ⟨_, rfl⟩
  have HM := Lib.hid hm
  by_cases hc : 10000 < m
  · have HE := Lib.hid (show whE a S n lo hi st = 4 by unfold whE; rw [if_pos ⟨HAA.out, HV.out⟩, if_pos ⟨HB.out, HST.out⟩, if_pos (by rw [← hm]; exact hc)])
    clear hm
    go_enter Try.func8, Try.ntmps8
    go_wp2_with fail
    refine (validAir_any a _).mono ?_
    rintro q1 w1 ⟨rfl, hb⟩
    have xa0 := kcb hb (b := w.heap.size) (o := 0) (v := .int .i64 a.s) (by first | assumption | (refine cellUp ?_; assumption) | go_cell)
    have xa1 := kcb hb (b := w.heap.size) (o := 1) (v := .int .i64 a.w) (by first | assumption | (refine cellUp ?_; assumption) | go_cell)
    have xs0 := kcb hb (b := w.heap.size + 1) (o := 0) (v := .slice A n c) (by first | assumption | (refine cellUp ?_; assumption) | go_cell)
    have xp0 := kcb hb (b := w.heap.size + 1 + 1) (o := 0) (v := .int .i64 lo.x) (by first | assumption | (refine cellUp ?_; assumption) | go_cell)
    have xp1 := kcb hb (b := w.heap.size + 1 + 1) (o := 1) (v := .int .i64 lo.y) (by first | assumption | (refine cellUp ?_; assumption) | go_cell)
    have xq0 := kcb hb (b := w.heap.size + 1 + 1 + 1) (o := 0) (v := .int .i64 hi.x) (by first | assumption | (refine cellUp ?_; assumption) | go_cell)
    have xq1 := kcb hb (b := w.heap.size + 1 + 1 + 1) (o := 1) (v := .int .i64 hi.y) (by first | assumption | (refine cellUp ?_; assumption) | go_cell)
    have B1 : Bl w w1 := Below.trans (by go_grown) (hb.mono (by (try simp only [World.size_alloc, World.size_setCell, World.size_drew]); omega))
    have l1 := ltb xq1
    have l1_1 := ltb xp1
    have l1_2 := ltb xs0
    have l1_3 := ltb xa1
    have zz1 := B1.size
    clear hb
    rw [Q0.out]
    go_wp2_with fail
    refine (validShots_any A n c S _ (HA.out.below (by first | exact Bl.tr B1 (by go_grown) | go_grown)) HN.out).mono ?_
    rintro q2 w2 ⟨rfl, hb⟩
    have xa0 := kcb hb (b := w.heap.size) (o := 0) (v := .int .i64 a.s) (by first | assumption | (refine cellUp ?_; assumption) | go_cell)
    have xa1 := kcb hb (b := w.heap.size) (o := 1) (v := .int .i64 a.w) (by first | assumption | (refine cellUp ?_; assumption) | go_cell)
    have xs0 := kcb hb (b := w.heap.size + 1) (o := 0) (v := .slice A n c) (by first | assumption | (refine cellUp ?_; assumption) | go_cell)
    have xp0 := kcb hb (b := w.heap.size + 1 + 1) (o := 0) (v := .int .i64 lo.x) (by first | assumption | (refine cellUp ?_; assumption) | go_cell)
    have xp1 := kcb hb (b := w.heap.size + 1 + 1) (o := 1) (v := .int .i64 lo.y) (by first | assumption | (refine cellUp ?_; assumption) | go_cell)
    have xq0 := kcb hb (b := w.heap.size + 1 + 1 + 1) (o := 0) (v := .int .i64 hi.x) (by first | assumption | (refine cellUp ?_; assumption) | go_cell)
    have xq1 := kcb hb (b := w.heap.size + 1 + 1 + 1) (o := 1) (v := .int .i64 hi.y) (by first | assumption | (refine cellUp ?_; assumption) | go_cell)
    have B2 : Bl w w2 := Below.trans (by go_grown) (hb.mono (by (try simp only [World.size_alloc, World.size_setCell, World.size_drew]); omega))
    have l2 := ltb xq1
    have l2_1 := ltb xp1
    have l2_2 := ltb xs0
    have l2_3 := ltb xa1
    have zz2 := B2.size
    clear hb
    rw [Q1.out]
    go_wp2_with fail
    refine (boxValid_any lo hi _).mono ?_
    rintro q3 w3 ⟨rfl, hb⟩
    have xa0 := kcb hb (b := w.heap.size) (o := 0) (v := .int .i64 a.s) (by first | assumption | (refine cellUp ?_; assumption) | go_cell)
    have xa1 := kcb hb (b := w.heap.size) (o := 1) (v := .int .i64 a.w) (by first | assumption | (refine cellUp ?_; assumption) | go_cell)
    have xs0 := kcb hb (b := w.heap.size + 1) (o := 0) (v := .slice A n c) (by first | assumption | (refine cellUp ?_; assumption) | go_cell)
    have xp0 := kcb hb (b := w.heap.size + 1 + 1) (o := 0) (v := .int .i64 lo.x) (by first | assumption | (refine cellUp ?_; assumption) | go_cell)
    have xp1 := kcb hb (b := w.heap.size + 1 + 1) (o := 1) (v := .int .i64 lo.y) (by first | assumption | (refine cellUp ?_; assumption) | go_cell)
    have xq0 := kcb hb (b := w.heap.size + 1 + 1 + 1) (o := 0) (v := .int .i64 hi.x) (by first | assumption | (refine cellUp ?_; assumption) | go_cell)
    have xq1 := kcb hb (b := w.heap.size + 1 + 1 + 1) (o := 1) (v := .int .i64 hi.y) (by first | assumption | (refine cellUp ?_; assumption) | go_cell)
    have xb0 := kcb hb (b := w2.heap.size) (o := 0) (v := .int .i64 lo.x) (by first | assumption | (refine cellUp ?_; assumption) | go_cell)
    have xb1 := kcb hb (b := w2.heap.size) (o := 1) (v := .int .i64 lo.y) (by first | assumption | (refine cellUp ?_; assumption) | go_cell)
    have xb2 := kcb hb (b := w2.heap.size) (o := 2) (v := .int .i64 hi.x) (by first | assumption | (refine cellUp ?_; assumption) | go_cell)
    have xb3 := kcb hb (b := w2.heap.size) (o := 3) (v := .int .i64 hi.y) (by first | assumption | (refine cellUp ?_; assumption) | go_cell)
    have B3 : Bl w w3 := Below.trans (by go_grown) (hb.mono (by (try simp only [World.size_alloc, World.size_setCell, World.size_drew]); omega))
    have l3 := ltb xb3
    have l3_1 := ltb xq1
    have l3_2 := ltb xp1
    have l3_3 := ltb xs0
    have l3_4 := ltb xa1
    have zz3 := B3.size
    clear hb
    rw [Q2.out]
    go_wp2_with fail
    refine (count_any lo hi st _ HB.out HST.out).mono ?_
    rintro q4 w4 ⟨rfl, hb⟩
    have xa0 := kcb hb (b := w.heap.size) (o := 0) (v := .int .i64 a.s) (by first | assumption | (refine cellUp ?_; assumption) | go_cell)
    have xa1 := kcb hb (b := w.heap.size) (o := 1) (v := .int .i64 a.w) (by first | assumption | (refine cellUp ?_; assumption) | go_cell)
    have xs0 := kcb hb (b := w.heap.size + 1) (o := 0) (v := .slice A n c) (by first | assumption | (refine cellUp ?_; assumption) | go_cell)
    have xp0 := kcb hb (b := w.heap.size + 1 + 1) (o := 0) (v := .int .i64 lo.x) (by first | assumption | (refine cellUp ?_; assumption) | go_cell)
    have xp1 := kcb hb (b := w.heap.size + 1 + 1) (o := 1) (v := .int .i64 lo.y) (by first | assumption | (refine cellUp ?_; assumption) | go_cell)
    have xq0 := kcb hb (b := w.heap.size + 1 + 1 + 1) (o := 0) (v := .int .i64 hi.x) (by first | assumption | (refine cellUp ?_; assumption) | go_cell)
    have xq1 := kcb hb (b := w.heap.size + 1 + 1 + 1) (o := 1) (v := .int .i64 hi.y) (by first | assumption | (refine cellUp ?_; assumption) | go_cell)
    have xb0 := kcb hb (b := w2.heap.size) (o := 0) (v := .int .i64 lo.x) (by first | assumption | (refine cellUp ?_; assumption) | go_cell)
    have xb1 := kcb hb (b := w2.heap.size) (o := 1) (v := .int .i64 lo.y) (by first | assumption | (refine cellUp ?_; assumption) | go_cell)
    have xb2 := kcb hb (b := w2.heap.size) (o := 2) (v := .int .i64 hi.x) (by first | assumption | (refine cellUp ?_; assumption) | go_cell)
    have xb3 := kcb hb (b := w2.heap.size) (o := 3) (v := .int .i64 hi.y) (by first | assumption | (refine cellUp ?_; assumption) | go_cell)
    have B4 : Bl w w4 := Below.trans (by go_grown) (hb.mono (by (try simp only [World.size_alloc, World.size_setCell, World.size_drew]); omega))
    have l4 := ltb xb3
    have l4_1 := ltb xq1
    have l4_2 := ltb xp1
    have l4_3 := ltb xs0
    have l4_4 := ltb xa1
    have zz4 := B4.size
    clear hb
    rw [← HM.out]
    go_wp2_with fail
    go_ret2
    exact wh_bad HE.out (by decide) (by first | exact B4 | exact B4.tr (by go_grown) | go_grown)
  have HE := Lib.hid (show whE a S n lo hi st = 0 by unfold whE; rw [if_pos ⟨HAA.out, HV.out⟩, if_pos ⟨HB.out, HST.out⟩, if_neg (by rw [← hm]; exact hc)])
  have HCN := Lib.hid (cnt_nat HB.out HST.out (by rw [← hm]; exact hc))
  have hc' : m ≤ 10000 := by omega
  clear hm hc
  refine (callsIn_wide (n := 3)).1 ?_
  refine callsIn_of_wp_marks Try.func8 rfl trivial ?_ rfl
  simp only [Try.ntmps8, List.size_toArray, List.length_cons, List.length_nil, Nat.reduceAdd, Nat.reduceSub, Array.replicate_succ, Array.replicate_zero, List.push_toArray, List.append_toArray, List.nil_append, List.cons_append]
  gi_wp2_with fail
  refine ⟨trivial, ?_⟩
  refine (callsIn_wide.2 (validAir_any a _)).mono ?_
  rintro q1 w1 ⟨rfl, hb⟩
  have xa0 := kcb hb (b := w.heap.size) (o := 0) (v := .int .i64 a.s) (by first | assumption | (refine cellUp ?_; assumption) | go_cell)
  have xa1 := kcb hb (b := w.heap.size) (o := 1) (v := .int .i64 a.w) (by first | assumption | (refine cellUp ?_; assumption) | go_cell)
  have xs0 := kcb hb (b := w.heap.size + 1) (o := 0) (v := .slice A n c) (by first | assumption | (refine cellUp ?_; assumption) | go_cell)
  have xp0 := kcb hb (b := w.heap.size + 1 + 1) (o := 0) (v := .int .i64 lo.x) (by first | assumption | (refine cellUp ?_; assumption) | go_cell)
  have xp1 := kcb hb (b := w.heap.size + 1 + 1) (o := 1) (v := .int .i64 lo.y) (by first | assumption | (refine cellUp ?_; assumption) | go_cell)
  have xq0 := kcb hb (b := w.heap.size + 1 + 1 + 1) (o := 0) (v := .int .i64 hi.x) (by first | assumption | (refine cellUp ?_; assumption) | go_cell)
  have xq1 := kcb hb (b := w.heap.size + 1 + 1 + 1) (o := 1) (v := .int .i64 hi.y) (by first | assumption | (refine cellUp ?_; assumption) | go_cell)
  have B1 : Bl w w1 := Below.trans (by go_grown) (hb.mono (by (try simp only [World.size_alloc, World.size_setCell, World.size_drew]); omega))
  have l1 := ltb xq1
  have l1_1 := ltb xp1
  have l1_2 := ltb xs0
  have l1_3 := ltb xa1
  have zz1 := B1.size
  clear hb
  rw [Q0.out]
  gi_wp2_with fail
  refine ⟨trivial, ?_⟩
  refine (callsIn_wide.2 (validShots_any A n c S _ (HA.out.below (by first | exact Bl.tr B1 (by go_grown) | go_grown)) HN.out)).mono ?_
  rintro q2 w2 ⟨rfl, hb⟩
  have xa0 := kcb hb (b := w.heap.size) (o := 0) (v := .int .i64 a.s) (by first | assumption | (refine cellUp ?_; assumption) | go_cell)
  have xa1 := kcb hb (b := w.heap.size) (o := 1) (v := .int .i64 a.w) (by first | assumption | (refine cellUp ?_; assumption) | go_cell)
  have xs0 := kcb hb (b := w.heap.size + 1) (o := 0) (v := .slice A n c) (by first | assumption | (refine cellUp ?_; assumption) | go_cell)
  have xp0 := kcb hb (b := w.heap.size + 1 + 1) (o := 0) (v := .int .i64 lo.x) (by first | assumption | (refine cellUp ?_; assumption) | go_cell)
  have xp1 := kcb hb (b := w.heap.size + 1 + 1) (o := 1) (v := .int .i64 lo.y) (by first | assumption | (refine cellUp ?_; assumption) | go_cell)
  have xq0 := kcb hb (b := w.heap.size + 1 + 1 + 1) (o := 0) (v := .int .i64 hi.x) (by first | assumption | (refine cellUp ?_; assumption) | go_cell)
  have xq1 := kcb hb (b := w.heap.size + 1 + 1 + 1) (o := 1) (v := .int .i64 hi.y) (by first | assumption | (refine cellUp ?_; assumption) | go_cell)
  have B2 : Bl w w2 := Below.trans (by go_grown) (hb.mono (by (try simp only [World.size_alloc, World.size_setCell, World.size_drew]); omega))
  have l2 := ltb xq1
  have l2_1 := ltb xp1
  have l2_2 := ltb xs0
  have l2_3 := ltb xa1
  have zz2 := B2.size
  clear hb
  rw [Q1.out]
  gi_wp2_with fail
  refine ⟨trivial, ?_⟩
  refine (callsIn_wide.2 (boxValid_any lo hi _)).mono ?_
  rintro q3 w3 ⟨rfl, hb⟩
  have xa0 := kcb hb (b := w.heap.size) (o := 0) (v := .int .i64 a.s) (by first | assumption | (refine cellUp ?_; assumption) | go_cell)
  have xa1 := kcb hb (b := w.heap.size) (o := 1) (v := .int .i64 a.w) (by first | assumption | (refine cellUp ?_; assumption) | go_cell)
  have xs0 := kcb hb (b := w.heap.size + 1) (o := 0) (v := .slice A n c) (by first | assumption | (refine cellUp ?_; assumption) | go_cell)
  have xp0 := kcb hb (b := w.heap.size + 1 + 1) (o := 0) (v := .int .i64 lo.x) (by first | assumption | (refine cellUp ?_; assumption) | go_cell)
  have xp1 := kcb hb (b := w.heap.size + 1 + 1) (o := 1) (v := .int .i64 lo.y) (by first | assumption | (refine cellUp ?_; assumption) | go_cell)
  have xq0 := kcb hb (b := w.heap.size + 1 + 1 + 1) (o := 0) (v := .int .i64 hi.x) (by first | assumption | (refine cellUp ?_; assumption) | go_cell)
  have xq1 := kcb hb (b := w.heap.size + 1 + 1 + 1) (o := 1) (v := .int .i64 hi.y) (by first | assumption | (refine cellUp ?_; assumption) | go_cell)
  have xb0 := kcb hb (b := w2.heap.size) (o := 0) (v := .int .i64 lo.x) (by first | assumption | (refine cellUp ?_; assumption) | go_cell)
  have xb1 := kcb hb (b := w2.heap.size) (o := 1) (v := .int .i64 lo.y) (by first | assumption | (refine cellUp ?_; assumption) | go_cell)
  have xb2 := kcb hb (b := w2.heap.size) (o := 2) (v := .int .i64 hi.x) (by first | assumption | (refine cellUp ?_; assumption) | go_cell)
  have xb3 := kcb hb (b := w2.heap.size) (o := 3) (v := .int .i64 hi.y) (by first | assumption | (refine cellUp ?_; assumption) | go_cell)
  have B3 : Bl w w3 := Below.trans (by go_grown) (hb.mono (by (try simp only [World.size_alloc, World.size_setCell, World.size_drew]); omega))
  have l3 := ltb xb3
  have l3_1 := ltb xq1
  have l3_2 := ltb xp1
  have l3_3 := ltb xs0
  have l3_4 := ltb xa1
  have zz3 := B3.size
  clear hb
  rw [Q2.out]
  gi_wp2_with fail
  refine ⟨trivial, ?_⟩
  refine (callsIn_wide.2 (count_any lo hi st _ HB.out HST.out)).mono ?_
  rintro q4 w4 ⟨rfl, hb⟩
  have xa0 := kcb hb (b := w.heap.size) (o := 0) (v := .int .i64 a.s) (by first | assumption | (refine cellUp ?_; assumption) | go_cell)
  have xa1 := kcb hb (b := w.heap.size) (o := 1) (v := .int .i64 a.w) (by first | assumption | (refine cellUp ?_; assumption) | go_cell)
  have xs0 := kcb hb (b := w.heap.size + 1) (o := 0) (v := .slice A n c) (by first | assumption | (refine cellUp ?_; assumption) | go_cell)
  have xp0 := kcb hb (b := w.heap.size + 1 + 1) (o := 0) (v := .int .i64 lo.x) (by first | assumption | (refine cellUp ?_; assumption) | go_cell)
  have xp1 := kcb hb (b := w.heap.size + 1 + 1) (o := 1) (v := .int .i64 lo.y) (by first | assumption | (refine cellUp ?_; assumption) | go_cell)
  have xq0 := kcb hb (b := w.heap.size + 1 + 1 + 1) (o := 0) (v := .int .i64 hi.x) (by first | assumption | (refine cellUp ?_; assumption) | go_cell)
  have xq1 := kcb hb (b := w.heap.size + 1 + 1 + 1) (o := 1) (v := .int .i64 hi.y) (by first | assumption | (refine cellUp ?_; assumption) | go_cell)
  have xb0 := kcb hb (b := w2.heap.size) (o := 0) (v := .int .i64 lo.x) (by first | assumption | (refine cellUp ?_; assumption) | go_cell)
  have xb1 := kcb hb (b := w2.heap.size) (o := 1) (v := .int .i64 lo.y) (by first | assumption | (refine cellUp ?_; assumption) | go_cell)
  have xb2 := kcb hb (b := w2.heap.size) (o := 2) (v := .int .i64 hi.x) (by first | assumption | (refine cellUp ?_; assumption) | go_cell)
  have xb3 := kcb hb (b := w2.heap.size) (o := 3) (v := .int .i64 hi.y) (by first | assumption | (refine cellUp ?_; assumption) | go_cell)
  have B4 : Bl w w4 := Below.trans (by go_grown) (hb.mono (by (try simp only [World.size_alloc, World.size_setCell, World.size_drew]); omega))
  have l4 := ltb xb3
  have l4_1 := ltb xq1
  have l4_2 := ltb xp1
  have l4_3 := ltb xs0
  have l4_4 := ltb xa1
  have zz4 := B4.size
  clear hb
  rw [← HM.out]
  gi_wp2_with fail
  refine ⟨trivial, ?_⟩
  obtain ⟨V, hV⟩ : ∃ V, V = w4.alloc (.cells #[.slice none 0 0] 32) := ⟨_, rfl⟩
  have BV0 : Bl w4 V := by rw [hV]; go_grown
  have bD : Boxed V w4.heap.size 32 (.slice none 0 0) := by rw [hV]; exact Boxed.new w4 _ _
  have zV : V.heap.size = w4.heap.size + 1 := by rw [hV]; simp
  have BV := B4.tr BV0
  rw [← hV]
  clear hV
  refine (callsIn_wide.2 (grid_any lo hi st _)).mono ?_
  rintro q5 w5 ⟨rfl, hb5, hGB, z5⟩
  have B5 := BV.tr hb5
  have B45 := BV0.tr hb5
  have xa0 := kcb B45 xa0
  have xa1 := kcb B45 xa1
  have xs0 := kcb B45 xs0
  have bD := boxed_blg bD hb5
  obtain ⟨N4, hN4⟩ : ∃ N4, N4 = w4.heap.size := ⟨_, rfl⟩
  rw [zV, ← hN4] at hGB z5 ⊢
  rw [← hN4] at bD
  have hseq := grid_seq HB.out HST.out HCN.out hGB
  have z45 := zz4
  rw [← hN4] at z45
  have zw5 : w.heap.size + 2 ≤ N4 := by have := ltb xq1; have := zz4; omega
  clear hGB hN4
  gi_wp2_with fail
  have HCX := Lib.hid (And.intro xa0 (And.intro xa1 xs0))
  have HA5 := Lib.hid (HA.out.below B5)
  have HB5 := Lib.hid B5
  have HNN : N4 < w5.heap.size := by omega
  clear xa0 xa1 xs0
  refine wpIn_rangeFunc_ownH rfl (by decide) (gf := 39) (lb := #[.pointer (some ⟨N4 + 1, 0, none⟩), .pointer (some ⟨N4 + 1 + 1, 0, none⟩)]) rfl trivial (enters_of Try.func39 (by kernel_rfl) rfl) hseq Kg.t (fun W l o o' hl _ _ _ => Kg.put (N := w5.heap.size) (by omega) (by omega) W l o' hl) (Below.refl _ _) (fun _ => rfl)
    (fun pre W => ((∃ v, Boxed W N4 32 v ∧ W.ownsRow w5.heap.size 26 2 v (fP (whP a S n) pre).length (ptC (fP (whP a S n) pre)) ∧ True) ∧ W.cell? ⟨w.heap.size, 0, none⟩ = some (.int .i64 a.s) ∧ W.cell? ⟨w.heap.size, 1, none⟩ = some (.int .i64 a.w) ∧ W.cell? ⟨w.heap.size + 1, 0, none⟩ = some (.slice A n c)) ∧ (Below N4 w5 W ∧ w5.heap.size ≤ W.heap.size))
    (fun _ _ _ => False)
    (OwnFrom.and (OwnFrom.and (Own.from (holdsRow_own w5.heap.size N4 32 26 2 (fun pre : List Pv => (fP (whP a S n) pre).length) (fun pre => ptC (fP (whP a S n) pre)) (fun pre v => True)) _) (Own.from (fun s X Y row hs hg hr => ⟨cell_kept hs.1 hg hr, cell_kept hs.2.1 hg hr, cell_kept hs.2.2 hg hr⟩) _)) (OwnFrom.and (ownFrom_below (by omega) (by omega)) (fun s X Y row hs hg hr => Nat.le_trans hs hg.size)))
    (fun _ _ _ _ _ hs _ _ => hs)
    ⟨⟨⟨_, bD, World.ownsRow_nil _ _ _ _, trivial⟩, HCX.out⟩, Below.refl _ _, Nat.le_refl _⟩
    (fun x a' W => ∃ g, w5.heap.size ≤ g ∧ W.cell? ⟨g, 0, none⟩ = some (.int .i64 x.1.x) ∧ W.cell? ⟨g, 1, none⟩ = some (.int .i64 x.1.y) ∧ a' = { tmps := #[encA a, .slice A n c, encP lo, encP hi, .int .i64 st, .pointer (some ⟨w.heap.size, 0, none⟩), .pointer (some ⟨w.heap.size + 1, 0, none⟩), .pointer (some ⟨w.heap.size + 1 + 1, 0, none⟩), .pointer (some ⟨w.heap.size + 1 + 1 + 1, 0, none⟩), undef, .slice none 0 0, .int .i64 0, .pointer (some ⟨w2.heap.size, 0, none⟩), .pointer (some ⟨N4, 0, none⟩), .pointer (some ⟨g, 0, none⟩), .agg #[.int .i64 a.s, .int .i64 a.w], .bool true, .bool false, .bool false, .slice A n c, .bool true, .bool false, .bool false, .agg #[.int .i64 lo.x, .int .i64 lo.y], .agg #[.int .i64 hi.x, .int .i64 hi.y], .agg #[.int .i64 lo.x, .int .i64 lo.y, .int .i64 hi.x, .int .i64 hi.y], .agg #[.int .i64 lo.x, .int .i64 lo.y, .int .i64 hi.x, .int .i64 hi.y], .bool true, .bool false, .bool false, .int .i64 st, .bool (decide (st < 1)), .bool (decide (st < 1)), .bool (decide (st < 1)), .int .i64 st, .bool (decide (10000 < st)), .bool (decide (st < 1) || decide (10000 < st)), .agg #[.int .i64 lo.x, .int .i64 lo.y, .int .i64 hi.x, .int .i64 hi.y], .int .i64 st, .int .i64 m, .bool (decide (10000 < m)), .agg #[.int .i64 lo.x, .int .i64 lo.y, .int .i64 hi.x, .int .i64 hi.y], .int .i64 st, .func (.func 39) #[] #[.pointer (some ⟨N4 + 1, 0, none⟩), .pointer (some ⟨N4 + 1 + 1, 0, none⟩)], .agg #[.int .i64 x.1.x, .int .i64 x.1.y], undef, undef, undef, undef, undef, undef, undef, undef, undef], defers := [] })
    (fun x a' s X Y row hs hg hr => by obtain ⟨g, h1, h2, h3, h4⟩ := hs; exact ⟨g, h1, cell_kept h2 hg (fun r e => (hr r e).2), cell_kept h3 hg (fun r e => (hr r e).2), h4⟩)
    ?assign ?body ?done ?stop
  case assign =>
    rintro l pre x W K ⟨⟨⟨v, hv, hrow, _⟩, hcx⟩, hB, hW⟩ hK
    have bX : Bl W (W.alloc (.cells #[.int .i64 x.1.x, .int .i64 x.1.y] 26)) := by go_grown
    have HK := Lib.hid (hK _ _ (keeps_bl bX) (Kg.bl bX) ⟨⟨⟨v, boxed_blg hv bX, own_b hrow bX, trivial⟩, kcb bX hcx.1, kcb bX hcx.2.1, kcb bX hcx.2.2⟩, Below.trans hB (bX.mono (by have := hv.lt; omega)), Nat.le_trans hW bX.size⟩ ⟨W.heap.size, hW, by go_cell, by go_cell, rfl⟩)
    clear hK hv hrow hcx hB bX
    simp only [encV, encQ]
    gi_wp2
    exact HK.out
  case body =>
    rintro l pre x a' W hl hlp ⟨⟨⟨v, hv, hrow, _⟩, ca0, ca1, cs0⟩, hB, hW⟩ ⟨g, hg, g0, g1, rfl⟩ hlen
    have c13 := hv.cell
    have lv := hv.lt
    have lg := World.block_lt_of_cell? W ⟨g, 0, none⟩ g0
    have la := World.block_lt_of_cell? W ⟨w.heap.size, 0, none⟩ ca0
    have ls := World.block_lt_of_cell? W ⟨w.heap.size + 1, 0, none⟩ cs0
    have BW : Bl w W := Below.trans HB5.out (hB.mono (by omega))
    have hl10 : (fP (whP a S n) pre).length < 10000 := Nat.lt_of_le_of_lt (fP_len _ _) hlen
    gi_wp2_with fail
    refine ⟨trivial, ?_⟩
    refine (CallsIn.inRound l (callsIn_wide.2 (suits_any a A n c S x.1 _ (HA.out.below BW) HN.out HAA.out x.2 HV.out.2.2))).mono ?_
    rintro e w7 ⟨rfl, hb7⟩
    have hv7 := boxed_blg hv hb7
    have hrow7 := own_b hrow hb7
    have ca0 := kcb hb7 ca0
    have ca1 := kcb hb7 ca1
    have cs0 := kcb hb7 cs0
    have g0 := kcb hb7 g0
    have g1 := kcb hb7 g1
    have z7 := hb7.size
    have hB7 : Below N4 w5 w7 := Below.trans hB (hb7.mono (by omega))
    have HK7 := Lib.hid (show KeepsFrom w5.heap.size W w7 ∧ Kg (N4 + 1) (N4 + 1 + 1) W w7 from ⟨keeps_bl hb7, Kg.bl hb7⟩)
    have hW7 : w5.heap.size ≤ w7.heap.size := Nat.le_trans hW z7
    clear hv hrow hb7 c13 lv lg la ls BW hB hW
    have c13 := hv7.cell
    have lv := hv7.lt
    have lg := World.block_lt_of_cell? w7 ⟨g, 0, none⟩ g0
    cases hs : decide (suitN a S n x.1) with
    | false =>
      have HP := Lib.hid (fP_no (pre := pre) (show whP a S n x.1 = false from hs))
      clear hs
      gi_wp2_with fail
      exact ⟨HK7.out.1, HK7.out.2, ⟨⟨v, hv7, by rw [HP.out]; exact hrow7, trivial⟩, ca0, ca1, cs0⟩, hB7, hW7⟩
    | true =>
      have HP := Lib.hid (fP_yes (pre := pre) (show whP a S n x.1 = true from hs))
      have HCC := Lib.hid (And.intro ca0 (And.intro ca1 cs0))
      clear hs ca0 ca1 cs0
      gi_wp2_with (gi_at_builtin; refine wpListIn_append_own _ rfl _ _ 32 rfl w5.heap.size 26 i0 (.agg #[.int .i64 0, .int .i64 0]) 2 16 Try.underlying32 HI.out.1 HI.out.2.1 HI.out.2.2.1 HI.out.2.2.2 rfl (by decide) _ _ _ rfl (hrow7.alloc _) ⟨w7.heap.size, 0, none⟩ 1 1 [.int .i64 x.1.x, .int .i64 x.1.y] rfl rfl (World.news_of_block (heap_alloc_new _ _)) (by simp [Value.oneCell']) (by unfold maxLen; omega) (by omega) (by (try simp only [World.size_alloc]); omega) ?_; intro v' w9 hown' hgrow _; obtain ⟨g', cap', rfl⟩ := ownsRow_succ hown'; obtain ⟨hv1, hv2, hr2, hk2, hb2'⟩ := hv7.appended (n₀ := N4) (by decide) (own_baseg hrow7 (by omega)) (by omega) (Nat.le_refl _) (own_baseg hown' (by omega)) hgrow; have hc9 := hv1.cell; have hf9 := hv1.frozen; have hl9 := hv1.lt)
      have HG9 := Lib.hid (show Kg (N4 + 1) (N4 + 1 + 1) w7 (w9.setCell ⟨N4, 0, none⟩ (.slice (some ⟨g', 0, none⟩) ((fP (whP a S n) pre).length + 1) cap')) from kg_app hgrow hrow7 (by omega) (by omega))
      refine ⟨HK7.out.1.trans (hk2.from _), HK7.out.2.t HG9.out, ⟨⟨_, hv2, ?_, trivial⟩, (hb2'.cell (p := ⟨w.heap.size, 0, none⟩) (by show w.heap.size < N4; omega)).trans HCC.out.1, (hb2'.cell (p := ⟨w.heap.size, 1, none⟩) (by show w.heap.size < N4; omega)).trans HCC.out.2.1, (hb2'.cell (p := ⟨w.heap.size + 1, 0, none⟩) (by show w.heap.size + 1 < N4; omega)).trans HCC.out.2.2⟩, Below.trans hB7 hb2', Nat.le_trans hW7 hb2'.size⟩
      rw [HP.out, ptC_snoc, List.length_append, List.length_singleton]
      exact own_setg hown' (by omega)
  case done =>
    rintro D ys W hD hys ⟨⟨⟨v, hv, hrow, _⟩, hcx⟩, hB, hW⟩ hK
    have hL : fP (whP a S n) ys = gridL (whP a S n) lo st (colsN lo.x hi.x st) (colsN lo.y hi.y st) := by unfold fP; rw [hys, ← gridL_filter]
    rw [hL] at hrow
    have hc := hv.cell
    have BW : Bl w W := Below.trans HB5.out (hB.mono (by omega))
    clear hcx
    gi_wp2
    refine ⟨by simp, .inl ⟨_, _, rfl, run_takeDeferred hK, ?_⟩⟩
    have key : ∀ e W', e = Ending.returned (.tuple #[v, .int .i64 0]) → W'.ownsRow w5.heap.size 26 2 v (gridL (whP a S n) lo st (colsN lo.x hi.x st) (colsN lo.y hi.y st)).length (ptC (gridL (whP a S n) lo st (colsN lo.x hi.x st) (colsN lo.y hi.y st))) → Bl w W' → WhPost a S n lo hi st w e W' := fun e W' h1 h2 h3 => by rw [h1]; exact wh_good HE.out h2 h3
    exact ⟨_, results_tmp2 rfl _ _ _, key _ _ rfl (ownsRow_putObj hrow _ hK rfl) (Below.trans BW (belowK_b (w := w) (Nat.le_refl _) W D _ _ (by omega) hK rfl rfl))⟩
  case stop =>
    rintro D c pre W _ _ h _
    exact h.elim
end Go.Proofs.Ythemoomfbbccjaa
