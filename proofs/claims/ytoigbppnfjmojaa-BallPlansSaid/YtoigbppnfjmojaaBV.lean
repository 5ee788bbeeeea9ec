/-
  The walk of BallPlans.
-/
import Derived.Test.YtoigbppnfjmojaaBVB
import Derived.Test.YtoigbppnfjmojaaBM
namespace Go.Proofs.Ytoigbppnfjmojaa
open Go.RowKit
set_option linter.unusedSimpArgs false
set_option linter.unusedVariables false

/-- A value is a slice of these events. -/
def EL (n : Nat) (E : Nat → Evt) (v : Value) (X : World) : Prop := ∃ A c, v = .slice A n c ∧ n ≤ c ∧ c ≤ maxLen ∧ El X A n E
theorem EL.below {n : Nat} {E : Nat → Evt} {v : Value} {X Y : World} (h : EL n E v X) (hb : Bl X Y) : EL n E v Y := by
  obtain ⟨A, c, h0, h1, h2, h3⟩ := h
  exact ⟨A, c, h0, h1, h2, h3.below hb⟩
theorem EL.nil (X : World) (E : Nat → Evt) : EL 0 E (.slice none 0 0) X := ⟨none, 0, rfl, Nat.le_refl _, Nat.zero_le _, fun h => absurd h (Nat.lt_irrefl 0)⟩
theorem same_EL {n : Nat} {E : Nat → Evt} {a b : Value} {X : World} (ha : EL n E a X) (hb : EL n E b X) : Calls Try.prog 11 #[a, b] X fun e w' => e = .returned (.bool true) ∧ Bl X w' := by
  obtain ⟨A, c, rfl, h1, h2, h3⟩ := ha
  obtain ⟨B, d, rfl, g1, g2, g3⟩ := hb
  exact sameEv_any A n c B d E X (Nat.le_trans h1 h2) h3 g3
theorem ver_EL {M : Mst} {n : Nat} {E : Nat → Evt} {a : Value} {X : World} {v k : Int} (ha : EL n E a X) (hv : verR M E n = (v, k)) : Calls Try.prog 13 #[encM M, a] X fun e w' => e = .returned (.tuple #[.int .i64 v, .int .i64 k]) ∧ Bl X w' := by
  obtain ⟨A, c, rfl, h1, h2, h3⟩ := ha
  refine (ver_any M A n c E X h3 (Nat.le_trans h1 h2) h1 h2).mono ?_
  rintro e w' ⟨rfl, hb⟩
  rw [hv]
  exact ⟨rfl, hb⟩
theorem off_EL {M : Mst} {n : Nat} {E : Nat → Evt} {a : Value} {X : World} {v k : Int} (ha : EL n E a X) (hv : offR M E n = (v, k)) : Calls Try.prog 14 #[encM M, a] X fun e w' => e = .returned (.tuple #[.int .i64 v, .int .i64 k]) ∧ Bl X w' := by
  obtain ⟨A, c, rfl, h1, h2, h3⟩ := ha
  refine (off_any M A n c E X h3 (Nat.le_trans h1 h2) h1 h2).mono ?_
  rintro e w' ⟨rfl, hb⟩
  rw [hv]
  exact ⟨rfl, hb⟩
/-- What a plan gives back, in short. -/
def PQ (er : Int) (n : Nat) (E : Nat → Evt) (w : World) (e : Ending) (w' : World) : Prop := ∃ v, e = .returned (.tuple #[v, .int .i64 er]) ∧ EL n E v w' ∧ Bl w w'
theorem pq_plan {M : Mst} {w : World} {e : Ending} {w' : World} (h : PlanPost M w e w') : (VM M → PQ 0 3 (planE M) w e w') ∧ (¬ VM M → PQ 1 0 (planE M) w e w') := by
  obtain ⟨hb, ⟨hM, g, cap, rfl, own⟩ | ⟨hM, rfl⟩⟩ := h
  · refine ⟨fun _ => ⟨_, rfl, ?_, hb⟩, fun h => absurd hM h⟩
    have cp := own_cap own
    exact ⟨_, cap, rfl, cp.1, cp.2.1, el_of_own own⟩
  · exact ⟨fun h => absurd h hM, fun _ => ⟨_, rfl, EL.nil _ _, hb⟩⟩
theorem pq_sec {M : Mst} {w : World} {e : Ending} {w' : World} (h : SecPost M w e w') : (VM M → PQ 0 7 (secE M) w e w') ∧ (¬ VM M → PQ 1 0 (secE M) w e w') := by
  obtain ⟨hb, ⟨hM, g, cap, rfl, own⟩ | ⟨hM, rfl⟩⟩ := h
  · refine ⟨fun _ => ⟨_, rfl, ?_, hb⟩, fun h => absurd hM h⟩
    have cp := own_cap own
    exact ⟨_, cap, rfl, cp.1, cp.2.1, el_of_own own⟩
  · exact ⟨fun h => absurd h hM, fun _ => ⟨_, rfl, EL.nil _ _, hb⟩⟩
abbrev Sq (w : World) (P : Nat) (M : Mst) (n : Nat) (E : Nat → Evt) (a b : Value) (m : Nat) (G : Nat → Evt) (c d : Value) (W' : World) : Prop := Bl w W' ∧ W'.cell? ⟨P, 0, none⟩ = some (.int .i64 M.no) ∧ W'.cell? ⟨P, 1, none⟩ = some (.int .i64 M.hf) ∧ W'.cell? ⟨P, 2, none⟩ = some (.int .i64 M.fu) ∧ W'.cell? ⟨P, 3, none⟩ = some (.int .i64 M.la) ∧ W'.cell? ⟨P, 4, none⟩ = some (.int .i64 M.ag) ∧ W'.cell? ⟨P, 5, none⟩ = some (.int .i64 M.wi) ∧ P < W'.heap.size ∧ EL n E a W' ∧ EL n E b W' ∧ EL m G c W' ∧ EL m G d W'
section
variable {w : World} {P : Nat} {M : Mst} {n : Nat} {E : Nat → Evt} {a b : Value} {m : Nat} {G : Nat → Evt} {c d : Value}
theorem Sq.t {W W' : World} (h : Sq w P M n E a b m G c d W) (hb : Bl W W') : Sq w P M n E a b m G c d W' := by
  obtain ⟨h0, c0, c1, c2, c3, c4, c5, l0, e1, e2, e3, e4⟩ := h
  exact ⟨h0.tr hb, kcb hb c0, kcb hb c1, kcb hb c2, kcb hb c3, kcb hb c4, kcb hb c5, Nat.lt_of_lt_of_le l0 hb.size, e1.below hb, e2.below hb, e3.below hb, e4.below hb⟩
theorem Sq.same {v v' : Value} {W : World} (h : Sq w P M n E a b m G c d W) (e : (v = a ∧ v' = b) ∨ (v = c ∧ v' = d)) : Calls Try.prog 11 #[v, v'] W fun e w' => e = .returned (.bool true) ∧ Bl W w' := by
  obtain ⟨_, _, _, _, _, _, _, _, e1, e2, e3, e4⟩ := h
  rcases e with ⟨rfl, rfl⟩ | ⟨rfl, rfl⟩
  · exact same_EL e1 e2
  · exact same_EL e3 e4
end
theorem bl_drV (w : World) : Bl w w.drew := ⟨rfl, rfl, rfl, Nat.le_refl _, fun _ _ => rfl⟩
set_option maxRecDepth 100000 in
set_option maxHeartbeats 16000000 in
theorem plans_bad (M : Mst) (w : World) (h : ¬ VM M) : Calls Try.prog 3 #[encM M] w fun e' w' => e' = .returned (.bool true) ∧ Bl w w' := by
  have HM := Lib.hid h
  have HV := Lib.hid (show decide (VM M) = false from decide_eq_false h)
  clear h
  go_enter Try.func3, Try.ntmps3
  go_wp2_with fail
  refine (plan_any M _).mono ?_
  intro q1 w1 hq1
  obtain ⟨a, rfl, hEa, hb⟩ := (pq_plan hq1).2 HM.out
  clear hq1
  have m0 := kcb hb (b := w.heap.size) (o := 0) (v := .int .i64 M.no) (by first | assumption | (refine cellUp ?_; assumption) | go_cell)
  have m1 := kcb hb (b := w.heap.size) (o := 1) (v := .int .i64 M.hf) (by first | assumption | (refine cellUp ?_; assumption) | go_cell)
  have m2 := kcb hb (b := w.heap.size) (o := 2) (v := .int .i64 M.fu) (by first | assumption | (refine cellUp ?_; assumption) | go_cell)
  have m3 := kcb hb (b := w.heap.size) (o := 3) (v := .int .i64 M.la) (by first | assumption | (refine cellUp ?_; assumption) | go_cell)
  have m4 := kcb hb (b := w.heap.size) (o := 4) (v := .int .i64 M.ag) (by first | assumption | (refine cellUp ?_; assumption) | go_cell)
  have m5 := kcb hb (b := w.heap.size) (o := 5) (v := .int .i64 M.wi) (by first | assumption | (refine cellUp ?_; assumption) | go_cell)
  have B1 : Bl w w1 := Below.trans (by go_grown) (hb.mono (by (try simp only [World.size_alloc]); omega))
  have l1 := ltb m0
  have zz1 := B1.size
  have Ha := Lib.hid hEa
  clear hb hEa
  go_wp2_with fail
  refine (rplan_any M _).mono ?_
  intro q2 w2 hq2
  obtain ⟨b, rfl, hEb, hb⟩ := (pq_plan hq2).2 HM.out
  clear hq2
  have m0 := kcb hb (b := w.heap.size) (o := 0) (v := .int .i64 M.no) (by first | assumption | (refine cellUp ?_; assumption) | go_cell)
  have m1 := kcb hb (b := w.heap.size) (o := 1) (v := .int .i64 M.hf) (by first | assumption | (refine cellUp ?_; assumption) | go_cell)
  have m2 := kcb hb (b := w.heap.size) (o := 2) (v := .int .i64 M.fu) (by first | assumption | (refine cellUp ?_; assumption) | go_cell)
  have m3 := kcb hb (b := w.heap.size) (o := 3) (v := .int .i64 M.la) (by first | assumption | (refine cellUp ?_; assumption) | go_cell)
  have m4 := kcb hb (b := w.heap.size) (o := 4) (v := .int .i64 M.ag) (by first | assumption | (refine cellUp ?_; assumption) | go_cell)
  have m5 := kcb hb (b := w.heap.size) (o := 5) (v := .int .i64 M.wi) (by first | assumption | (refine cellUp ?_; assumption) | go_cell)
  have B2 : Bl w w2 := Below.trans (by first | exact B1 | exact B1.tr (by go_grown)) (hb.mono (by (try simp only [World.size_alloc]); omega))
  have l2 := ltb m0
  have zz2 := B2.size
  have Ha := Lib.hid (Ha.out.below (Bl.tr (by first | exact Bl.rf _ | go_grown) hb))
  have Hb := Lib.hid hEb
  clear hb hEb
  go_wp2_with fail
  refine (second_any M _).mono ?_
  intro q3 w3 hq3
  obtain ⟨c, rfl, hEc, hb⟩ := (pq_sec hq3).2 HM.out
  clear hq3
  have m0 := kcb hb (b := w.heap.size) (o := 0) (v := .int .i64 M.no) (by first | assumption | (refine cellUp ?_; assumption) | go_cell)
  have m1 := kcb hb (b := w.heap.size) (o := 1) (v := .int .i64 M.hf) (by first | assumption | (refine cellUp ?_; assumption) | go_cell)
  have m2 := kcb hb (b := w.heap.size) (o := 2) (v := .int .i64 M.fu) (by first | assumption | (refine cellUp ?_; assumption) | go_cell)
  have m3 := kcb hb (b := w.heap.size) (o := 3) (v := .int .i64 M.la) (by first | assumption | (refine cellUp ?_; assumption) | go_cell)
  have m4 := kcb hb (b := w.heap.size) (o := 4) (v := .int .i64 M.ag) (by first | assumption | (refine cellUp ?_; assumption) | go_cell)
  have m5 := kcb hb (b := w.heap.size) (o := 5) (v := .int .i64 M.wi) (by first | assumption | (refine cellUp ?_; assumption) | go_cell)
  have B3 : Bl w w3 := Below.trans (by first | exact B2 | exact B2.tr (by go_grown)) (hb.mono (by (try simp only [World.size_alloc]); omega))
  have l3 := ltb m0
  have zz3 := B3.size
  have Ha := Lib.hid (Ha.out.below (Bl.tr (by first | exact Bl.rf _ | go_grown) hb))
  have Hb := Lib.hid (Hb.out.below (Bl.tr (by first | exact Bl.rf _ | go_grown) hb))
  have Hc := Lib.hid hEc
  clear hb hEc
  go_wp2_with fail
  refine (rsecond_any M _).mono ?_
  intro q4 w4 hq4
  obtain ⟨d, rfl, hEd, hb⟩ := (pq_sec hq4).2 HM.out
  clear hq4
  have m0 := kcb hb (b := w.heap.size) (o := 0) (v := .int .i64 M.no) (by first | assumption | (refine cellUp ?_; assumption) | go_cell)
  have m1 := kcb hb (b := w.heap.size) (o := 1) (v := .int .i64 M.hf) (by first | assumption | (refine cellUp ?_; assumption) | go_cell)
  have m2 := kcb hb (b := w.heap.size) (o := 2) (v := .int .i64 M.fu) (by first | assumption | (refine cellUp ?_; assumption) | go_cell)
  have m3 := kcb hb (b := w.heap.size) (o := 3) (v := .int .i64 M.la) (by first | assumption | (refine cellUp ?_; assumption) | go_cell)
  have m4 := kcb hb (b := w.heap.size) (o := 4) (v := .int .i64 M.ag) (by first | assumption | (refine cellUp ?_; assumption) | go_cell)
  have m5 := kcb hb (b := w.heap.size) (o := 5) (v := .int .i64 M.wi) (by first | assumption | (refine cellUp ?_; assumption) | go_cell)
  have B4 : Bl w w4 := Below.trans (by first | exact B3 | exact B3.tr (by go_grown)) (hb.mono (by (try simp only [World.size_alloc]); omega))
  have l4 := ltb m0
  have zz4 := B4.size
  have Ha := Lib.hid (Ha.out.below (Bl.tr (by first | exact Bl.rf _ | go_grown) hb))
  have Hb := Lib.hid (Hb.out.below (Bl.tr (by first | exact Bl.rf _ | go_grown) hb))
  have Hc := Lib.hid (Hc.out.below (Bl.tr (by first | exact Bl.rf _ | go_grown) hb))
  have Hd := Lib.hid hEd
  clear hb hEd
  go_wp2_with fail
  have S0 : Sq w w.heap.size M 0 (planE M) a b 0 (secE M) c d w4 := ⟨B4, m0, m1, m2, m3, m4, m5, l4, Ha.out, Hb.out, Hc.out, Hd.out⟩
  go_region_held3 (fun W' => Bl w W' ∧ W'.cell? ⟨w.heap.size, 0, none⟩ = some (.int .i64 M.no) ∧ W'.cell? ⟨w.heap.size, 1, none⟩ = some (.int .i64 M.hf) ∧ W'.cell? ⟨w.heap.size, 2, none⟩ = some (.int .i64 M.fu) ∧ W'.cell? ⟨w.heap.size, 3, none⟩ = some (.int .i64 M.la) ∧ W'.cell? ⟨w.heap.size, 4, none⟩ = some (.int .i64 M.ag) ∧ W'.cell? ⟨w.heap.size, 5, none⟩ = some (.int .i64 M.wi) ∧ w.heap.size < W'.heap.size ∧ EL 0 (planE M) a W' ∧ EL 0 (planE M) b W' ∧ EL 0 (secE M) c W' ∧ EL 0 (secE M) d W') (first | exact Sq.t S0 (bl_drV _) | exact Sq.t (by assumption) hh0 | exact Sq.t (by assumption) hh1 | exact Sq.t (by assumption) hh2) (first | (go_at_call 9; refine (validMast_any M _).mono ?_; rintro e v0 ⟨rfl, hh0⟩; rw [HV.out]) | (go_at_call 10; refine (rvalidMast_any M _).mono ?_; rintro e v1 ⟨rfl, hh1⟩; rw [HV.out]) | (go_at_call 11; refine (Sq.same (by assumption) (by first | exact .inl ⟨rfl, rfl⟩ | exact .inr ⟨rfl, rfl⟩)).mono ?_; rintro e v2 ⟨rfl, hh2⟩))
  all_goals
    rename_i W5 hHeld
    have HH := Lib.hid hHeld
    obtain ⟨B5, m0, m1, m2, m3, m4, m5, l5, _, _, _, _⟩ := hHeld
    go_wp2_with fail
    refine (awakeB_any _).mono ?_
    rintro e9 w9 ⟨rfl, hb9⟩
    go_wp2_with fail
    go_ret
    exact ⟨rfl, Bl.tr HH.out.1 hb9⟩
set_option maxRecDepth 100000 in
set_option maxHeartbeats 16000000 in
theorem plans_ok (M : Mst) (w : World) (h : VM M) : Calls Try.prog 3 #[encM M] w fun e' w' => e' = .returned (.bool true) ∧ Bl w w' := by
  have HM := Lib.hid h
  have HV := Lib.hid (show decide (VM M) = true from decide_eq_true h)
  have HV1 := Lib.hid (show verR M (planE M) 3 = (0, 0) by rw [verR_eq h (by decide)]; exact (plan_ver h).1)
  have HV2 := Lib.hid (show verR M (secE M) 7 = (3, 0) by rw [verR_eq h (by decide)]; exact (sec_ver h).1)
  have HO1 := Lib.hid (show offR M (planE M) 3 = (0, 0) by rw [offR_eq h (by decide)]; exact (plan_ver h).2)
  have HO2 := Lib.hid (show offR M (secE M) 7 = (0, 0) by rw [offR_eq h (by decide)]; exact (sec_ver h).2)
  clear h
  go_enter Try.func3, Try.ntmps3
  go_wp2_with fail
  refine (plan_any M _).mono ?_
  intro q1 w1 hq1
  obtain ⟨a, rfl, hEa, hb⟩ := (pq_plan hq1).1 HM.out
  clear hq1
  have m0 := kcb hb (b := w.heap.size) (o := 0) (v := .int .i64 M.no) (by first | assumption | (refine cellUp ?_; assumption) | go_cell)
  have m1 := kcb hb (b := w.heap.size) (o := 1) (v := .int .i64 M.hf) (by first | assumption | (refine cellUp ?_; assumption) | go_cell)
  have m2 := kcb hb (b := w.heap.size) (o := 2) (v := .int .i64 M.fu) (by first | assumption | (refine cellUp ?_; assumption) | go_cell)
  have m3 := kcb hb (b := w.heap.size) (o := 3) (v := .int .i64 M.la) (by first | assumption | (refine cellUp ?_; assumption) | go_cell)
  have m4 := kcb hb (b := w.heap.size) (o := 4) (v := .int .i64 M.ag) (by first | assumption | (refine cellUp ?_; assumption) | go_cell)
  have m5 := kcb hb (b := w.heap.size) (o := 5) (v := .int .i64 M.wi) (by first | assumption | (refine cellUp ?_; assumption) | go_cell)
  have B1 : Bl w w1 := Below.trans (by go_grown) (hb.mono (by (try simp only [World.size_alloc]); omega))
  have l1 := ltb m0
  have zz1 := B1.size
  have Ha := Lib.hid hEa
  clear hb hEa
  go_wp2_with fail
  refine (rplan_any M _).mono ?_
  intro q2 w2 hq2
  obtain ⟨b, rfl, hEb, hb⟩ := (pq_plan hq2).1 HM.out
  clear hq2
  have m0 := kcb hb (b := w.heap.size) (o := 0) (v := .int .i64 M.no) (by first | assumption | (refine cellUp ?_; assumption) | go_cell)
  have m1 := kcb hb (b := w.heap.size) (o := 1) (v := .int .i64 M.hf) (by first | assumption | (refine cellUp ?_; assumption) | go_cell)
  have m2 := kcb hb (b := w.heap.size) (o := 2) (v := .int .i64 M.fu) (by first | assumption | (refine cellUp ?_; assumption) | go_cell)
  have m3 := kcb hb (b := w.heap.size) (o := 3) (v := .int .i64 M.la) (by first | assumption | (refine cellUp ?_; assumption) | go_cell)
  have m4 := kcb hb (b := w.heap.size) (o := 4) (v := .int .i64 M.ag) (by first | assumption | (refine cellUp ?_; assumption) | go_cell)
  have m5 := kcb hb (b := w.heap.size) (o := 5) (v := .int .i64 M.wi) (by first | assumption | (refine cellUp ?_; assumption) | go_cell)
  have B2 : Bl w w2 := Below.trans (by first | exact B1 | exact B1.tr (by go_grown)) (hb.mono (by (try simp only [World.size_alloc]); omega))
  have l2 := ltb m0
  have zz2 := B2.size
  have Ha := Lib.hid (Ha.out.below (Bl.tr (by first | exact Bl.rf _ | go_grown) hb))
  have Hb := Lib.hid hEb
  clear hb hEb
  go_wp2_with fail
  refine (second_any M _).mono ?_
  intro q3 w3 hq3
  obtain ⟨c, rfl, hEc, hb⟩ := (pq_sec hq3).1 HM.out
  clear hq3
  have m0 := kcb hb (b := w.heap.size) (o := 0) (v := .int .i64 M.no) (by first | assumption | (refine cellUp ?_; assumption) | go_cell)
  have m1 := kcb hb (b := w.heap.size) (o := 1) (v := .int .i64 M.hf) (by first | assumption | (refine cellUp ?_; assumption) | go_cell)
  have m2 := kcb hb (b := w.heap.size) (o := 2) (v := .int .i64 M.fu) (by first | assumption | (refine cellUp ?_; assumption) | go_cell)
  have m3 := kcb hb (b := w.heap.size) (o := 3) (v := .int .i64 M.la) (by first | assumption | (refine cellUp ?_; assumption) | go_cell)
  have m4 := kcb hb (b := w.heap.size) (o := 4) (v := .int .i64 M.ag) (by first | assumption | (refine cellUp ?_; assumption) | go_cell)
  have m5 := kcb hb (b := w.heap.size) (o := 5) (v := .int .i64 M.wi) (by first | assumption | (refine cellUp ?_; assumption) | go_cell)
  have B3 : Bl w w3 := Below.trans (by first | exact B2 | exact B2.tr (by go_grown)) (hb.mono (by (try simp only [World.size_alloc]); omega))
  have l3 := ltb m0
  have zz3 := B3.size
  have Ha := Lib.hid (Ha.out.below (Bl.tr (by first | exact Bl.rf _ | go_grown) hb))
  have Hb := Lib.hid (Hb.out.below (Bl.tr (by first | exact Bl.rf _ | go_grown) hb))
  have Hc := Lib.hid hEc
  clear hb hEc
  go_wp2_with fail
  refine (rsecond_any M _).mono ?_
  intro q4 w4 hq4
  obtain ⟨d, rfl, hEd, hb⟩ := (pq_sec hq4).1 HM.out
  clear hq4
  have m0 := kcb hb (b := w.heap.size) (o := 0) (v := .int .i64 M.no) (by first | assumption | (refine cellUp ?_; assumption) | go_cell)
  have m1 := kcb hb (b := w.heap.size) (o := 1) (v := .int .i64 M.hf) (by first | assumption | (refine cellUp ?_; assumption) | go_cell)
  have m2 := kcb hb (b := w.heap.size) (o := 2) (v := .int .i64 M.fu) (by first | assumption | (refine cellUp ?_; assumption) | go_cell)
  have m3 := kcb hb (b := w.heap.size) (o := 3) (v := .int .i64 M.la) (by first | assumption | (refine cellUp ?_; assumption) | go_cell)
  have m4 := kcb hb (b := w.heap.size) (o := 4) (v := .int .i64 M.ag) (by first | assumption | (refine cellUp ?_; assumption) | go_cell)
  have m5 := kcb hb (b := w.heap.size) (o := 5) (v := .int .i64 M.wi) (by first | assumption | (refine cellUp ?_; assumption) | go_cell)
  have B4 : Bl w w4 := Below.trans (by first | exact B3 | exact B3.tr (by go_grown)) (hb.mono (by (try simp only [World.size_alloc]); omega))
  have l4 := ltb m0
  have zz4 := B4.size
  have Ha := Lib.hid (Ha.out.below (Bl.tr (by first | exact Bl.rf _ | go_grown) hb))
  have Hb := Lib.hid (Hb.out.below (Bl.tr (by first | exact Bl.rf _ | go_grown) hb))
  have Hc := Lib.hid (Hc.out.below (Bl.tr (by first | exact Bl.rf _ | go_grown) hb))
  have Hd := Lib.hid hEd
  clear hb hEd
  go_wp2_with fail
  have S0 : Sq w w.heap.size M 3 (planE M) a b 7 (secE M) c d w4 := ⟨B4, m0, m1, m2, m3, m4, m5, l4, Ha.out, Hb.out, Hc.out, Hd.out⟩
  go_region_held3 (fun W' => Bl w W' ∧ W'.cell? ⟨w.heap.size, 0, none⟩ = some (.int .i64 M.no) ∧ W'.cell? ⟨w.heap.size, 1, none⟩ = some (.int .i64 M.hf) ∧ W'.cell? ⟨w.heap.size, 2, none⟩ = some (.int .i64 M.fu) ∧ W'.cell? ⟨w.heap.size, 3, none⟩ = some (.int .i64 M.la) ∧ W'.cell? ⟨w.heap.size, 4, none⟩ = some (.int .i64 M.ag) ∧ W'.cell? ⟨w.heap.size, 5, none⟩ = some (.int .i64 M.wi) ∧ w.heap.size < W'.heap.size ∧ EL 3 (planE M) a W' ∧ EL 3 (planE M) b W' ∧ EL 7 (secE M) c W' ∧ EL 7 (secE M) d W') (first | exact Sq.t S0 (bl_drV _) | exact Sq.t (by assumption) hh0 | exact Sq.t (by assumption) hh1 | exact Sq.t (by assumption) hh2) (first | (go_at_call 9; refine (validMast_any M _).mono ?_; rintro e v0 ⟨rfl, hh0⟩; rw [HV.out]) | (go_at_call 10; refine (rvalidMast_any M _).mono ?_; rintro e v1 ⟨rfl, hh1⟩; rw [HV.out]) | (go_at_call 11; refine (Sq.same (by assumption) (by first | exact .inl ⟨rfl, rfl⟩ | exact .inr ⟨rfl, rfl⟩)).mono ?_; rintro e v2 ⟨rfl, hh2⟩))
  all_goals
    rename_i W5 hHeld
    have HH := Lib.hid hHeld
    obtain ⟨B5, m0, m1, m2, m3, m4, m5, l5, _, _, _, _⟩ := hHeld
    go_wp2_with fail
    obtain ⟨_, _, _, _, _, _, _, _, Ha5, _, Hc5, _⟩ := HH.out
    have Ha := Lib.hid Ha5
    have Hc := Lib.hid Hc5
    clear Ha5 Hc5
    refine (ver_EL Ha.out HV1.out).mono ?_
    rintro q6 w6 ⟨rfl, hb⟩
    have m0 := kcb hb (b := w.heap.size) (o := 0) (v := .int .i64 M.no) (by first | assumption | (refine cellUp ?_; assumption) | go_cell)
    have m1 := kcb hb (b := w.heap.size) (o := 1) (v := .int .i64 M.hf) (by first | assumption | (refine cellUp ?_; assumption) | go_cell)
    have m2 := kcb hb (b := w.heap.size) (o := 2) (v := .int .i64 M.fu) (by first | assumption | (refine cellUp ?_; assumption) | go_cell)
    have m3 := kcb hb (b := w.heap.size) (o := 3) (v := .int .i64 M.la) (by first | assumption | (refine cellUp ?_; assumption) | go_cell)
    have m4 := kcb hb (b := w.heap.size) (o := 4) (v := .int .i64 M.ag) (by first | assumption | (refine cellUp ?_; assumption) | go_cell)
    have m5 := kcb hb (b := w.heap.size) (o := 5) (v := .int .i64 M.wi) (by first | assumption | (refine cellUp ?_; assumption) | go_cell)
    have B6 : Bl w w6 := Below.trans (by first | exact B5 | exact B5.tr (by go_grown)) (hb.mono (by (try simp only [World.size_alloc]); omega))
    have l6 := ltb m0
    have zz6 := B6.size
    have Ha := Lib.hid (Ha.out.below (Bl.tr (by first | exact Bl.rf _ | go_grown) hb))
    have Hc := Lib.hid (Hc.out.below (Bl.tr (by first | exact Bl.rf _ | go_grown) hb))
    clear hb
    go_wp2_with fail
    refine (ver_EL Hc.out HV2.out).mono ?_
    rintro q7 w7 ⟨rfl, hb⟩
    have m0 := kcb hb (b := w.heap.size) (o := 0) (v := .int .i64 M.no) (by first | assumption | (refine cellUp ?_; assumption) | go_cell)
    have m1 := kcb hb (b := w.heap.size) (o := 1) (v := .int .i64 M.hf) (by first | assumption | (refine cellUp ?_; assumption) | go_cell)
    have m2 := kcb hb (b := w.heap.size) (o := 2) (v := .int .i64 M.fu) (by first | assumption | (refine cellUp ?_; assumption) | go_cell)
    have m3 := kcb hb (b := w.heap.size) (o := 3) (v := .int .i64 M.la) (by first | assumption | (refine cellUp ?_; assumption) | go_cell)
    have m4 := kcb hb (b := w.heap.size) (o := 4) (v := .int .i64 M.ag) (by first | assumption | (refine cellUp ?_; assumption) | go_cell)
    have m5 := kcb hb (b := w.heap.size) (o := 5) (v := .int .i64 M.wi) (by first | assumption | (refine cellUp ?_; assumption) | go_cell)
    have B7 : Bl w w7 := Below.trans (by first | exact B6 | exact B6.tr (by go_grown)) (hb.mono (by (try simp only [World.size_alloc]); omega))
    have l7 := ltb m0
    have zz7 := B7.size
    have Ha := Lib.hid (Ha.out.below (Bl.tr (by first | exact Bl.rf _ | go_grown) hb))
    have Hc := Lib.hid (Hc.out.below (Bl.tr (by first | exact Bl.rf _ | go_grown) hb))
    clear hb
    go_wp2_with fail
    refine (off_EL Ha.out HO1.out).mono ?_
    rintro q8 w8 ⟨rfl, hb⟩
    have m0 := kcb hb (b := w.heap.size) (o := 0) (v := .int .i64 M.no) (by first | assumption | (refine cellUp ?_; assumption) | go_cell)
    have m1 := kcb hb (b := w.heap.size) (o := 1) (v := .int .i64 M.hf) (by first | assumption | (refine cellUp ?_; assumption) | go_cell)
    have m2 := kcb hb (b := w.heap.size) (o := 2) (v := .int .i64 M.fu) (by first | assumption | (refine cellUp ?_; assumption) | go_cell)
    have m3 := kcb hb (b := w.heap.size) (o := 3) (v := .int .i64 M.la) (by first | assumption | (refine cellUp ?_; assumption) | go_cell)
    have m4 := kcb hb (b := w.heap.size) (o := 4) (v := .int .i64 M.ag) (by first | assumption | (refine cellUp ?_; assumption) | go_cell)
    have m5 := kcb hb (b := w.heap.size) (o := 5) (v := .int .i64 M.wi) (by first | assumption | (refine cellUp ?_; assumption) | go_cell)
    have B8 : Bl w w8 := Below.trans (by first | exact B7 | exact B7.tr (by go_grown)) (hb.mono (by (try simp only [World.size_alloc]); omega))
    have l8 := ltb m0
    have zz8 := B8.size
    have Ha := Lib.hid (Ha.out.below (Bl.tr (by first | exact Bl.rf _ | go_grown) hb))
    have Hc := Lib.hid (Hc.out.below (Bl.tr (by first | exact Bl.rf _ | go_grown) hb))
    clear hb
    go_wp2_with fail
    refine (off_EL Hc.out HO2.out).mono ?_
    rintro q9 w9 ⟨rfl, hb⟩
    have m0 := kcb hb (b := w.heap.size) (o := 0) (v := .int .i64 M.no) (by first | assumption | (refine cellUp ?_; assumption) | go_cell)
    have m1 := kcb hb (b := w.heap.size) (o := 1) (v := .int .i64 M.hf) (by first | assumption | (refine cellUp ?_; assumption) | go_cell)
    have m2 := kcb hb (b := w.heap.size) (o := 2) (v := .int .i64 M.fu) (by first | assumption | (refine cellUp ?_; assumption) | go_cell)
    have m3 := kcb hb (b := w.heap.size) (o := 3) (v := .int .i64 M.la) (by first | assumption | (refine cellUp ?_; assumption) | go_cell)
    have m4 := kcb hb (b := w.heap.size) (o := 4) (v := .int .i64 M.ag) (by first | assumption | (refine cellUp ?_; assumption) | go_cell)
    have m5 := kcb hb (b := w.heap.size) (o := 5) (v := .int .i64 M.wi) (by first | assumption | (refine cellUp ?_; assumption) | go_cell)
    have B9 : Bl w w9 := Below.trans (by first | exact B8 | exact B8.tr (by go_grown)) (hb.mono (by (try simp only [World.size_alloc]); omega))
    have l9 := ltb m0
    have zz9 := B9.size
    have Ha := Lib.hid (Ha.out.below (Bl.tr (by first | exact Bl.rf _ | go_grown) hb))
    have Hc := Lib.hid (Hc.out.below (Bl.tr (by first | exact Bl.rf _ | go_grown) hb))
    clear hb
    go_wp2_with fail
    refine (awakeB_any _).mono ?_
    rintro e9 w10 ⟨rfl, hb9⟩
    go_wp2_with fail
    go_ret
    exact ⟨rfl, Bl.tr B9 hb9⟩
theorem plans_walk (M : Mst) (w : World) : Calls Try.prog 3 #[encM M] w fun e' w' => e' = .returned (.bool true) ∧ Bl w w' := by
  by_cases h : VM M
  · exact plans_ok M w h
  · exact plans_bad M w h
end Go.Proofs.Ytoigbppnfjmojaa
