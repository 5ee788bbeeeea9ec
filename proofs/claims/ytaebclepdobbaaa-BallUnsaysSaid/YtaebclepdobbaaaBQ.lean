/-
  The walks of laws of package ball.
-/
import Derived.Test.YtaebclepdobbaaaBP
import Derived.Test.YtaebclepdobbaaaBM
namespace Go.Proofs.Ytaebclepdobbaaa
open Go.RowKit Go.Shelf
set_option linter.unusedSimpArgs false
set_option linter.unusedVariables false

set_option maxHeartbeats 400000 in
theorem longB_any (A : Option Addr) (n c : Nat) (w : World) : Calls Try.prog 24 #[.slice A n c] w fun e w' => e = .returned (.bool (decide (300 < (n : Int)))) ∧ w = w' := by
  go_enter Try.func24, Try.ntmps24
  go_wp2
  go_ret
  exact ⟨ret_bool (by first | rfl | (rw [Bool.eq_iff_iff]; simp)), rfl⟩
set_option maxRecDepth 100000 in
set_option maxHeartbeats 3200000 in
theorem steps_walk (M : Mst) (s : Bal) (e : Evt) (w : World) : Calls Try.prog 4 #[encM M, encB s, encE e] w fun e' w' => e' = .returned (.bool true) ∧ Bl w w' := by
  obtain ⟨r1, er, hr⟩ : ∃ r1 r2, nxtF M s e = (r1, r2) := ⟨_, _, rfl⟩
  have HR := Lib.hid hr
  clear hr
  obtain ⟨pl, wi, fl, st⟩ := r1
  go_enter Try.func4, Try.ntmps4
  go_wp2_with fail
  refine (ballNext_any M s e _).mono ?_
  rintro q1 w1 ⟨rfl, hb⟩
  have m0 := kcb hb (b := w.heap.size) (o := 0) (v := .int .i64 M.no) (by go_cell)
  have m1 := kcb hb (b := w.heap.size) (o := 1) (v := .int .i64 M.hf) (by go_cell)
  have m2 := kcb hb (b := w.heap.size) (o := 2) (v := .int .i64 M.fu) (by go_cell)
  have m3 := kcb hb (b := w.heap.size) (o := 3) (v := .int .i64 M.la) (by go_cell)
  have m4 := kcb hb (b := w.heap.size) (o := 4) (v := .int .i64 M.ag) (by go_cell)
  have m5 := kcb hb (b := w.heap.size) (o := 5) (v := .int .i64 M.wi) (by go_cell)
  have s0 := kcb hb (b := w.heap.size + 1) (o := 0) (v := .int .i64 s.pl) (by go_cell)
  have s1 := kcb hb (b := w.heap.size + 1) (o := 1) (v := .int .i64 s.wi) (by go_cell)
  have s2 := kcb hb (b := w.heap.size + 1) (o := 2) (v := .bool s.fl) (by go_cell)
  have s3 := kcb hb (b := w.heap.size + 1) (o := 3) (v := .int .i64 s.t) (by go_cell)
  have e0 := kcb hb (b := w.heap.size + 1 + 1) (o := 0) (v := .int .i64 e.t) (by go_cell)
  have e1 := kcb hb (b := w.heap.size + 1 + 1) (o := 1) (v := .int .i64 e.ki) (by go_cell)
  have e2 := kcb hb (b := w.heap.size + 1 + 1) (o := 2) (v := .int .i64 e.n) (by go_cell)
  have B1 : Bl w w1 := Below.trans (by go_grown) (hb.mono (by (try simp only [World.size_alloc, World.size_setCell]); omega))
  have l1 := ltb e2
  have zz1 := B1.size
  clear hb
  rw [HR.out]
  have lm1 := ltb m0
  have ls1 := ltb s0
  go_wp2_with fail
  refine (refNext_any M s e _).mono ?_
  rintro q2 w2 ⟨rfl, hb⟩
  have m0 := kcb hb (b := w.heap.size) (o := 0) (v := .int .i64 M.no) (by go_cell)
  have m1 := kcb hb (b := w.heap.size) (o := 1) (v := .int .i64 M.hf) (by go_cell)
  have m2 := kcb hb (b := w.heap.size) (o := 2) (v := .int .i64 M.fu) (by go_cell)
  have m3 := kcb hb (b := w.heap.size) (o := 3) (v := .int .i64 M.la) (by go_cell)
  have m4 := kcb hb (b := w.heap.size) (o := 4) (v := .int .i64 M.ag) (by go_cell)
  have m5 := kcb hb (b := w.heap.size) (o := 5) (v := .int .i64 M.wi) (by go_cell)
  have s0 := kcb hb (b := w.heap.size + 1) (o := 0) (v := .int .i64 s.pl) (by go_cell)
  have s1 := kcb hb (b := w.heap.size + 1) (o := 1) (v := .int .i64 s.wi) (by go_cell)
  have s2 := kcb hb (b := w.heap.size + 1) (o := 2) (v := .bool s.fl) (by go_cell)
  have s3 := kcb hb (b := w.heap.size + 1) (o := 3) (v := .int .i64 s.t) (by go_cell)
  have e0 := kcb hb (b := w.heap.size + 1 + 1) (o := 0) (v := .int .i64 e.t) (by go_cell)
  have e1 := kcb hb (b := w.heap.size + 1 + 1) (o := 1) (v := .int .i64 e.ki) (by go_cell)
  have e2 := kcb hb (b := w.heap.size + 1 + 1) (o := 2) (v := .int .i64 e.n) (by go_cell)
  have p0 := kcb hb (b := w1.heap.size) (o := 0) (v := .int .i64 pl) (by go_cell)
  have p1 := kcb hb (b := w1.heap.size) (o := 1) (v := .int .i64 wi) (by go_cell)
  have p2 := kcb hb (b := w1.heap.size) (o := 2) (v := .bool fl) (by go_cell)
  have p3 := kcb hb (b := w1.heap.size) (o := 3) (v := .int .i64 st) (by go_cell)
  have B2 : Bl w w2 := Below.trans (by go_grown) (hb.mono (by (try simp only [World.size_alloc, World.size_setCell]); omega))
  have l2 := ltb p3
  have zz2 := B2.size
  clear hb
  rw [HR.out]
  have lm2 := ltb m0
  have ls2 := ltb s0
  go_wp2_with fail
  refine (awakeB_any _).mono ?_
  rintro q9 w9 ⟨rfl, hb⟩
  have B9 : Bl w w9 := Below.trans (by go_grown) (hb.mono (by (try simp only [World.size_alloc, World.size_setCell]); omega))
  go_wp2_with fail
  go_ret
  exact ⟨rfl, B9⟩
set_option maxRecDepth 100000 in
set_option maxHeartbeats 3200000 in
theorem runs_walk (M : Mst) (A : Option Addr) (n c : Nat) (E : Nat → Evt) (w : World) (hn : n ≤ maxLen) (hc : n ≤ c ∧ c ≤ maxLen) (hA : El w A n E) : Calls Try.prog 5 #[encM M, .slice A n c] w fun e' w' => e' = .returned (.bool true) ∧ Bl w w' := by
  have HA := Lib.hid hA
  have HN := Lib.hid hn
  have HCC := Lib.hid hc.2
  have hc := hc.1
  clear hA hn
  by_cases hl : 300 < n
  · have HL := Lib.hid (show decide (300 < (n : Int)) = true from decide_eq_true (by omega))
    go_enter Try.func5, Try.ntmps5
    go_wp2_with fail
    refine (longB_any A n c _).mono ?_
    rintro q8 w8 ⟨rfl, rfl⟩
    rw [HL.out]
    go_wp2_with fail
    refine (awakeB_any _).mono ?_
    rintro q9 w9 ⟨rfl, hb⟩
    have B9 : Bl w w9 := Below.trans (by go_grown) (hb.mono (by (try simp only [World.size_alloc, World.size_setCell]); omega))
    go_wp2_with fail
    go_ret
    exact ⟨rfl, B9⟩
  · have HL := Lib.hid (show decide (300 < (n : Int)) = false from decide_eq_false (by omega))
    obtain ⟨r1, k, er, hr⟩ : ∃ r1 k er, runR M E n = (r1, k, er) := ⟨_, _, _, rfl⟩
    have HR := Lib.hid hr
    clear hr
    obtain ⟨pl, wi, fl, st⟩ := r1
    go_enter Try.func5, Try.ntmps5
    go_wp2_with fail
    refine (longB_any A n c _).mono ?_
    rintro q8 w8 ⟨rfl, rfl⟩
    rw [HL.out]
    go_wp2_with fail
    refine (run_any M A n c E _ (HA.out.below (by go_grown)) HN.out hc HCC.out).mono ?_
    rintro q1 w1 ⟨rfl, hb⟩
    have m0 := kcb hb (b := w.heap.size) (o := 0) (v := .int .i64 M.no) (by go_cell)
    have m1 := kcb hb (b := w.heap.size) (o := 1) (v := .int .i64 M.hf) (by go_cell)
    have m2 := kcb hb (b := w.heap.size) (o := 2) (v := .int .i64 M.fu) (by go_cell)
    have m3 := kcb hb (b := w.heap.size) (o := 3) (v := .int .i64 M.la) (by go_cell)
    have m4 := kcb hb (b := w.heap.size) (o := 4) (v := .int .i64 M.ag) (by go_cell)
    have m5 := kcb hb (b := w.heap.size) (o := 5) (v := .int .i64 M.wi) (by go_cell)
    have B1 : Bl w w1 := Below.trans (by go_grown) (hb.mono (by (try simp only [World.size_alloc, World.size_setCell]); omega))
    have l1 := ltb m5
    have zz1 := B1.size
    clear hb
    rw [HR.out]
    have lm1 := ltb m0
    go_wp2_with fail
    refine (rrun_any M A n c E _ (HA.out.below (by go_grown)) HN.out).mono ?_
    rintro q2 w2 ⟨rfl, hb⟩
    have m0 := kcb hb (b := w.heap.size) (o := 0) (v := .int .i64 M.no) (by go_cell)
    have m1 := kcb hb (b := w.heap.size) (o := 1) (v := .int .i64 M.hf) (by go_cell)
    have m2 := kcb hb (b := w.heap.size) (o := 2) (v := .int .i64 M.fu) (by go_cell)
    have m3 := kcb hb (b := w.heap.size) (o := 3) (v := .int .i64 M.la) (by go_cell)
    have m4 := kcb hb (b := w.heap.size) (o := 4) (v := .int .i64 M.ag) (by go_cell)
    have m5 := kcb hb (b := w.heap.size) (o := 5) (v := .int .i64 M.wi) (by go_cell)
    have p0 := kcb hb (b := w1.heap.size) (o := 0) (v := .int .i64 pl) (by go_cell)
    have p1 := kcb hb (b := w1.heap.size) (o := 1) (v := .int .i64 wi) (by go_cell)
    have p2 := kcb hb (b := w1.heap.size) (o := 2) (v := .bool fl) (by go_cell)
    have p3 := kcb hb (b := w1.heap.size) (o := 3) (v := .int .i64 st) (by go_cell)
    have B2 : Bl w w2 := Below.trans (by go_grown) (hb.mono (by (try simp only [World.size_alloc, World.size_setCell]); omega))
    have l2 := ltb p3
    have zz2 := B2.size
    clear hb
    rw [HR.out]
    have lm2 := ltb m0
    go_wp2_with fail
    refine (awakeB_any _).mono ?_
    rintro q9 w9 ⟨rfl, hb⟩
    have B9 : Bl w w9 := Below.trans (by go_grown) (hb.mono (by (try simp only [World.size_alloc, World.size_setCell]); omega))
    go_wp2_with fail
    go_ret
    exact ⟨rfl, B9⟩
set_option maxRecDepth 100000 in
set_option maxHeartbeats 3200000 in
theorem judges_walk (M : Mst) (A : Option Addr) (n c : Nat) (E : Nat → Evt) (w : World) (hn : n ≤ maxLen) (hc : n ≤ c ∧ c ≤ maxLen) (hA : El w A n E) : Calls Try.prog 7 #[encM M, .slice A n c] w fun e' w' => e' = .returned (.bool true) ∧ Bl w w' := by
  have HA := Lib.hid hA
  have HN := Lib.hid hn
  have HCC := Lib.hid hc.2
  have hc := hc.1
  clear hA hn
  by_cases hl : 300 < n
  · have HL := Lib.hid (show decide (300 < (n : Int)) = true from decide_eq_true (by omega))
    go_enter Try.func7, Try.ntmps7
    go_wp2_with fail
    refine (longB_any A n c _).mono ?_
    rintro q8 w8 ⟨rfl, rfl⟩
    rw [HL.out]
    go_wp2_with fail
    refine (awakeB_any _).mono ?_
    rintro q9 w9 ⟨rfl, hb⟩
    have B9 : Bl w w9 := Below.trans (by go_grown) (hb.mono (by (try simp only [World.size_alloc, World.size_setCell]); omega))
    go_wp2_with fail
    go_ret
    exact ⟨rfl, B9⟩
  · have HL := Lib.hid (show decide (300 < (n : Int)) = false from decide_eq_false (by omega))
    obtain ⟨v1, v2, hv⟩ : ∃ v1 v2, verR M E n = (v1, v2) := ⟨_, _, rfl⟩
    have HV := Lib.hid hv
    obtain ⟨o1, o2, ho⟩ : ∃ v1 v2, offR M E n = (v1, v2) := ⟨_, _, rfl⟩
    have HO := Lib.hid ho
    clear hv ho
    go_enter Try.func7, Try.ntmps7
    go_wp2_with fail
    refine (longB_any A n c _).mono ?_
    rintro q8 w8 ⟨rfl, rfl⟩
    rw [HL.out]
    go_wp2_with fail
    refine (ver_any M A n c E _ (HA.out.below (by go_grown)) HN.out hc HCC.out).mono ?_
    rintro q1 w1 ⟨rfl, hb⟩
    have m0 := kcb hb (b := w.heap.size) (o := 0) (v := .int .i64 M.no) (by go_cell)
    have m1 := kcb hb (b := w.heap.size) (o := 1) (v := .int .i64 M.hf) (by go_cell)
    have m2 := kcb hb (b := w.heap.size) (o := 2) (v := .int .i64 M.fu) (by go_cell)
    have m3 := kcb hb (b := w.heap.size) (o := 3) (v := .int .i64 M.la) (by go_cell)
    have m4 := kcb hb (b := w.heap.size) (o := 4) (v := .int .i64 M.ag) (by go_cell)
    have m5 := kcb hb (b := w.heap.size) (o := 5) (v := .int .i64 M.wi) (by go_cell)
    have B1 : Bl w w1 := Below.trans (by go_grown) (hb.mono (by (try simp only [World.size_alloc, World.size_setCell]); omega))
    have l1 := ltb m5
    have zz1 := B1.size
    clear hb
    rw [HV.out]
    go_wp2_with fail
    refine (rver_any M A n c E _ (HA.out.below (by go_grown)) HN.out).mono ?_
    rintro q2 w2 ⟨rfl, hb⟩
    have m0 := kcb hb (b := w.heap.size) (o := 0) (v := .int .i64 M.no) (by go_cell)
    have m1 := kcb hb (b := w.heap.size) (o := 1) (v := .int .i64 M.hf) (by go_cell)
    have m2 := kcb hb (b := w.heap.size) (o := 2) (v := .int .i64 M.fu) (by go_cell)
    have m3 := kcb hb (b := w.heap.size) (o := 3) (v := .int .i64 M.la) (by go_cell)
    have m4 := kcb hb (b := w.heap.size) (o := 4) (v := .int .i64 M.ag) (by go_cell)
    have m5 := kcb hb (b := w.heap.size) (o := 5) (v := .int .i64 M.wi) (by go_cell)
    have B2 : Bl w w2 := Below.trans (by go_grown) (hb.mono (by (try simp only [World.size_alloc, World.size_setCell]); omega))
    have l2 := ltb m5
    have zz2 := B2.size
    clear hb
    rw [HV.out]
    go_wp2_with fail
    refine (off_any M A n c E _ (HA.out.below (by go_grown)) HN.out hc HCC.out).mono ?_
    rintro q3 w3 ⟨rfl, hb⟩
    have m0 := kcb hb (b := w.heap.size) (o := 0) (v := .int .i64 M.no) (by go_cell)
    have m1 := kcb hb (b := w.heap.size) (o := 1) (v := .int .i64 M.hf) (by go_cell)
    have m2 := kcb hb (b := w.heap.size) (o := 2) (v := .int .i64 M.fu) (by go_cell)
    have m3 := kcb hb (b := w.heap.size) (o := 3) (v := .int .i64 M.la) (by go_cell)
    have m4 := kcb hb (b := w.heap.size) (o := 4) (v := .int .i64 M.ag) (by go_cell)
    have m5 := kcb hb (b := w.heap.size) (o := 5) (v := .int .i64 M.wi) (by go_cell)
    have B3 : Bl w w3 := Below.trans (by go_grown) (hb.mono (by (try simp only [World.size_alloc, World.size_setCell]); omega))
    have l3 := ltb m5
    have zz3 := B3.size
    clear hb
    rw [HO.out]
    go_wp2_with fail
    refine (roff_any M A n c E _ (HA.out.below (by go_grown)) HN.out).mono ?_
    rintro q4 w4 ⟨rfl, hb⟩
    have m0 := kcb hb (b := w.heap.size) (o := 0) (v := .int .i64 M.no) (by go_cell)
    have m1 := kcb hb (b := w.heap.size) (o := 1) (v := .int .i64 M.hf) (by go_cell)
    have m2 := kcb hb (b := w.heap.size) (o := 2) (v := .int .i64 M.fu) (by go_cell)
    have m3 := kcb hb (b := w.heap.size) (o := 3) (v := .int .i64 M.la) (by go_cell)
    have m4 := kcb hb (b := w.heap.size) (o := 4) (v := .int .i64 M.ag) (by go_cell)
    have m5 := kcb hb (b := w.heap.size) (o := 5) (v := .int .i64 M.wi) (by go_cell)
    have B4 : Bl w w4 := Below.trans (by go_grown) (hb.mono (by (try simp only [World.size_alloc, World.size_setCell]); omega))
    have l4 := ltb m5
    have zz4 := B4.size
    clear hb
    rw [HO.out]
    go_wp2_with fail
    refine (awakeB_any _).mono ?_
    rintro q9 w9 ⟨rfl, hb⟩
    have B9 : Bl w w9 := Below.trans (by go_grown) (hb.mono (by (try simp only [World.size_alloc, World.size_setCell]); omega))
    go_wp2_with fail
    go_ret
    exact ⟨rfl, B9⟩
set_option maxRecDepth 100000 in
set_option maxHeartbeats 3200000 in
theorem wiresB_walk (A : Option Addr) (n c : Nat) (R : Nat → Rly) (x : Int) (w : World) (hn : n ≤ maxLen) (hA : Rl w A n R) : Calls Try.prog 8 #[.slice A n c, .int .i64 x] w fun e' w' => e' = .returned (.bool true) ∧ Bl w w' := by
  have HA := Lib.hid hA
  have HN := Lib.hid hn
  clear hA
  unfold maxLen at hn
  by_cases hl : 100 < n
  · go_enter Try.func8, Try.ntmps8
    go_wp2_with fail
    refine (awakeB_any _).mono ?_
    rintro q9 w9 ⟨rfl, hb⟩
    have B9 : Bl w w9 := Below.trans (by go_grown) (hb.mono (by (try simp only [World.size_alloc, World.size_setCell]); omega))
    go_wp2_with fail
    go_ret
    exact ⟨rfl, B9⟩
  · have hl2 : n ≤ 100 := by omega
    obtain ⟨a1, a2, a3, ha⟩ : ∃ a b c, lagR R n = (a, b, c) := ⟨_, _, _, rfl⟩
    have HL := Lib.hid ha
    obtain ⟨b1, b2, hb⟩ : ∃ a b, sendR R n x = (a, b) := ⟨_, _, rfl⟩
    have HS := Lib.hid hb
    obtain ⟨f1, f2, f3, hf⟩ : ∃ a b c, falR R n x = (a, b, c) := ⟨_, _, _, rfl⟩
    have HF := Lib.hid hf
    obtain ⟨v, hv⟩ : ∃ v, decide (VW R n) = v := ⟨_, rfl⟩
    have HV := Lib.hid hv
    clear ha hb hf hv hl
    go_enter Try.func8, Try.ntmps8
    go_wp2_with fail
    refine (lag_any A n c R _ (HA.out.below (by go_grown)) HN.out).mono ?_
    rintro q1 w1 ⟨rfl, hb⟩
    have B1 : Bl w w1 := Below.trans (by go_grown) (hb.mono (by (try simp only [World.size_alloc, World.size_setCell]); omega))
    have zz1 := B1.size
    clear hb
    rw [HL.out]
    go_wp2_with fail
    refine (rlag_any A n c R _ (HA.out.below (by go_grown)) HN.out).mono ?_
    rintro q2 w2 ⟨rfl, hb⟩
    have p0 := kcb hb (b := w1.heap.size) (o := 0) (v := .int .i64 a1) (by go_cell)
    have p1 := kcb hb (b := w1.heap.size) (o := 1) (v := .int .i64 a2) (by go_cell)
    have B2 : Bl w w2 := Below.trans (by go_grown) (hb.mono (by (try simp only [World.size_alloc, World.size_setCell]); omega))
    have l2 := ltb p1
    have zz2 := B2.size
    clear hb
    rw [HL.out]
    have lp2 := ltb p0
    go_wp2_with fail
    refine (send_any A n c R x _ (HA.out.below (by go_grown)) HN.out).mono ?_
    rintro q3 w3 ⟨rfl, hb⟩
    have p0 := kcb hb (b := w1.heap.size) (o := 0) (v := .int .i64 a1) (by go_cell)
    have p1 := kcb hb (b := w1.heap.size) (o := 1) (v := .int .i64 a2) (by go_cell)
    have r0 := kcb hb (b := w2.heap.size) (o := 0) (v := .int .i64 a1) (by go_cell)
    have r1 := kcb hb (b := w2.heap.size) (o := 1) (v := .int .i64 a2) (by go_cell)
    have B3 : Bl w w3 := Below.trans (by go_grown) (hb.mono (by (try simp only [World.size_alloc, World.size_setCell]); omega))
    have l3 := ltb r1
    have zz3 := B3.size
    clear hb
    rw [HS.out]
    have lp3 := ltb p0
    have lr3 := ltb r0
    go_wp2_with fail
    refine (rsend_any A n c R x _ (HA.out.below (by go_grown)) HN.out).mono ?_
    rintro q4 w4 ⟨rfl, hb⟩
    have p0 := kcb hb (b := w1.heap.size) (o := 0) (v := .int .i64 a1) (by go_cell)
    have p1 := kcb hb (b := w1.heap.size) (o := 1) (v := .int .i64 a2) (by go_cell)
    have r0 := kcb hb (b := w2.heap.size) (o := 0) (v := .int .i64 a1) (by go_cell)
    have r1 := kcb hb (b := w2.heap.size) (o := 1) (v := .int .i64 a2) (by go_cell)
    have B4 : Bl w w4 := Below.trans (by go_grown) (hb.mono (by (try simp only [World.size_alloc, World.size_setCell]); omega))
    have l4 := ltb r1
    have zz4 := B4.size
    clear hb
    rw [HS.out]
    have lp4 := ltb p0
    have lr4 := ltb r0
    go_wp2_with fail
    refine (falls_any A n c R x _ (HA.out.below (by go_grown)) HN.out).mono ?_
    rintro q5 w5 ⟨rfl, hb⟩
    have p0 := kcb hb (b := w1.heap.size) (o := 0) (v := .int .i64 a1) (by go_cell)
    have p1 := kcb hb (b := w1.heap.size) (o := 1) (v := .int .i64 a2) (by go_cell)
    have r0 := kcb hb (b := w2.heap.size) (o := 0) (v := .int .i64 a1) (by go_cell)
    have r1 := kcb hb (b := w2.heap.size) (o := 1) (v := .int .i64 a2) (by go_cell)
    have B5 : Bl w w5 := Below.trans (by go_grown) (hb.mono (by (try simp only [World.size_alloc, World.size_setCell]); omega))
    have l5 := ltb r1
    have zz5 := B5.size
    clear hb
    rw [HF.out]
    have lp5 := ltb p0
    have lr5 := ltb r0
    go_wp2_with fail
    refine (rfalls_any A n c R x _ (HA.out.below (by go_grown)) HN.out).mono ?_
    rintro q6 w6 ⟨rfl, hb⟩
    have p0 := kcb hb (b := w1.heap.size) (o := 0) (v := .int .i64 a1) (by go_cell)
    have p1 := kcb hb (b := w1.heap.size) (o := 1) (v := .int .i64 a2) (by go_cell)
    have r0 := kcb hb (b := w2.heap.size) (o := 0) (v := .int .i64 a1) (by go_cell)
    have r1 := kcb hb (b := w2.heap.size) (o := 1) (v := .int .i64 a2) (by go_cell)
    have t0 := kcb hb (b := w5.heap.size) (o := 0) (v := .int .i64 f1) (by go_cell)
    have t1 := kcb hb (b := w5.heap.size) (o := 1) (v := .int .i64 f2) (by go_cell)
    have B6 : Bl w w6 := Below.trans (by go_grown) (hb.mono (by (try simp only [World.size_alloc, World.size_setCell]); omega))
    have l6 := ltb t1
    have zz6 := B6.size
    clear hb
    rw [HF.out]
    have lp6 := ltb p0
    have lr6 := ltb r0
    have lt6 := ltb t0
    go_wp2_with fail
    refine (vw_any A n c R _ (HA.out.below (by go_grown)) HN.out).mono ?_
    rintro q7 w7 ⟨rfl, hb⟩
    have p0 := kcb hb (b := w1.heap.size) (o := 0) (v := .int .i64 a1) (by go_cell)
    have p1 := kcb hb (b := w1.heap.size) (o := 1) (v := .int .i64 a2) (by go_cell)
    have r0 := kcb hb (b := w2.heap.size) (o := 0) (v := .int .i64 a1) (by go_cell)
    have r1 := kcb hb (b := w2.heap.size) (o := 1) (v := .int .i64 a2) (by go_cell)
    have t0 := kcb hb (b := w5.heap.size) (o := 0) (v := .int .i64 f1) (by go_cell)
    have t1 := kcb hb (b := w5.heap.size) (o := 1) (v := .int .i64 f2) (by go_cell)
    have u0 := kcb hb (b := w6.heap.size) (o := 0) (v := .int .i64 f1) (by go_cell)
    have u1 := kcb hb (b := w6.heap.size) (o := 1) (v := .int .i64 f2) (by go_cell)
    have B7 : Bl w w7 := Below.trans (by go_grown) (hb.mono (by (try simp only [World.size_alloc, World.size_setCell]); omega))
    have l7 := ltb u1
    have zz7 := B7.size
    clear hb
    rw [HV.out]
    have lp7 := ltb p0
    have lr7 := ltb r0
    have lt7 := ltb t0
    have lu7 := ltb u0
    go_wp2_with fail
    refine (rvw_any A n c R _ (HA.out.below (by go_grown)) HN.out).mono ?_
    rintro q8 w8 ⟨rfl, hb⟩
    have p0 := kcb hb (b := w1.heap.size) (o := 0) (v := .int .i64 a1) (by go_cell)
    have p1 := kcb hb (b := w1.heap.size) (o := 1) (v := .int .i64 a2) (by go_cell)
    have r0 := kcb hb (b := w2.heap.size) (o := 0) (v := .int .i64 a1) (by go_cell)
    have r1 := kcb hb (b := w2.heap.size) (o := 1) (v := .int .i64 a2) (by go_cell)
    have t0 := kcb hb (b := w5.heap.size) (o := 0) (v := .int .i64 f1) (by go_cell)
    have t1 := kcb hb (b := w5.heap.size) (o := 1) (v := .int .i64 f2) (by go_cell)
    have u0 := kcb hb (b := w6.heap.size) (o := 0) (v := .int .i64 f1) (by go_cell)
    have u1 := kcb hb (b := w6.heap.size) (o := 1) (v := .int .i64 f2) (by go_cell)
    have B8 : Bl w w8 := Below.trans (by go_grown) (hb.mono (by (try simp only [World.size_alloc, World.size_setCell]); omega))
    have l8 := ltb u1
    have zz8 := B8.size
    clear hb
    rw [HV.out]
    have lp8 := ltb p0
    have lr8 := ltb r0
    have lt8 := ltb t0
    have lu8 := ltb u0
    have hvv : (v == v) = true := by simp
    go_wp2_with fail
    refine (awakeB_any _).mono ?_
    rintro q9 w9 ⟨rfl, hb⟩
    have B9 : Bl w w9 := Below.trans (by go_grown) (hb.mono (by (try simp only [World.size_alloc, World.size_setCell]); omega))
    go_wp2_with fail
    go_ret
    exact ⟨rfl, B9⟩
end Go.Proofs.Ytaebclepdobbaaa
