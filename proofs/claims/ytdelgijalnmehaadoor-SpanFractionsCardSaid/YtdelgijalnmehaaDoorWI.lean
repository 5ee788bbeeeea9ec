/-
  The walk of the law P1.2 on fractions.
-/
import Derived.Test.YtdelgijalnmehaaDoorS
import Derived.Test.YtdelgijalnmehaaDoorZ
import Derived.Deep.DeepCutAuto
namespace Go.Proofs.YtdelgijalnmehaaDoor
open Go.RowKit Cal
set_option linter.unusedSimpArgs false
set_option linter.unusedVariables false

theorem cellUp' {a b : World} {k o : Nat} {v : Value} (h : a.cell? ⟨k, o, none⟩ = some v) (hb : Bl a b) : b.cell? ⟨k, o, none⟩ = some v := ((bcell hb).1 _ _ (lt_of_cell' h)).trans h
theorem rvR_t (n d : Int) (w : World) (h : vR n d = true) : Calls Tryd.prog 6 #[.agg #[.int .i64 n, .int .i64 d]] w fun e w' => e = .returned (.bool true) ∧ Bl w w' := by
  have := rvalidRatio_any n d w
  rwa [h] at this
theorem rvR_f (n d : Int) (w : World) (h : vR n d = false) : Calls Tryd.prog 6 #[.agg #[.int .i64 n, .int .i64 d]] w fun e w' => e = .returned (.bool false) ∧ Bl w w' := by
  have := rvalidRatio_any n d w
  rwa [h] at this
theorem cmp_at (an ad bn bd p : Int) (w : World) (h : cmpF an ad bn bd = p) : Calls Tryd.prog 10 #[.agg #[.int .i64 an, .int .i64 ad], .agg #[.int .i64 bn, .int .i64 bd]] w fun e w' => e = .returned (.int .i64 p) ∧ Bl w w' := by
  have := cmp_any an ad bn bd w
  rwa [h] at this
theorem add_comm' (an ad bn bd : Int) : addF bn bd an ad = addF an ad bn bd := by
  unfold addF; rw [Bool.and_comm (vR bn bd), Int.add_comm (bn * ad), Int.mul_comm bd ad]
theorem add_ok {a b c d x y : Int} (h : addF a b c d = (x, y, 0)) : lowF (a * d + c * b) (b * d) = (x, y, 0) := by
  unfold addF at h; split at h
  · exact h
  · simp at h
theorem mul_ok {a b c d x y : Int} (h : mulF a b c d = (x, y, 0)) : lowF (a * c) (b * d) = (x, y, 0) := by
  unfold mulF at h; split at h
  · exact h
  · simp at h
theorem sub_ok {a b c d x y : Int} (h : subF a b c d = (x, y, 0)) : lowF (a * d - c * b) (b * d) = (x, y, 0) ∧ vR x y = true := by
  unfold subF at h; split at h
  · refine ⟨h, ?_⟩
    rename_i hv
    have hv' : vR a b = true ∧ vR c d = true := by simpa using hv
    have b1 := (vR_iff.1 hv'.1).1
    have d1 := (vR_iff.1 hv'.2).1
    unfold lowF at h; split at h
    · simp at h
    · simp at h
      obtain ⟨rfl, rfl⟩ := h
      rename_i hl
      exact (low_vR (by have := Int.mul_pos (show 0 < b by omega) (show 0 < d by omega); omega)).2 hl
  · simp at h
theorem cmp_ok {a b c d : Int} (h1 : vR a b = true) (h2 : vR c d = true) : cmpF a b c d = ordF (a * d) (c * b) := by unfold cmpF; rw [h1, h2, Bool.and_self, if_pos rfl]
theorem ne_pair {a b c d : Int} (h : ¬ (a = b ∧ c = d)) : a ≠ b ∨ (a = b ∧ c ≠ d) := by
  by_cases e : a = b
  · exact .inr ⟨e, fun k => h ⟨e, k⟩⟩
  · exact .inl e
theorem vR_d {a b : Int} (h : vR a b = true) : 1 ≤ b := (vR_iff.1 h).1.1
theorem cmp_eq {a b c d : Int} (h1 : vR a b = true) (h2 : vR c d = true) (h : cmpF a b c d = 0) : a = c ∧ b = d := by
  rw [cmp_ok h1 h2, ord_zero] at h
  exact low_uniq (vR_d h1) (vR_d h2) (vR_iff.1 h1).2 (vR_iff.1 h2).2 h

set_option maxRecDepth 100000 in
set_option maxHeartbeats 6400000 in
theorem fractions_walk (an ad bn bd cn cd : Int) (w : World) (hM : Mo w) :
    Calls Tryd.prog 3 #[.agg #[.int .i64 an, .int .i64 ad], .agg #[.int .i64 bn, .int .i64 bd], .agg #[.int .i64 cn, .int .i64 cd]] w fun e w' => e = .returned (.bool true) ∧ Bl w w' := by
  have HM := Lib.hid hM
  clear hM
  by_cases hva : vR an ad = true
  · by_cases hvb : vR bn bd = true
    · by_cases hvc : vR cn cd = true
      · have Hva := Lib.hid hva
        have Hvb := Lib.hid hvb
        have Hvc := Lib.hid hvc
        clear hva hvb hvc
        obtain ⟨p1, p2, p3, hAB⟩ : ∃ x y z, addF an ad bn bd = (x, y, z) := ⟨_, _, _, rfl⟩
        have HAB := Lib.hid hAB
        clear hAB
        have HBA := Lib.hid ((add_comm' an ad bn bd).trans HAB.out)
        obtain ⟨r1, r2, r3, hBC⟩ : ∃ x y z, addF bn bd cn cd = (x, y, z) := ⟨_, _, _, rfl⟩
        have HBC := Lib.hid hBC
        clear hBC
        obtain ⟨x1, x2, x3, hX⟩ : ∃ x y z, addF p1 p2 cn cd = (x, y, z) := ⟨_, _, _, rfl⟩
        have HX := Lib.hid hX
        clear hX
        obtain ⟨y1, y2, y3, hY⟩ : ∃ x y z, addF an ad r1 r2 = (x, y, z) := ⟨_, _, _, rfl⟩
        have HY := Lib.hid hY
        clear hY
        obtain ⟨c1, c2, c3, hAC⟩ : ∃ x y z, mulF an ad cn cd = (x, y, z) := ⟨_, _, _, rfl⟩
        have HAC := Lib.hid hAC
        clear hAC
        obtain ⟨d1, d2, d3, hBX⟩ : ∃ x y z, mulF bn bd cn cd = (x, y, z) := ⟨_, _, _, rfl⟩
        have HBX := Lib.hid hBX
        clear hBX
        obtain ⟨l1, l2, l3, hL⟩ : ∃ x y z, mulF p1 p2 cn cd = (x, y, z) := ⟨_, _, _, rfl⟩
        have HL := Lib.hid hL
        clear hL
        obtain ⟨g1, g2, g3, hG⟩ : ∃ x y z, addF c1 c2 d1 d2 = (x, y, z) := ⟨_, _, _, rfl⟩
        have HG := Lib.hid hG
        clear hG
        obtain ⟨s1, s2, s3, hS⟩ : ∃ x y z, subF an ad bn bd = (x, y, z) := ⟨_, _, _, rfl⟩
        have HS := Lib.hid hS
        clear hS
        obtain ⟨oP, hP⟩ : ∃ x, cmpF an ad bn bd = x := ⟨_, rfl⟩
        have HP := Lib.hid hP
        clear hP
        obtain ⟨oQ, hQ⟩ : ∃ x, cmpF bn bd cn cd = x := ⟨_, rfl⟩
        have HQ := Lib.hid hQ
        clear hQ
        obtain ⟨oR, hR⟩ : ∃ x, cmpF an ad cn cd = x := ⟨_, rfl⟩
        have HR := Lib.hid hR
        clear hR
        have hnp : cmpF bn bd an ad = -oP := by rw [← HP.out, cmp_ok Hvb.out Hva.out, cmp_ok Hva.out Hvb.out]; exact ord_neg _ _
        have HNP := Lib.hid hnp
        clear hnp
        have F10 : Hid (p3 = 0 → r3 = 0 → x3 = 0 → y3 = 0 → x1 = y1 ∧ x2 = y2) := fun e1 e2 e3 e4 => add_assoc' (vR_d Hva.out) (vR_d Hvb.out) (vR_d Hvc.out) (add_ok (e1 ▸ HAB.out)) (add_ok (e2 ▸ HBC.out)) (add_ok (e3 ▸ HX.out)) (add_ok (e4 ▸ HY.out))
        have F16 : Hid (p3 = 0 → c3 = 0 → d3 = 0 → l3 = 0 → g3 = 0 → l1 = g1 ∧ l2 = g2) := fun e1 e2 e3 e4 e5 => distrib' (vR_d Hva.out) (vR_d Hvb.out) (vR_d Hvc.out) (add_ok (e1 ▸ HAB.out)) (mul_ok (e2 ▸ HAC.out)) (mul_ok (e3 ▸ HBX.out)) (mul_ok (e4 ▸ HL.out)) (add_ok (e5 ▸ HG.out))
        have T1 : Hid (oP ≤ 0 → oQ ≤ 0 → oR ≤ 0) := by
          have e1 := cmp_ok Hva.out Hvb.out
          have e2 := cmp_ok Hvb.out Hvc.out
          have e3 := cmp_ok Hva.out Hvc.out
          show oP ≤ 0 → oQ ≤ 0 → oR ≤ 0
          rw [← HP.out, ← HQ.out, ← HR.out, e1, e2, e3, ord_le, ord_le, ord_le]
          exact le_trans' (vR_d Hva.out) (vR_d Hvb.out) (vR_d Hvc.out)
        have T2 : Hid (0 ≤ oP → 0 ≤ oQ → 0 ≤ oR) := by
          have e1 := cmp_ok Hva.out Hvb.out
          have e2 := cmp_ok Hvb.out Hvc.out
          have e3 := cmp_ok Hva.out Hvc.out
          show 0 ≤ oP → 0 ≤ oQ → 0 ≤ oR
          rw [← HP.out, ← HQ.out, ← HR.out, e1, e2, e3, ord_ge, ord_ge, ord_ge]
          exact fun h1 h2 => le_trans' (vR_d Hvc.out) (vR_d Hvb.out) (vR_d Hva.out) h2 h1
        have E0 : Hid (oP = 0 → an = bn ∧ ad = bd) := fun h => cmp_eq Hva.out Hvb.out (HP.out.trans h)
        have E1 : Hid (oP ≠ 0 → ¬ (an = bn ∧ ad = bd)) := fun h k => h (by rw [← HP.out, cmp_ok Hva.out Hvb.out, ord_zero, k.1, k.2])
        obtain ⟨v1, v2⟩ : -1 ≤ oP ∧ oP ≤ 1 := by rw [← HP.out, cmp_ok Hva.out Hvb.out]; exact ord_bd _ _
        obtain ⟨v3, v4⟩ : -1 ≤ oQ ∧ oQ ≤ 1 := by rw [← HQ.out, cmp_ok Hvb.out Hvc.out]; exact ord_bd _ _
        obtain ⟨v5, v6⟩ : -1 ≤ oR ∧ oR ≤ 1 := by rw [← HR.out, cmp_ok Hva.out Hvc.out]; exact ord_bd _ _
        have F22 : Hid (s3 = 0 → cmpF s1 s2 0 1 = oP) := fun e => by
          obtain ⟨h1, h2⟩ := sub_ok (e ▸ HS.out)
          rw [cmp_ok h2 (by decide), ← HP.out, cmp_ok Hva.out Hvb.out]
          exact sub_ord (vR_d Hva.out) (vR_d Hvb.out) h1
        go_enter Tryd.func3, Tryd.ntmps3
        go_wp2_with fail
        refine (rvR_t _ _ _ Hva.out).mono ?_
        rintro e w1 ⟨rfl, hb⟩
        have ka0 := cellUp' (k := w.heap.size) (o := 0) (v := .int .i64 an) (by go_cell) hb
        have ka1 := cellUp' (k := w.heap.size) (o := 1) (v := .int .i64 ad) (by go_cell) hb
        have kb0 := cellUp' (k := w.heap.size + 1) (o := 0) (v := .int .i64 bn) (by go_cell) hb
        have kb1 := cellUp' (k := w.heap.size + 1) (o := 1) (v := .int .i64 bd) (by go_cell) hb
        have kc0 := cellUp' (k := w.heap.size + 1 + 1) (o := 0) (v := .int .i64 cn) (by go_cell) hb
        have kc1 := cellUp' (k := w.heap.size + 1 + 1) (o := 1) (v := .int .i64 cd) (by go_cell) hb
        have B1 : Bl w w1 := Bl.tr (by go_grown) hb
        have z1 := B1.size
        clear hb
        have kal := lt_of_cell' ka0
        have kbl := lt_of_cell' kb0
        have kcl := lt_of_cell' kc0
        go_wp2_with fail
        refine (rvR_t _ _ _ Hvb.out).mono ?_
        rintro e w2 ⟨rfl, hb⟩
        have ka0' := cellUp' (cellUp' ka0 (by go_grown)) hb
        clear ka0
        have ka0 := ka0'
        clear ka0'
        have ka1' := cellUp' (cellUp' ka1 (by go_grown)) hb
        clear ka1
        have ka1 := ka1'
        clear ka1'
        have kb0' := cellUp' (cellUp' kb0 (by go_grown)) hb
        clear kb0
        have kb0 := kb0'
        clear kb0'
        have kb1' := cellUp' (cellUp' kb1 (by go_grown)) hb
        clear kb1
        have kb1 := kb1'
        clear kb1'
        have kc0' := cellUp' (cellUp' kc0 (by go_grown)) hb
        clear kc0
        have kc0 := kc0'
        clear kc0'
        have kc1' := cellUp' (cellUp' kc1 (by go_grown)) hb
        clear kc1
        have kc1 := kc1'
        clear kc1'
        have B2 : Bl w w2 := Below.trans (by go_grown) (hb.mono (by (try simp only [World.size_alloc, World.size_setCell, World.size_drew, sz_drewN]); omega))
        have z2 := B2.size
        clear hb
        have kal := lt_of_cell' ka0
        have kbl := lt_of_cell' kb0
        have kcl := lt_of_cell' kc0
        go_wp2_with fail
        refine (rvR_t _ _ _ Hvc.out).mono ?_
        rintro e w3 ⟨rfl, hb⟩
        have ka0' := cellUp' (cellUp' ka0 (by go_grown)) hb
        clear ka0
        have ka0 := ka0'
        clear ka0'
        have ka1' := cellUp' (cellUp' ka1 (by go_grown)) hb
        clear ka1
        have ka1 := ka1'
        clear ka1'
        have kb0' := cellUp' (cellUp' kb0 (by go_grown)) hb
        clear kb0
        have kb0 := kb0'
        clear kb0'
        have kb1' := cellUp' (cellUp' kb1 (by go_grown)) hb
        clear kb1
        have kb1 := kb1'
        clear kb1'
        have kc0' := cellUp' (cellUp' kc0 (by go_grown)) hb
        clear kc0
        have kc0 := kc0'
        clear kc0'
        have kc1' := cellUp' (cellUp' kc1 (by go_grown)) hb
        clear kc1
        have kc1 := kc1'
        clear kc1'
        have B3 : Bl w w3 := Below.trans (by go_grown) (hb.mono (by (try simp only [World.size_alloc, World.size_setCell, World.size_drew, sz_drewN]); omega))
        have z3 := B3.size
        clear hb
        have kal := lt_of_cell' ka0
        have kbl := lt_of_cell' kb0
        have kcl := lt_of_cell' kc0
        go_wp2_with fail
        refine (add_any _ _ _ _ _).mono ?_
        rintro e w4 ⟨rfl, hb⟩
        rw [HAB.out]
        unfold rR
        have ka0' := cellUp' (cellUp' ka0 (by go_grown)) hb
        clear ka0
        have ka0 := ka0'
        clear ka0'
        have ka1' := cellUp' (cellUp' ka1 (by go_grown)) hb
        clear ka1
        have ka1 := ka1'
        clear ka1'
        have kb0' := cellUp' (cellUp' kb0 (by go_grown)) hb
        clear kb0
        have kb0 := kb0'
        clear kb0'
        have kb1' := cellUp' (cellUp' kb1 (by go_grown)) hb
        clear kb1
        have kb1 := kb1'
        clear kb1'
        have kc0' := cellUp' (cellUp' kc0 (by go_grown)) hb
        clear kc0
        have kc0 := kc0'
        clear kc0'
        have kc1' := cellUp' (cellUp' kc1 (by go_grown)) hb
        clear kc1
        have kc1 := kc1'
        clear kc1'
        have B4 : Bl w w4 := Below.trans (by go_grown) (hb.mono (by (try simp only [World.size_alloc, World.size_setCell, World.size_drew, sz_drewN]); omega))
        have z4 := B4.size
        clear hb
        have kal := lt_of_cell' ka0
        have kbl := lt_of_cell' kb0
        have kcl := lt_of_cell' kc0
        go_wp2_with fail
        refine (add_any _ _ _ _ _).mono ?_
        rintro e w5 ⟨rfl, hb⟩
        rw [HBA.out]
        unfold rR
        have ka0' := cellUp' (cellUp' ka0 (by go_grown)) hb
        clear ka0
        have ka0 := ka0'
        clear ka0'
        have ka1' := cellUp' (cellUp' ka1 (by go_grown)) hb
        clear ka1
        have ka1 := ka1'
        clear ka1'
        have kb0' := cellUp' (cellUp' kb0 (by go_grown)) hb
        clear kb0
        have kb0 := kb0'
        clear kb0'
        have kb1' := cellUp' (cellUp' kb1 (by go_grown)) hb
        clear kb1
        have kb1 := kb1'
        clear kb1'
        have kc0' := cellUp' (cellUp' kc0 (by go_grown)) hb
        clear kc0
        have kc0 := kc0'
        clear kc0'
        have kc1' := cellUp' (cellUp' kc1 (by go_grown)) hb
        clear kc1
        have kc1 := kc1'
        clear kc1'
        have kp0 := cellUp' (k := w4.heap.size) (o := 0) (v := .int .i64 p1) (by go_cell) hb
        have kp1 := cellUp' (k := w4.heap.size) (o := 1) (v := .int .i64 p2) (by go_cell) hb
        have B5 : Bl w w5 := Below.trans (by go_grown) (hb.mono (by (try simp only [World.size_alloc, World.size_setCell, World.size_drew, sz_drewN]); omega))
        have z5 := B5.size
        clear hb
        have kal := lt_of_cell' ka0
        have kbl := lt_of_cell' kb0
        have kcl := lt_of_cell' kc0
        have kpl := lt_of_cell' kp0
        go_wp2_with fail
        refine (add_any _ _ _ _ _).mono ?_
        rintro e w6 ⟨rfl, hb⟩
        rw [HBC.out]
        unfold rR
        have ka0' := cellUp' (cellUp' ka0 (by go_grown)) hb
        clear ka0
        have ka0 := ka0'
        clear ka0'
        have ka1' := cellUp' (cellUp' ka1 (by go_grown)) hb
        clear ka1
        have ka1 := ka1'
        clear ka1'
        have kb0' := cellUp' (cellUp' kb0 (by go_grown)) hb
        clear kb0
        have kb0 := kb0'
        clear kb0'
        have kb1' := cellUp' (cellUp' kb1 (by go_grown)) hb
        clear kb1
        have kb1 := kb1'
        clear kb1'
        have kc0' := cellUp' (cellUp' kc0 (by go_grown)) hb
        clear kc0
        have kc0 := kc0'
        clear kc0'
        have kc1' := cellUp' (cellUp' kc1 (by go_grown)) hb
        clear kc1
        have kc1 := kc1'
        clear kc1'
        have kp0' := cellUp' (cellUp' kp0 (by go_grown)) hb
        clear kp0
        have kp0 := kp0'
        clear kp0'
        have kp1' := cellUp' (cellUp' kp1 (by go_grown)) hb
        clear kp1
        have kp1 := kp1'
        clear kp1'
        have kq0 := cellUp' (k := w5.heap.size) (o := 0) (v := .int .i64 p1) (by go_cell) hb
        have kq1 := cellUp' (k := w5.heap.size) (o := 1) (v := .int .i64 p2) (by go_cell) hb
        have B6 : Bl w w6 := Below.trans (by go_grown) (hb.mono (by (try simp only [World.size_alloc, World.size_setCell, World.size_drew, sz_drewN]); omega))
        have z6 := B6.size
        clear hb
        have kal := lt_of_cell' ka0
        have kbl := lt_of_cell' kb0
        have kcl := lt_of_cell' kc0
        have kpl := lt_of_cell' kp0
        have kql := lt_of_cell' kq0
        go_wp2_with fail
        refine (add_any _ _ _ _ _).mono ?_
        rintro e w7 ⟨rfl, hb⟩
        rw [HX.out]
        unfold rR
        have ka0' := cellUp' (cellUp' ka0 (by go_grown)) hb
        clear ka0
        have ka0 := ka0'
        clear ka0'
        have ka1' := cellUp' (cellUp' ka1 (by go_grown)) hb
        clear ka1
        have ka1 := ka1'
        clear ka1'
        have kb0' := cellUp' (cellUp' kb0 (by go_grown)) hb
        clear kb0
        have kb0 := kb0'
        clear kb0'
        have kb1' := cellUp' (cellUp' kb1 (by go_grown)) hb
        clear kb1
        have kb1 := kb1'
        clear kb1'
        have kc0' := cellUp' (cellUp' kc0 (by go_grown)) hb
        clear kc0
        have kc0 := kc0'
        clear kc0'
        have kc1' := cellUp' (cellUp' kc1 (by go_grown)) hb
        clear kc1
        have kc1 := kc1'
        clear kc1'
        have kp0' := cellUp' (cellUp' kp0 (by go_grown)) hb
        clear kp0
        have kp0 := kp0'
        clear kp0'
        have kp1' := cellUp' (cellUp' kp1 (by go_grown)) hb
        clear kp1
        have kp1 := kp1'
        clear kp1'
        have kq0' := cellUp' (cellUp' kq0 (by go_grown)) hb
        clear kq0
        have kq0 := kq0'
        clear kq0'
        have kq1' := cellUp' (cellUp' kq1 (by go_grown)) hb
        clear kq1
        have kq1 := kq1'
        clear kq1'
        have kr0 := cellUp' (k := w6.heap.size) (o := 0) (v := .int .i64 r1) (by go_cell) hb
        have kr1 := cellUp' (k := w6.heap.size) (o := 1) (v := .int .i64 r2) (by go_cell) hb
        have B7 : Bl w w7 := Below.trans (by go_grown) (hb.mono (by (try simp only [World.size_alloc, World.size_setCell, World.size_drew, sz_drewN]); omega))
        have z7 := B7.size
        clear hb
        have kal := lt_of_cell' ka0
        have kbl := lt_of_cell' kb0
        have kcl := lt_of_cell' kc0
        have kpl := lt_of_cell' kp0
        have kql := lt_of_cell' kq0
        have krl := lt_of_cell' kr0
        clear kq0 kq1 kql
        go_wp2_with fail
        refine (add_any _ _ _ _ _).mono ?_
        rintro e w8 ⟨rfl, hb⟩
        rw [HY.out]
        unfold rR
        have ka0' := cellUp' (cellUp' ka0 (by go_grown)) hb
        clear ka0
        have ka0 := ka0'
        clear ka0'
        have ka1' := cellUp' (cellUp' ka1 (by go_grown)) hb
        clear ka1
        have ka1 := ka1'
        clear ka1'
        have kb0' := cellUp' (cellUp' kb0 (by go_grown)) hb
        clear kb0
        have kb0 := kb0'
        clear kb0'
        have kb1' := cellUp' (cellUp' kb1 (by go_grown)) hb
        clear kb1
        have kb1 := kb1'
        clear kb1'
        have kc0' := cellUp' (cellUp' kc0 (by go_grown)) hb
        clear kc0
        have kc0 := kc0'
        clear kc0'
        have kc1' := cellUp' (cellUp' kc1 (by go_grown)) hb
        clear kc1
        have kc1 := kc1'
        clear kc1'
        have kp0' := cellUp' (cellUp' kp0 (by go_grown)) hb
        clear kp0
        have kp0 := kp0'
        clear kp0'
        have kp1' := cellUp' (cellUp' kp1 (by go_grown)) hb
        clear kp1
        have kp1 := kp1'
        clear kp1'
        have kr0' := cellUp' (cellUp' kr0 (by go_grown)) hb
        clear kr0
        have kr0 := kr0'
        clear kr0'
        have kr1' := cellUp' (cellUp' kr1 (by go_grown)) hb
        clear kr1
        have kr1 := kr1'
        clear kr1'
        have kx0 := cellUp' (k := w7.heap.size) (o := 0) (v := .int .i64 x1) (by go_cell) hb
        have kx1 := cellUp' (k := w7.heap.size) (o := 1) (v := .int .i64 x2) (by go_cell) hb
        have B8 : Bl w w8 := Below.trans (by go_grown) (hb.mono (by (try simp only [World.size_alloc, World.size_setCell, World.size_drew, sz_drewN]); omega))
        have z8 := B8.size
        clear hb
        have kal := lt_of_cell' ka0
        have kbl := lt_of_cell' kb0
        have kcl := lt_of_cell' kc0
        have kpl := lt_of_cell' kp0
        have krl := lt_of_cell' kr0
        have kxl := lt_of_cell' kx0
        clear kr0 kr1 krl
        go_upto_region 10 with fail
        go_cut [100] (fun c0 wx => c0 = .bool false ∧ Bl w wx ∧ wx.cell? ⟨w.heap.size, 0, none⟩ = some (.int .i64 an) ∧ wx.cell? ⟨w.heap.size, 1, none⟩ = some (.int .i64 ad) ∧ wx.cell? ⟨w.heap.size + 1, 0, none⟩ = some (.int .i64 bn) ∧ wx.cell? ⟨w.heap.size + 1, 1, none⟩ = some (.int .i64 bd) ∧ wx.cell? ⟨w.heap.size + 1 + 1, 0, none⟩ = some (.int .i64 cn) ∧ wx.cell? ⟨w.heap.size + 1 + 1, 1, none⟩ = some (.int .i64 cd) ∧ wx.cell? ⟨w4.heap.size, 0, none⟩ = some (.int .i64 p1) ∧ wx.cell? ⟨w4.heap.size, 1, none⟩ = some (.int .i64 p2))
        case first =>
          as_aux_lemma =>
            by_cases ep3 : p3 = 0
            rotate_left
            · have ep3' : (p3 == 0) = false := by simpa using ep3
              clear ep3 F10 F16
              go_wp2_with fail
              go_meet
              exact ⟨rfl, by go_grown, cellUp' ka0 (by go_grown), cellUp' ka1 (by go_grown), cellUp' kb0 (by go_grown), cellUp' kb1 (by go_grown), cellUp' kc0 (by go_grown), cellUp' kc1 (by go_grown), cellUp' kp0 (by go_grown), cellUp' kp1 (by go_grown)⟩
            by_cases er3 : r3 = 0
            rotate_left
            · have er3' : (r3 == 0) = false := by simpa using er3
              clear er3 F10 F16
              go_wp2_with fail
              go_meet
              exact ⟨rfl, by go_grown, cellUp' ka0 (by go_grown), cellUp' ka1 (by go_grown), cellUp' kb0 (by go_grown), cellUp' kb1 (by go_grown), cellUp' kc0 (by go_grown), cellUp' kc1 (by go_grown), cellUp' kp0 (by go_grown), cellUp' kp1 (by go_grown)⟩
            by_cases ex3 : x3 = 0
            rotate_left
            · have ex3' : (x3 == 0) = false := by simpa using ex3
              clear ex3 F10 F16
              go_wp2_with fail
              go_meet
              exact ⟨rfl, by go_grown, cellUp' ka0 (by go_grown), cellUp' ka1 (by go_grown), cellUp' kb0 (by go_grown), cellUp' kb1 (by go_grown), cellUp' kc0 (by go_grown), cellUp' kc1 (by go_grown), cellUp' kp0 (by go_grown), cellUp' kp1 (by go_grown)⟩
            by_cases ey3 : y3 = 0
            rotate_left
            · have ey3' : (y3 == 0) = false := by simpa using ey3
              clear ey3 F10 F16
              go_wp2_with fail
              go_meet
              exact ⟨rfl, by go_grown, cellUp' ka0 (by go_grown), cellUp' ka1 (by go_grown), cellUp' kb0 (by go_grown), cellUp' kb1 (by go_grown), cellUp' kc0 (by go_grown), cellUp' kc1 (by go_grown), cellUp' kp0 (by go_grown), cellUp' kp1 (by go_grown)⟩
            obtain ⟨rfl, rfl⟩ := F10.out ep3 er3 ex3 ey3
            subst ep3 er3 ex3 ey3
            go_wp2_with fail
            go_meet
            exact ⟨rfl, by go_grown, cellUp' ka0 (by go_grown), cellUp' ka1 (by go_grown), cellUp' kb0 (by go_grown), cellUp' kb1 (by go_grown), cellUp' kc0 (by go_grown), cellUp' kc1 (by go_grown), cellUp' kp0 (by go_grown), cellUp' kp1 (by go_grown)⟩
        case rest =>
          as_aux_lemma =>
            obtain ⟨rfl, Q10, ka0, ka1, kb0, kb1, kc0, kc1, kp0, kp1⟩ := hcut
            have zq10 := Q10.size
            have kal := lt_of_cell' ka0
            have kbl := lt_of_cell' kb0
            have kcl := lt_of_cell' kc0
            have kpl := lt_of_cell' kp0
            go_wp2_with fail
            refine (mul_any _ _ _ _ _).mono ?_
            rintro e w9 ⟨rfl, hb⟩
            rw [HAC.out]
            unfold rR
            have ka0' := cellUp' (cellUp' ka0 (by go_grown)) hb
            clear ka0
            have ka0 := ka0'
            clear ka0'
            have ka1' := cellUp' (cellUp' ka1 (by go_grown)) hb
            clear ka1
            have ka1 := ka1'
            clear ka1'
            have kb0' := cellUp' (cellUp' kb0 (by go_grown)) hb
            clear kb0
            have kb0 := kb0'
            clear kb0'
            have kb1' := cellUp' (cellUp' kb1 (by go_grown)) hb
            clear kb1
            have kb1 := kb1'
            clear kb1'
            have kc0' := cellUp' (cellUp' kc0 (by go_grown)) hb
            clear kc0
            have kc0 := kc0'
            clear kc0'
            have kc1' := cellUp' (cellUp' kc1 (by go_grown)) hb
            clear kc1
            have kc1 := kc1'
            clear kc1'
            have kp0' := cellUp' (cellUp' kp0 (by go_grown)) hb
            clear kp0
            have kp0 := kp0'
            clear kp0'
            have kp1' := cellUp' (cellUp' kp1 (by go_grown)) hb
            clear kp1
            have kp1 := kp1'
            clear kp1'
            have B9 : Bl w w9 := Below.trans (by go_grown) (hb.mono (by (try simp only [World.size_alloc, World.size_setCell, World.size_drew, sz_drewN]); omega))
            have z9 := B9.size
            clear hb
            have kal := lt_of_cell' ka0
            have kbl := lt_of_cell' kb0
            have kcl := lt_of_cell' kc0
            have kpl := lt_of_cell' kp0
            go_wp2_with fail
            refine (mul_any _ _ _ _ _).mono ?_
            rintro e w10 ⟨rfl, hb⟩
            rw [HBX.out]
            unfold rR
            have ka0' := cellUp' (cellUp' ka0 (by go_grown)) hb
            clear ka0
            have ka0 := ka0'
            clear ka0'
            have ka1' := cellUp' (cellUp' ka1 (by go_grown)) hb
            clear ka1
            have ka1 := ka1'
            clear ka1'
            have kb0' := cellUp' (cellUp' kb0 (by go_grown)) hb
            clear kb0
            have kb0 := kb0'
            clear kb0'
            have kb1' := cellUp' (cellUp' kb1 (by go_grown)) hb
            clear kb1
            have kb1 := kb1'
            clear kb1'
            have kc0' := cellUp' (cellUp' kc0 (by go_grown)) hb
            clear kc0
            have kc0 := kc0'
            clear kc0'
            have kc1' := cellUp' (cellUp' kc1 (by go_grown)) hb
            clear kc1
            have kc1 := kc1'
            clear kc1'
            have kp0' := cellUp' (cellUp' kp0 (by go_grown)) hb
            clear kp0
            have kp0 := kp0'
            clear kp0'
            have kp1' := cellUp' (cellUp' kp1 (by go_grown)) hb
            clear kp1
            have kp1 := kp1'
            clear kp1'
            have ku0 := cellUp' (k := w9.heap.size) (o := 0) (v := .int .i64 c1) (by go_cell) hb
            have ku1 := cellUp' (k := w9.heap.size) (o := 1) (v := .int .i64 c2) (by go_cell) hb
            have B10 : Bl w w10 := Below.trans (by go_grown) (hb.mono (by (try simp only [World.size_alloc, World.size_setCell, World.size_drew, sz_drewN]); omega))
            have z10 := B10.size
            clear hb
            have kal := lt_of_cell' ka0
            have kbl := lt_of_cell' kb0
            have kcl := lt_of_cell' kc0
            have kpl := lt_of_cell' kp0
            have kul := lt_of_cell' ku0
            go_wp2_with fail
            refine (mul_any _ _ _ _ _).mono ?_
            rintro e w11 ⟨rfl, hb⟩
            rw [HL.out]
            unfold rR
            have ka0' := cellUp' (cellUp' ka0 (by go_grown)) hb
            clear ka0
            have ka0 := ka0'
            clear ka0'
            have ka1' := cellUp' (cellUp' ka1 (by go_grown)) hb
            clear ka1
            have ka1 := ka1'
            clear ka1'
            have kb0' := cellUp' (cellUp' kb0 (by go_grown)) hb
            clear kb0
            have kb0 := kb0'
            clear kb0'
            have kb1' := cellUp' (cellUp' kb1 (by go_grown)) hb
            clear kb1
            have kb1 := kb1'
            clear kb1'
            have kc0' := cellUp' (cellUp' kc0 (by go_grown)) hb
            clear kc0
            have kc0 := kc0'
            clear kc0'
            have kc1' := cellUp' (cellUp' kc1 (by go_grown)) hb
            clear kc1
            have kc1 := kc1'
            clear kc1'
            have kp0' := cellUp' (cellUp' kp0 (by go_grown)) hb
            clear kp0
            have kp0 := kp0'
            clear kp0'
            have kp1' := cellUp' (cellUp' kp1 (by go_grown)) hb
            clear kp1
            have kp1 := kp1'
            clear kp1'
            have ku0' := cellUp' (cellUp' ku0 (by go_grown)) hb
            clear ku0
            have ku0 := ku0'
            clear ku0'
            have ku1' := cellUp' (cellUp' ku1 (by go_grown)) hb
            clear ku1
            have ku1 := ku1'
            clear ku1'
            have kv0 := cellUp' (k := w10.heap.size) (o := 0) (v := .int .i64 d1) (by go_cell) hb
            have kv1 := cellUp' (k := w10.heap.size) (o := 1) (v := .int .i64 d2) (by go_cell) hb
            have B11 : Bl w w11 := Below.trans (by go_grown) (hb.mono (by (try simp only [World.size_alloc, World.size_setCell, World.size_drew, sz_drewN]); omega))
            have z11 := B11.size
            clear hb
            have kal := lt_of_cell' ka0
            have kbl := lt_of_cell' kb0
            have kcl := lt_of_cell' kc0
            have kpl := lt_of_cell' kp0
            have kul := lt_of_cell' ku0
            have kvl := lt_of_cell' kv0
            clear kp0 kp1 kpl
            go_wp2_with fail
            refine (add_any _ _ _ _ _).mono ?_
            rintro e w12 ⟨rfl, hb⟩
            rw [HG.out]
            unfold rR
            have ka0' := cellUp' (cellUp' ka0 (by go_grown)) hb
            clear ka0
            have ka0 := ka0'
            clear ka0'
            have ka1' := cellUp' (cellUp' ka1 (by go_grown)) hb
            clear ka1
            have ka1 := ka1'
            clear ka1'
            have kb0' := cellUp' (cellUp' kb0 (by go_grown)) hb
            clear kb0
            have kb0 := kb0'
            clear kb0'
            have kb1' := cellUp' (cellUp' kb1 (by go_grown)) hb
            clear kb1
            have kb1 := kb1'
            clear kb1'
            have kc0' := cellUp' (cellUp' kc0 (by go_grown)) hb
            clear kc0
            have kc0 := kc0'
            clear kc0'
            have kc1' := cellUp' (cellUp' kc1 (by go_grown)) hb
            clear kc1
            have kc1 := kc1'
            clear kc1'
            have ku0' := cellUp' (cellUp' ku0 (by go_grown)) hb
            clear ku0
            have ku0 := ku0'
            clear ku0'
            have ku1' := cellUp' (cellUp' ku1 (by go_grown)) hb
            clear ku1
            have ku1 := ku1'
            clear ku1'
            have kv0' := cellUp' (cellUp' kv0 (by go_grown)) hb
            clear kv0
            have kv0 := kv0'
            clear kv0'
            have kv1' := cellUp' (cellUp' kv1 (by go_grown)) hb
            clear kv1
            have kv1 := kv1'
            clear kv1'
            have kl0 := cellUp' (k := w11.heap.size) (o := 0) (v := .int .i64 l1) (by go_cell) hb
            have kl1 := cellUp' (k := w11.heap.size) (o := 1) (v := .int .i64 l2) (by go_cell) hb
            have B12 : Bl w w12 := Below.trans (by go_grown) (hb.mono (by (try simp only [World.size_alloc, World.size_setCell, World.size_drew, sz_drewN]); omega))
            have z12 := B12.size
            clear hb
            have kal := lt_of_cell' ka0
            have kbl := lt_of_cell' kb0
            have kcl := lt_of_cell' kc0
            have kul := lt_of_cell' ku0
            have kvl := lt_of_cell' kv0
            have kll := lt_of_cell' kl0
            clear ku0 ku1 kul
            clear kv0 kv1 kvl
            go_upto_region 16 with fail
            go_cut [147] (fun c0 wx => c0 = .bool false ∧ Bl w wx ∧ wx.cell? ⟨w.heap.size, 0, none⟩ = some (.int .i64 an) ∧ wx.cell? ⟨w.heap.size, 1, none⟩ = some (.int .i64 ad) ∧ wx.cell? ⟨w.heap.size + 1, 0, none⟩ = some (.int .i64 bn) ∧ wx.cell? ⟨w.heap.size + 1, 1, none⟩ = some (.int .i64 bd) ∧ wx.cell? ⟨w.heap.size + 1 + 1, 0, none⟩ = some (.int .i64 cn) ∧ wx.cell? ⟨w.heap.size + 1 + 1, 1, none⟩ = some (.int .i64 cd))
            case first =>
              as_aux_lemma =>
                by_cases ep3 : p3 = 0
                rotate_left
                · have ep3' : (p3 == 0) = false := by simpa using ep3
                  clear ep3 F10 F16
                  go_wp2_with fail
                  go_meet
                  exact ⟨rfl, by go_grown, cellUp' ka0 (by go_grown), cellUp' ka1 (by go_grown), cellUp' kb0 (by go_grown), cellUp' kb1 (by go_grown), cellUp' kc0 (by go_grown), cellUp' kc1 (by go_grown)⟩
                by_cases ec3 : c3 = 0
                rotate_left
                · have ec3' : (c3 == 0) = false := by simpa using ec3
                  clear ec3 F10 F16
                  go_wp2_with fail
                  go_meet
                  exact ⟨rfl, by go_grown, cellUp' ka0 (by go_grown), cellUp' ka1 (by go_grown), cellUp' kb0 (by go_grown), cellUp' kb1 (by go_grown), cellUp' kc0 (by go_grown), cellUp' kc1 (by go_grown)⟩
                by_cases ed3 : d3 = 0
                rotate_left
                · have ed3' : (d3 == 0) = false := by simpa using ed3
                  clear ed3 F10 F16
                  go_wp2_with fail
                  go_meet
                  exact ⟨rfl, by go_grown, cellUp' ka0 (by go_grown), cellUp' ka1 (by go_grown), cellUp' kb0 (by go_grown), cellUp' kb1 (by go_grown), cellUp' kc0 (by go_grown), cellUp' kc1 (by go_grown)⟩
                by_cases el3 : l3 = 0
                rotate_left
                · have el3' : (l3 == 0) = false := by simpa using el3
                  clear el3 F10 F16
                  go_wp2_with fail
                  go_meet
                  exact ⟨rfl, by go_grown, cellUp' ka0 (by go_grown), cellUp' ka1 (by go_grown), cellUp' kb0 (by go_grown), cellUp' kb1 (by go_grown), cellUp' kc0 (by go_grown), cellUp' kc1 (by go_grown)⟩
                by_cases eg3 : g3 = 0
                rotate_left
                · have eg3' : (g3 == 0) = false := by simpa using eg3
                  clear eg3 F10 F16
                  go_wp2_with fail
                  go_meet
                  exact ⟨rfl, by go_grown, cellUp' ka0 (by go_grown), cellUp' ka1 (by go_grown), cellUp' kb0 (by go_grown), cellUp' kb1 (by go_grown), cellUp' kc0 (by go_grown), cellUp' kc1 (by go_grown)⟩
                obtain ⟨rfl, rfl⟩ := F16.out ep3 ec3 ed3 el3 eg3
                subst ep3 ec3 ed3 el3 eg3
                go_wp2_with fail
                go_meet
                exact ⟨rfl, by go_grown, cellUp' ka0 (by go_grown), cellUp' ka1 (by go_grown), cellUp' kb0 (by go_grown), cellUp' kb1 (by go_grown), cellUp' kc0 (by go_grown), cellUp' kc1 (by go_grown)⟩
            case rest =>
              as_aux_lemma =>
                obtain ⟨rfl, Q16, ka0, ka1, kb0, kb1, kc0, kc1⟩ := hcut
                have zq16 := Q16.size
                have kal := lt_of_cell' ka0
                have kbl := lt_of_cell' kb0
                have kcl := lt_of_cell' kc0
                go_upto_region 18 with fail
                go_cut [25, 26, 27] (fun c0 c1 c2 wx => c0 = .int .i64 oP ∧ c1 = .int .i64 oQ ∧ c2 = .int .i64 oR ∧ Bl w wx ∧ wx.cell? ⟨w.heap.size, 0, none⟩ = some (.int .i64 an) ∧ wx.cell? ⟨w.heap.size, 1, none⟩ = some (.int .i64 ad) ∧ wx.cell? ⟨w.heap.size + 1, 0, none⟩ = some (.int .i64 bn) ∧ wx.cell? ⟨w.heap.size + 1, 1, none⟩ = some (.int .i64 bd) ∧ wx.cell? ⟨w.heap.size + 1 + 1, 0, none⟩ = some (.int .i64 cn) ∧ wx.cell? ⟨w.heap.size + 1 + 1, 1, none⟩ = some (.int .i64 cd))
                case first =>
                  as_aux_lemma =>
                    obtain ⟨W, hW⟩ : ∃ W, W = wc := ⟨_, rfl⟩
                    have BW : Bl w W := by rw [hW]; exact Q16
                    rw [← hW] at ka0 ka1 kb0 kb1 kc0 kc1 ⊢
                    clear hW
                    have hS : Hx3 W (w.heap.size) (w.heap.size + 1) (w.heap.size + 1 + 1) (.int .i64 an) (.int .i64 ad) (.int .i64 bn) (.int .i64 bd) (.int .i64 cn) (.int .i64 cd) W := ⟨Bl.rf _, ka0, ka1, kb0, kb1, kc0, kc1, lt_of_cell' ka0, lt_of_cell' kb0, lt_of_cell' kc0⟩
                    go_region_held3 (fun w' => Bl W w' ∧ w'.cell? ⟨w.heap.size, 0, none⟩ = some (.int .i64 an) ∧ w'.cell? ⟨w.heap.size, 1, none⟩ = some (.int .i64 ad) ∧ w'.cell? ⟨w.heap.size + 1, 0, none⟩ = some (.int .i64 bn) ∧ w'.cell? ⟨w.heap.size + 1, 1, none⟩ = some (.int .i64 bd) ∧ w'.cell? ⟨w.heap.size + 1 + 1, 0, none⟩ = some (.int .i64 cn) ∧ w'.cell? ⟨w.heap.size + 1 + 1, 1, none⟩ = some (.int .i64 cd) ∧ w.heap.size < W.heap.size ∧ w.heap.size + 1 < W.heap.size ∧ w.heap.size + 1 + 1 < W.heap.size) (first | exact Hx3.t hS (Bl.dn _ 1) | exact Hx3.t (by assumption) hh0) (first | (go_at_call 10; refine (cmp_any _ _ _ _ _).mono ?_; rintro e v0 ⟨rfl, hh0⟩))
                    all_goals (go_wp2_with fail; go_meet; have hH : Hx3 W (w.heap.size) (w.heap.size + 1) (w.heap.size + 1 + 1) (.int .i64 an) (.int .i64 ad) (.int .i64 bn) (.int .i64 bd) (.int .i64 cn) (.int .i64 cd) _ := (by assumption); exact ⟨by rw [HP.out], by rw [HQ.out], by rw [HR.out], BW.tr hH.1, hH.2.1, hH.2.2.1, hH.2.2.2.1, hH.2.2.2.2.1, hH.2.2.2.2.2.1, hH.2.2.2.2.2.2.1⟩)
                case rest =>
                  as_aux_lemma =>
                    obtain ⟨rfl, rfl, rfl, Q18, ka0, ka1, kb0, kb1, kc0, kc1⟩ := hcut
                    have zq18 := Q18.size
                    have kal := lt_of_cell' ka0
                    have kbl := lt_of_cell' kb0
                    have kcl := lt_of_cell' kc0
                    go_upto_region 19 with fail
                    go_cut [194] (fun c0 wx => c0 = .bool false ∧ Bl w wx ∧ wx.cell? ⟨w.heap.size, 0, none⟩ = some (.int .i64 an) ∧ wx.cell? ⟨w.heap.size, 1, none⟩ = some (.int .i64 ad) ∧ wx.cell? ⟨w.heap.size + 1, 0, none⟩ = some (.int .i64 bn) ∧ wx.cell? ⟨w.heap.size + 1, 1, none⟩ = some (.int .i64 bd) ∧ wx.cell? ⟨w.heap.size + 1 + 1, 0, none⟩ = some (.int .i64 cn) ∧ wx.cell? ⟨w.heap.size + 1 + 1, 1, none⟩ = some (.int .i64 cd))
                    case first =>
                      as_aux_lemma =>
                        clear F10 F16 F22
                        rcases (show oP = -1 ∨ oP = 0 ∨ oP = 1 by omega) with rfl | rfl | rfl
                        · skip
                          rcases ne_pair (E1.out (by omega)) with ha | ⟨rfl, ha⟩
                          · have ha1 : (an == bn) = false := by simpa using ha
                            have ha2 : decide (an = bn) = false := by simpa using ha
                            rcases (show oQ = -1 ∨ oQ = 0 ∨ oQ = 1 by omega) with rfl | rfl | rfl
                            · skip
                              rcases (show oR = -1 ∨ oR = 0 ∨ oR = 1 by omega) with rfl | rfl | rfl
                              · as_aux_lemma =>
                                  clear T1 T2 E0 E1 v1 v2 v3 v4 v5 v6
                                  go_wp2_with fail
                                  refine (cmp_at _ _ _ _ _ _ HNP.out).mono ?_
                                  rintro e w13 ⟨rfl, hb⟩
                                  have ka0' := cellUp' (cellUp' ka0 (by go_grown)) hb
                                  clear ka0
                                  have ka0 := ka0'
                                  clear ka0'
                                  have ka1' := cellUp' (cellUp' ka1 (by go_grown)) hb
                                  clear ka1
                                  have ka1 := ka1'
                                  clear ka1'
                                  have kb0' := cellUp' (cellUp' kb0 (by go_grown)) hb
                                  clear kb0
                                  have kb0 := kb0'
                                  clear kb0'
                                  have kb1' := cellUp' (cellUp' kb1 (by go_grown)) hb
                                  clear kb1
                                  have kb1 := kb1'
                                  clear kb1'
                                  have kc0' := cellUp' (cellUp' kc0 (by go_grown)) hb
                                  clear kc0
                                  have kc0 := kc0'
                                  clear kc0'
                                  have kc1' := cellUp' (cellUp' kc1 (by go_grown)) hb
                                  clear kc1
                                  have kc1 := kc1'
                                  clear kc1'
                                  have B13 : Bl w w13 := Below.trans (by go_grown) (hb.mono (by (try simp only [World.size_alloc, World.size_setCell, World.size_drew, sz_drewN]); omega))
                                  have z13 := B13.size
                                  clear hb
                                  have kal := lt_of_cell' ka0
                                  have kbl := lt_of_cell' kb0
                                  have kcl := lt_of_cell' kc0
                                  go_wp2_with fail
                                  go_meet
                                  exact ⟨rfl, by go_grown, cellUp' ka0 (by go_grown), cellUp' ka1 (by go_grown), cellUp' kb0 (by go_grown), cellUp' kb1 (by go_grown), cellUp' kc0 (by go_grown), cellUp' kc1 (by go_grown)⟩
                              · as_aux_lemma =>
                                  clear T1 T2 E0 E1 v1 v2 v3 v4 v5 v6
                                  go_wp2_with fail
                                  refine (cmp_at _ _ _ _ _ _ HNP.out).mono ?_
                                  rintro e w13 ⟨rfl, hb⟩
                                  have ka0' := cellUp' (cellUp' ka0 (by go_grown)) hb
                                  clear ka0
                                  have ka0 := ka0'
                                  clear ka0'
                                  have ka1' := cellUp' (cellUp' ka1 (by go_grown)) hb
                                  clear ka1
                                  have ka1 := ka1'
                                  clear ka1'
                                  have kb0' := cellUp' (cellUp' kb0 (by go_grown)) hb
                                  clear kb0
                                  have kb0 := kb0'
                                  clear kb0'
                                  have kb1' := cellUp' (cellUp' kb1 (by go_grown)) hb
                                  clear kb1
                                  have kb1 := kb1'
                                  clear kb1'
                                  have kc0' := cellUp' (cellUp' kc0 (by go_grown)) hb
                                  clear kc0
                                  have kc0 := kc0'
                                  clear kc0'
                                  have kc1' := cellUp' (cellUp' kc1 (by go_grown)) hb
                                  clear kc1
                                  have kc1 := kc1'
                                  clear kc1'
                                  have B14 : Bl w w13 := Below.trans (by go_grown) (hb.mono (by (try simp only [World.size_alloc, World.size_setCell, World.size_drew, sz_drewN]); omega))
                                  have z14 := B14.size
                                  clear hb
                                  have kal := lt_of_cell' ka0
                                  have kbl := lt_of_cell' kb0
                                  have kcl := lt_of_cell' kc0
                                  go_wp2_with fail
                                  go_meet
                                  exact ⟨rfl, by go_grown, cellUp' ka0 (by go_grown), cellUp' ka1 (by go_grown), cellUp' kb0 (by go_grown), cellUp' kb1 (by go_grown), cellUp' kc0 (by go_grown), cellUp' kc1 (by go_grown)⟩
                              · exact absurd (T1.out (by omega) (by omega)) (by omega)
                            · skip
                              rcases (show oR = -1 ∨ oR = 0 ∨ oR = 1 by omega) with rfl | rfl | rfl
                              · as_aux_lemma =>
                                  clear T1 T2 E0 E1 v1 v2 v3 v4 v5 v6
                                  go_wp2_with fail
                                  refine (cmp_at _ _ _ _ _ _ HNP.out).mono ?_
                                  rintro e w13 ⟨rfl, hb⟩
                                  have ka0' := cellUp' (cellUp' ka0 (by go_grown)) hb
                                  clear ka0
                                  have ka0 := ka0'
                                  clear ka0'
                                  have ka1' := cellUp' (cellUp' ka1 (by go_grown)) hb
                                  clear ka1
                                  have ka1 := ka1'
                                  clear ka1'
                                  have kb0' := cellUp' (cellUp' kb0 (by go_grown)) hb
                                  clear kb0
                                  have kb0 := kb0'
                                  clear kb0'
                                  have kb1' := cellUp' (cellUp' kb1 (by go_grown)) hb
                                  clear kb1
                                  have kb1 := kb1'
                                  clear kb1'
                                  have kc0' := cellUp' (cellUp' kc0 (by go_grown)) hb
                                  clear kc0
                                  have kc0 := kc0'
                                  clear kc0'
                                  have kc1' := cellUp' (cellUp' kc1 (by go_grown)) hb
                                  clear kc1
                                  have kc1 := kc1'
                                  clear kc1'
                                  have B15 : Bl w w13 := Below.trans (by go_grown) (hb.mono (by (try simp only [World.size_alloc, World.size_setCell, World.size_drew, sz_drewN]); omega))
                                  have z15 := B15.size
                                  clear hb
                                  have kal := lt_of_cell' ka0
                                  have kbl := lt_of_cell' kb0
                                  have kcl := lt_of_cell' kc0
                                  go_wp2_with fail
                                  go_meet
                                  exact ⟨rfl, by go_grown, cellUp' ka0 (by go_grown), cellUp' ka1 (by go_grown), cellUp' kb0 (by go_grown), cellUp' kb1 (by go_grown), cellUp' kc0 (by go_grown), cellUp' kc1 (by go_grown)⟩
                              · as_aux_lemma =>
                                  clear T1 T2 E0 E1 v1 v2 v3 v4 v5 v6
                                  go_wp2_with fail
                                  refine (cmp_at _ _ _ _ _ _ HNP.out).mono ?_
                                  rintro e w13 ⟨rfl, hb⟩
                                  have ka0' := cellUp' (cellUp' ka0 (by go_grown)) hb
                                  clear ka0
                                  have ka0 := ka0'
                                  clear ka0'
                                  have ka1' := cellUp' (cellUp' ka1 (by go_grown)) hb
                                  clear ka1
                                  have ka1 := ka1'
                                  clear ka1'
                                  have kb0' := cellUp' (cellUp' kb0 (by go_grown)) hb
                                  clear kb0
                                  have kb0 := kb0'
                                  clear kb0'
                                  have kb1' := cellUp' (cellUp' kb1 (by go_grown)) hb
                                  clear kb1
                                  have kb1 := kb1'
                                  clear kb1'
                                  have kc0' := cellUp' (cellUp' kc0 (by go_grown)) hb
                                  clear kc0
                                  have kc0 := kc0'
                                  clear kc0'
                                  have kc1' := cellUp' (cellUp' kc1 (by go_grown)) hb
                                  clear kc1
                                  have kc1 := kc1'
                                  clear kc1'
                                  have B16 : Bl w w13 := Below.trans (by go_grown) (hb.mono (by (try simp only [World.size_alloc, World.size_setCell, World.size_drew, sz_drewN]); omega))
                                  have z16 := B16.size
                                  clear hb
                                  have kal := lt_of_cell' ka0
                                  have kbl := lt_of_cell' kb0
                                  have kcl := lt_of_cell' kc0
                                  go_wp2_with fail
                                  go_meet
                                  exact ⟨rfl, by go_grown, cellUp' ka0 (by go_grown), cellUp' ka1 (by go_grown), cellUp' kb0 (by go_grown), cellUp' kb1 (by go_grown), cellUp' kc0 (by go_grown), cellUp' kc1 (by go_grown)⟩
                              · exact absurd (T1.out (by omega) (by omega)) (by omega)
                            · skip
                              rcases (show oR = -1 ∨ oR = 0 ∨ oR = 1 by omega) with rfl | rfl | rfl
                              · as_aux_lemma =>
                                  clear T1 T2 E0 E1 v1 v2 v3 v4 v5 v6
                                  go_wp2_with fail
                                  refine (cmp_at _ _ _ _ _ _ HNP.out).mono ?_
                                  rintro e w13 ⟨rfl, hb⟩
                                  have ka0' := cellUp' (cellUp' ka0 (by go_grown)) hb
                                  clear ka0
                                  have ka0 := ka0'
                                  clear ka0'
                                  have ka1' := cellUp' (cellUp' ka1 (by go_grown)) hb
                                  clear ka1
                                  have ka1 := ka1'
                                  clear ka1'
                                  have kb0' := cellUp' (cellUp' kb0 (by go_grown)) hb
                                  clear kb0
                                  have kb0 := kb0'
                                  clear kb0'
                                  have kb1' := cellUp' (cellUp' kb1 (by go_grown)) hb
                                  clear kb1
                                  have kb1 := kb1'
                                  clear kb1'
                                  have kc0' := cellUp' (cellUp' kc0 (by go_grown)) hb
                                  clear kc0
                                  have kc0 := kc0'
                                  clear kc0'
                                  have kc1' := cellUp' (cellUp' kc1 (by go_grown)) hb
                                  clear kc1
                                  have kc1 := kc1'
                                  clear kc1'
                                  have B17 : Bl w w13 := Below.trans (by go_grown) (hb.mono (by (try simp only [World.size_alloc, World.size_setCell, World.size_drew, sz_drewN]); omega))
                                  have z17 := B17.size
                                  clear hb
                                  have kal := lt_of_cell' ka0
                                  have kbl := lt_of_cell' kb0
                                  have kcl := lt_of_cell' kc0
                                  go_wp2_with fail
                                  go_meet
                                  exact ⟨rfl, by go_grown, cellUp' ka0 (by go_grown), cellUp' ka1 (by go_grown), cellUp' kb0 (by go_grown), cellUp' kb1 (by go_grown), cellUp' kc0 (by go_grown), cellUp' kc1 (by go_grown)⟩
                              · as_aux_lemma =>
                                  clear T1 T2 E0 E1 v1 v2 v3 v4 v5 v6
                                  go_wp2_with fail
                                  refine (cmp_at _ _ _ _ _ _ HNP.out).mono ?_
                                  rintro e w13 ⟨rfl, hb⟩
                                  have ka0' := cellUp' (cellUp' ka0 (by go_grown)) hb
                                  clear ka0
                                  have ka0 := ka0'
                                  clear ka0'
                                  have ka1' := cellUp' (cellUp' ka1 (by go_grown)) hb
                                  clear ka1
                                  have ka1 := ka1'
                                  clear ka1'
                                  have kb0' := cellUp' (cellUp' kb0 (by go_grown)) hb
                                  clear kb0
                                  have kb0 := kb0'
                                  clear kb0'
                                  have kb1' := cellUp' (cellUp' kb1 (by go_grown)) hb
                                  clear kb1
                                  have kb1 := kb1'
                                  clear kb1'
                                  have kc0' := cellUp' (cellUp' kc0 (by go_grown)) hb
                                  clear kc0
                                  have kc0 := kc0'
                                  clear kc0'
                                  have kc1' := cellUp' (cellUp' kc1 (by go_grown)) hb
                                  clear kc1
                                  have kc1 := kc1'
                                  clear kc1'
                                  have B18 : Bl w w13 := Below.trans (by go_grown) (hb.mono (by (try simp only [World.size_alloc, World.size_setCell, World.size_drew, sz_drewN]); omega))
                                  have z18 := B18.size
                                  clear hb
                                  have kal := lt_of_cell' ka0
                                  have kbl := lt_of_cell' kb0
                                  have kcl := lt_of_cell' kc0
                                  go_wp2_with fail
                                  go_meet
                                  exact ⟨rfl, by go_grown, cellUp' ka0 (by go_grown), cellUp' ka1 (by go_grown), cellUp' kb0 (by go_grown), cellUp' kb1 (by go_grown), cellUp' kc0 (by go_grown), cellUp' kc1 (by go_grown)⟩
                              · as_aux_lemma =>
                                  clear T1 T2 E0 E1 v1 v2 v3 v4 v5 v6
                                  go_wp2_with fail
                                  refine (cmp_at _ _ _ _ _ _ HNP.out).mono ?_
                                  rintro e w13 ⟨rfl, hb⟩
                                  have ka0' := cellUp' (cellUp' ka0 (by go_grown)) hb
                                  clear ka0
                                  have ka0 := ka0'
                                  clear ka0'
                                  have ka1' := cellUp' (cellUp' ka1 (by go_grown)) hb
                                  clear ka1
                                  have ka1 := ka1'
                                  clear ka1'
                                  have kb0' := cellUp' (cellUp' kb0 (by go_grown)) hb
                                  clear kb0
                                  have kb0 := kb0'
                                  clear kb0'
                                  have kb1' := cellUp' (cellUp' kb1 (by go_grown)) hb
                                  clear kb1
                                  have kb1 := kb1'
                                  clear kb1'
                                  have kc0' := cellUp' (cellUp' kc0 (by go_grown)) hb
                                  clear kc0
                                  have kc0 := kc0'
                                  clear kc0'
                                  have kc1' := cellUp' (cellUp' kc1 (by go_grown)) hb
                                  clear kc1
                                  have kc1 := kc1'
                                  clear kc1'
                                  have B19 : Bl w w13 := Below.trans (by go_grown) (hb.mono (by (try simp only [World.size_alloc, World.size_setCell, World.size_drew, sz_drewN]); omega))
                                  have z19 := B19.size
                                  clear hb
                                  have kal := lt_of_cell' ka0
                                  have kbl := lt_of_cell' kb0
                                  have kcl := lt_of_cell' kc0
                                  go_wp2_with fail
                                  go_meet
                                  exact ⟨rfl, by go_grown, cellUp' ka0 (by go_grown), cellUp' ka1 (by go_grown), cellUp' kb0 (by go_grown), cellUp' kb1 (by go_grown), cellUp' kc0 (by go_grown), cellUp' kc1 (by go_grown)⟩
                          · have ha1 : (ad == bd) = false := by simpa using ha
                            have ha2 : decide (ad = bd) = false := by simpa using ha
                            rcases (show oQ = -1 ∨ oQ = 0 ∨ oQ = 1 by omega) with rfl | rfl | rfl
                            · skip
                              rcases (show oR = -1 ∨ oR = 0 ∨ oR = 1 by omega) with rfl | rfl | rfl
                              · as_aux_lemma =>
                                  clear T1 T2 E0 E1 v1 v2 v3 v4 v5 v6
                                  go_wp2_with fail
                                  refine (cmp_at _ _ _ _ _ _ HNP.out).mono ?_
                                  rintro e w13 ⟨rfl, hb⟩
                                  have ka0' := cellUp' (cellUp' ka0 (by go_grown)) hb
                                  clear ka0
                                  have ka0 := ka0'
                                  clear ka0'
                                  have ka1' := cellUp' (cellUp' ka1 (by go_grown)) hb
                                  clear ka1
                                  have ka1 := ka1'
                                  clear ka1'
                                  have kb0' := cellUp' (cellUp' kb0 (by go_grown)) hb
                                  clear kb0
                                  have kb0 := kb0'
                                  clear kb0'
                                  have kb1' := cellUp' (cellUp' kb1 (by go_grown)) hb
                                  clear kb1
                                  have kb1 := kb1'
                                  clear kb1'
                                  have kc0' := cellUp' (cellUp' kc0 (by go_grown)) hb
                                  clear kc0
                                  have kc0 := kc0'
                                  clear kc0'
                                  have kc1' := cellUp' (cellUp' kc1 (by go_grown)) hb
                                  clear kc1
                                  have kc1 := kc1'
                                  clear kc1'
                                  have B20 : Bl w w13 := Below.trans (by go_grown) (hb.mono (by (try simp only [World.size_alloc, World.size_setCell, World.size_drew, sz_drewN]); omega))
                                  have z20 := B20.size
                                  clear hb
                                  have kal := lt_of_cell' ka0
                                  have kbl := lt_of_cell' kb0
                                  have kcl := lt_of_cell' kc0
                                  go_wp2_with fail
                                  go_meet
                                  exact ⟨rfl, by go_grown, cellUp' ka0 (by go_grown), cellUp' ka1 (by go_grown), cellUp' kb0 (by go_grown), cellUp' kb1 (by go_grown), cellUp' kc0 (by go_grown), cellUp' kc1 (by go_grown)⟩
                              · as_aux_lemma =>
                                  clear T1 T2 E0 E1 v1 v2 v3 v4 v5 v6
                                  go_wp2_with fail
                                  refine (cmp_at _ _ _ _ _ _ HNP.out).mono ?_
                                  rintro e w13 ⟨rfl, hb⟩
                                  have ka0' := cellUp' (cellUp' ka0 (by go_grown)) hb
                                  clear ka0
                                  have ka0 := ka0'
                                  clear ka0'
                                  have ka1' := cellUp' (cellUp' ka1 (by go_grown)) hb
                                  clear ka1
                                  have ka1 := ka1'
                                  clear ka1'
                                  have kb0' := cellUp' (cellUp' kb0 (by go_grown)) hb
                                  clear kb0
                                  have kb0 := kb0'
                                  clear kb0'
                                  have kb1' := cellUp' (cellUp' kb1 (by go_grown)) hb
                                  clear kb1
                                  have kb1 := kb1'
                                  clear kb1'
                                  have kc0' := cellUp' (cellUp' kc0 (by go_grown)) hb
                                  clear kc0
                                  have kc0 := kc0'
                                  clear kc0'
                                  have kc1' := cellUp' (cellUp' kc1 (by go_grown)) hb
                                  clear kc1
                                  have kc1 := kc1'
                                  clear kc1'
                                  have B21 : Bl w w13 := Below.trans (by go_grown) (hb.mono (by (try simp only [World.size_alloc, World.size_setCell, World.size_drew, sz_drewN]); omega))
                                  have z21 := B21.size
                                  clear hb
                                  have kal := lt_of_cell' ka0
                                  have kbl := lt_of_cell' kb0
                                  have kcl := lt_of_cell' kc0
                                  go_wp2_with fail
                                  go_meet
                                  exact ⟨rfl, by go_grown, cellUp' ka0 (by go_grown), cellUp' ka1 (by go_grown), cellUp' kb0 (by go_grown), cellUp' kb1 (by go_grown), cellUp' kc0 (by go_grown), cellUp' kc1 (by go_grown)⟩
                              · exact absurd (T1.out (by omega) (by omega)) (by omega)
                            · skip
                              rcases (show oR = -1 ∨ oR = 0 ∨ oR = 1 by omega) with rfl | rfl | rfl
                              · as_aux_lemma =>
                                  clear T1 T2 E0 E1 v1 v2 v3 v4 v5 v6
                                  go_wp2_with fail
                                  refine (cmp_at _ _ _ _ _ _ HNP.out).mono ?_
                                  rintro e w13 ⟨rfl, hb⟩
                                  have ka0' := cellUp' (cellUp' ka0 (by go_grown)) hb
                                  clear ka0
                                  have ka0 := ka0'
                                  clear ka0'
                                  have ka1' := cellUp' (cellUp' ka1 (by go_grown)) hb
                                  clear ka1
                                  have ka1 := ka1'
                                  clear ka1'
                                  have kb0' := cellUp' (cellUp' kb0 (by go_grown)) hb
                                  clear kb0
                                  have kb0 := kb0'
                                  clear kb0'
                                  have kb1' := cellUp' (cellUp' kb1 (by go_grown)) hb
                                  clear kb1
                                  have kb1 := kb1'
                                  clear kb1'
                                  have kc0' := cellUp' (cellUp' kc0 (by go_grown)) hb
                                  clear kc0
                                  have kc0 := kc0'
                                  clear kc0'
                                  have kc1' := cellUp' (cellUp' kc1 (by go_grown)) hb
                                  clear kc1
                                  have kc1 := kc1'
                                  clear kc1'
                                  have B22 : Bl w w13 := Below.trans (by go_grown) (hb.mono (by (try simp only [World.size_alloc, World.size_setCell, World.size_drew, sz_drewN]); omega))
                                  have z22 := B22.size
                                  clear hb
                                  have kal := lt_of_cell' ka0
                                  have kbl := lt_of_cell' kb0
                                  have kcl := lt_of_cell' kc0
                                  go_wp2_with fail
                                  go_meet
                                  exact ⟨rfl, by go_grown, cellUp' ka0 (by go_grown), cellUp' ka1 (by go_grown), cellUp' kb0 (by go_grown), cellUp' kb1 (by go_grown), cellUp' kc0 (by go_grown), cellUp' kc1 (by go_grown)⟩
                              · as_aux_lemma =>
                                  clear T1 T2 E0 E1 v1 v2 v3 v4 v5 v6
                                  go_wp2_with fail
                                  refine (cmp_at _ _ _ _ _ _ HNP.out).mono ?_
                                  rintro e w13 ⟨rfl, hb⟩
                                  have ka0' := cellUp' (cellUp' ka0 (by go_grown)) hb
                                  clear ka0
                                  have ka0 := ka0'
                                  clear ka0'
                                  have ka1' := cellUp' (cellUp' ka1 (by go_grown)) hb
                                  clear ka1
                                  have ka1 := ka1'
                                  clear ka1'
                                  have kb0' := cellUp' (cellUp' kb0 (by go_grown)) hb
                                  clear kb0
                                  have kb0 := kb0'
                                  clear kb0'
                                  have kb1' := cellUp' (cellUp' kb1 (by go_grown)) hb
                                  clear kb1
                                  have kb1 := kb1'
                                  clear kb1'
                                  have kc0' := cellUp' (cellUp' kc0 (by go_grown)) hb
                                  clear kc0
                                  have kc0 := kc0'
                                  clear kc0'
                                  have kc1' := cellUp' (cellUp' kc1 (by go_grown)) hb
                                  clear kc1
                                  have kc1 := kc1'
                                  clear kc1'
                                  have B23 : Bl w w13 := Below.trans (by go_grown) (hb.mono (by (try simp only [World.size_alloc, World.size_setCell, World.size_drew, sz_drewN]); omega))
                                  have z23 := B23.size
                                  clear hb
                                  have kal := lt_of_cell' ka0
                                  have kbl := lt_of_cell' kb0
                                  have kcl := lt_of_cell' kc0
                                  go_wp2_with fail
                                  go_meet
                                  exact ⟨rfl, by go_grown, cellUp' ka0 (by go_grown), cellUp' ka1 (by go_grown), cellUp' kb0 (by go_grown), cellUp' kb1 (by go_grown), cellUp' kc0 (by go_grown), cellUp' kc1 (by go_grown)⟩
                              · exact absurd (T1.out (by omega) (by omega)) (by omega)
                            · skip
                              rcases (show oR = -1 ∨ oR = 0 ∨ oR = 1 by omega) with rfl | rfl | rfl
                              · as_aux_lemma =>
                                  clear T1 T2 E0 E1 v1 v2 v3 v4 v5 v6
                                  go_wp2_with fail
                                  refine (cmp_at _ _ _ _ _ _ HNP.out).mono ?_
                                  rintro e w13 ⟨rfl, hb⟩
                                  have ka0' := cellUp' (cellUp' ka0 (by go_grown)) hb
                                  clear ka0
                                  have ka0 := ka0'
                                  clear ka0'
                                  have ka1' := cellUp' (cellUp' ka1 (by go_grown)) hb
                                  clear ka1
                                  have ka1 := ka1'
                                  clear ka1'
                                  have kb0' := cellUp' (cellUp' kb0 (by go_grown)) hb
                                  clear kb0
                                  have kb0 := kb0'
                                  clear kb0'
                                  have kb1' := cellUp' (cellUp' kb1 (by go_grown)) hb
                                  clear kb1
                                  have kb1 := kb1'
                                  clear kb1'
                                  have kc0' := cellUp' (cellUp' kc0 (by go_grown)) hb
                                  clear kc0
                                  have kc0 := kc0'
                                  clear kc0'
                                  have kc1' := cellUp' (cellUp' kc1 (by go_grown)) hb
                                  clear kc1
                                  have kc1 := kc1'
                                  clear kc1'
                                  have B24 : Bl w w13 := Below.trans (by go_grown) (hb.mono (by (try simp only [World.size_alloc, World.size_setCell, World.size_drew, sz_drewN]); omega))
                                  have z24 := B24.size
                                  clear hb
                                  have kal := lt_of_cell' ka0
                                  have kbl := lt_of_cell' kb0
                                  have kcl := lt_of_cell' kc0
                                  go_wp2_with fail
                                  go_meet
                                  exact ⟨rfl, by go_grown, cellUp' ka0 (by go_grown), cellUp' ka1 (by go_grown), cellUp' kb0 (by go_grown), cellUp' kb1 (by go_grown), cellUp' kc0 (by go_grown), cellUp' kc1 (by go_grown)⟩
                              · as_aux_lemma =>
                                  clear T1 T2 E0 E1 v1 v2 v3 v4 v5 v6
                                  go_wp2_with fail
                                  refine (cmp_at _ _ _ _ _ _ HNP.out).mono ?_
                                  rintro e w13 ⟨rfl, hb⟩
                                  have ka0' := cellUp' (cellUp' ka0 (by go_grown)) hb
                                  clear ka0
                                  have ka0 := ka0'
                                  clear ka0'
                                  have ka1' := cellUp' (cellUp' ka1 (by go_grown)) hb
                                  clear ka1
                                  have ka1 := ka1'
                                  clear ka1'
                                  have kb0' := cellUp' (cellUp' kb0 (by go_grown)) hb
                                  clear kb0
                                  have kb0 := kb0'
                                  clear kb0'
                                  have kb1' := cellUp' (cellUp' kb1 (by go_grown)) hb
                                  clear kb1
                                  have kb1 := kb1'
                                  clear kb1'
                                  have kc0' := cellUp' (cellUp' kc0 (by go_grown)) hb
                                  clear kc0
                                  have kc0 := kc0'
                                  clear kc0'
                                  have kc1' := cellUp' (cellUp' kc1 (by go_grown)) hb
                                  clear kc1
                                  have kc1 := kc1'
                                  clear kc1'
                                  have B25 : Bl w w13 := Below.trans (by go_grown) (hb.mono (by (try simp only [World.size_alloc, World.size_setCell, World.size_drew, sz_drewN]); omega))
                                  have z25 := B25.size
                                  clear hb
                                  have kal := lt_of_cell' ka0
                                  have kbl := lt_of_cell' kb0
                                  have kcl := lt_of_cell' kc0
                                  go_wp2_with fail
                                  go_meet
                                  exact ⟨rfl, by go_grown, cellUp' ka0 (by go_grown), cellUp' ka1 (by go_grown), cellUp' kb0 (by go_grown), cellUp' kb1 (by go_grown), cellUp' kc0 (by go_grown), cellUp' kc1 (by go_grown)⟩
                              · as_aux_lemma =>
                                  clear T1 T2 E0 E1 v1 v2 v3 v4 v5 v6
                                  go_wp2_with fail
                                  refine (cmp_at _ _ _ _ _ _ HNP.out).mono ?_
                                  rintro e w13 ⟨rfl, hb⟩
                                  have ka0' := cellUp' (cellUp' ka0 (by go_grown)) hb
                                  clear ka0
                                  have ka0 := ka0'
                                  clear ka0'
                                  have ka1' := cellUp' (cellUp' ka1 (by go_grown)) hb
                                  clear ka1
                                  have ka1 := ka1'
                                  clear ka1'
                                  have kb0' := cellUp' (cellUp' kb0 (by go_grown)) hb
                                  clear kb0
                                  have kb0 := kb0'
                                  clear kb0'
                                  have kb1' := cellUp' (cellUp' kb1 (by go_grown)) hb
                                  clear kb1
                                  have kb1 := kb1'
                                  clear kb1'
                                  have kc0' := cellUp' (cellUp' kc0 (by go_grown)) hb
                                  clear kc0
                                  have kc0 := kc0'
                                  clear kc0'
                                  have kc1' := cellUp' (cellUp' kc1 (by go_grown)) hb
                                  clear kc1
                                  have kc1 := kc1'
                                  clear kc1'
                                  have B26 : Bl w w13 := Below.trans (by go_grown) (hb.mono (by (try simp only [World.size_alloc, World.size_setCell, World.size_drew, sz_drewN]); omega))
                                  have z26 := B26.size
                                  clear hb
                                  have kal := lt_of_cell' ka0
                                  have kbl := lt_of_cell' kb0
                                  have kcl := lt_of_cell' kc0
                                  go_wp2_with fail
                                  go_meet
                                  exact ⟨rfl, by go_grown, cellUp' ka0 (by go_grown), cellUp' ka1 (by go_grown), cellUp' kb0 (by go_grown), cellUp' kb1 (by go_grown), cellUp' kc0 (by go_grown), cellUp' kc1 (by go_grown)⟩
                        · skip
                          obtain ⟨rfl, rfl⟩ := E0.out rfl
                          rcases (show oQ = -1 ∨ oQ = 0 ∨ oQ = 1 by omega) with rfl | rfl | rfl
                          · skip
                            rcases (show oR = -1 ∨ oR = 0 ∨ oR = 1 by omega) with rfl | rfl | rfl
                            · as_aux_lemma =>
                                clear T1 T2 E0 E1 v1 v2 v3 v4 v5 v6
                                go_wp2_with fail
                                refine (cmp_at _ _ _ _ _ _ HNP.out).mono ?_
                                rintro e w13 ⟨rfl, hb⟩
                                have ka0' := cellUp' (cellUp' ka0 (by go_grown)) hb
                                clear ka0
                                have ka0 := ka0'
                                clear ka0'
                                have ka1' := cellUp' (cellUp' ka1 (by go_grown)) hb
                                clear ka1
                                have ka1 := ka1'
                                clear ka1'
                                have kb0' := cellUp' (cellUp' kb0 (by go_grown)) hb
                                clear kb0
                                have kb0 := kb0'
                                clear kb0'
                                have kb1' := cellUp' (cellUp' kb1 (by go_grown)) hb
                                clear kb1
                                have kb1 := kb1'
                                clear kb1'
                                have kc0' := cellUp' (cellUp' kc0 (by go_grown)) hb
                                clear kc0
                                have kc0 := kc0'
                                clear kc0'
                                have kc1' := cellUp' (cellUp' kc1 (by go_grown)) hb
                                clear kc1
                                have kc1 := kc1'
                                clear kc1'
                                have B27 : Bl w w13 := Below.trans (by go_grown) (hb.mono (by (try simp only [World.size_alloc, World.size_setCell, World.size_drew, sz_drewN]); omega))
                                have z27 := B27.size
                                clear hb
                                have kal := lt_of_cell' ka0
                                have kbl := lt_of_cell' kb0
                                have kcl := lt_of_cell' kc0
                                go_wp2_with fail
                                go_meet
                                exact ⟨rfl, by go_grown, cellUp' ka0 (by go_grown), cellUp' ka1 (by go_grown), cellUp' kb0 (by go_grown), cellUp' kb1 (by go_grown), cellUp' kc0 (by go_grown), cellUp' kc1 (by go_grown)⟩
                            · as_aux_lemma =>
                                clear T1 T2 E0 E1 v1 v2 v3 v4 v5 v6
                                go_wp2_with fail
                                refine (cmp_at _ _ _ _ _ _ HNP.out).mono ?_
                                rintro e w13 ⟨rfl, hb⟩
                                have ka0' := cellUp' (cellUp' ka0 (by go_grown)) hb
                                clear ka0
                                have ka0 := ka0'
                                clear ka0'
                                have ka1' := cellUp' (cellUp' ka1 (by go_grown)) hb
                                clear ka1
                                have ka1 := ka1'
                                clear ka1'
                                have kb0' := cellUp' (cellUp' kb0 (by go_grown)) hb
                                clear kb0
                                have kb0 := kb0'
                                clear kb0'
                                have kb1' := cellUp' (cellUp' kb1 (by go_grown)) hb
                                clear kb1
                                have kb1 := kb1'
                                clear kb1'
                                have kc0' := cellUp' (cellUp' kc0 (by go_grown)) hb
                                clear kc0
                                have kc0 := kc0'
                                clear kc0'
                                have kc1' := cellUp' (cellUp' kc1 (by go_grown)) hb
                                clear kc1
                                have kc1 := kc1'
                                clear kc1'
                                have B28 : Bl w w13 := Below.trans (by go_grown) (hb.mono (by (try simp only [World.size_alloc, World.size_setCell, World.size_drew, sz_drewN]); omega))
                                have z28 := B28.size
                                clear hb
                                have kal := lt_of_cell' ka0
                                have kbl := lt_of_cell' kb0
                                have kcl := lt_of_cell' kc0
                                go_wp2_with fail
                                go_meet
                                exact ⟨rfl, by go_grown, cellUp' ka0 (by go_grown), cellUp' ka1 (by go_grown), cellUp' kb0 (by go_grown), cellUp' kb1 (by go_grown), cellUp' kc0 (by go_grown), cellUp' kc1 (by go_grown)⟩
                            · exact absurd (T1.out (by omega) (by omega)) (by omega)
                          · skip
                            rcases (show oR = -1 ∨ oR = 0 ∨ oR = 1 by omega) with rfl | rfl | rfl
                            · exact absurd (T2.out (by omega) (by omega)) (by omega)
                            · as_aux_lemma =>
                                clear T1 T2 E0 E1 v1 v2 v3 v4 v5 v6
                                go_wp2_with fail
                                refine (cmp_at _ _ _ _ _ _ HNP.out).mono ?_
                                rintro e w13 ⟨rfl, hb⟩
                                have ka0' := cellUp' (cellUp' ka0 (by go_grown)) hb
                                clear ka0
                                have ka0 := ka0'
                                clear ka0'
                                have ka1' := cellUp' (cellUp' ka1 (by go_grown)) hb
                                clear ka1
                                have ka1 := ka1'
                                clear ka1'
                                have kb0' := cellUp' (cellUp' kb0 (by go_grown)) hb
                                clear kb0
                                have kb0 := kb0'
                                clear kb0'
                                have kb1' := cellUp' (cellUp' kb1 (by go_grown)) hb
                                clear kb1
                                have kb1 := kb1'
                                clear kb1'
                                have kc0' := cellUp' (cellUp' kc0 (by go_grown)) hb
                                clear kc0
                                have kc0 := kc0'
                                clear kc0'
                                have kc1' := cellUp' (cellUp' kc1 (by go_grown)) hb
                                clear kc1
                                have kc1 := kc1'
                                clear kc1'
                                have B29 : Bl w w13 := Below.trans (by go_grown) (hb.mono (by (try simp only [World.size_alloc, World.size_setCell, World.size_drew, sz_drewN]); omega))
                                have z29 := B29.size
                                clear hb
                                have kal := lt_of_cell' ka0
                                have kbl := lt_of_cell' kb0
                                have kcl := lt_of_cell' kc0
                                go_wp2_with fail
                                go_meet
                                exact ⟨rfl, by go_grown, cellUp' ka0 (by go_grown), cellUp' ka1 (by go_grown), cellUp' kb0 (by go_grown), cellUp' kb1 (by go_grown), cellUp' kc0 (by go_grown), cellUp' kc1 (by go_grown)⟩
                            · exact absurd (T1.out (by omega) (by omega)) (by omega)
                          · skip
                            rcases (show oR = -1 ∨ oR = 0 ∨ oR = 1 by omega) with rfl | rfl | rfl
                            · exact absurd (T2.out (by omega) (by omega)) (by omega)
                            · as_aux_lemma =>
                                clear T1 T2 E0 E1 v1 v2 v3 v4 v5 v6
                                go_wp2_with fail
                                refine (cmp_at _ _ _ _ _ _ HNP.out).mono ?_
                                rintro e w13 ⟨rfl, hb⟩
                                have ka0' := cellUp' (cellUp' ka0 (by go_grown)) hb
                                clear ka0
                                have ka0 := ka0'
                                clear ka0'
                                have ka1' := cellUp' (cellUp' ka1 (by go_grown)) hb
                                clear ka1
                                have ka1 := ka1'
                                clear ka1'
                                have kb0' := cellUp' (cellUp' kb0 (by go_grown)) hb
                                clear kb0
                                have kb0 := kb0'
                                clear kb0'
                                have kb1' := cellUp' (cellUp' kb1 (by go_grown)) hb
                                clear kb1
                                have kb1 := kb1'
                                clear kb1'
                                have kc0' := cellUp' (cellUp' kc0 (by go_grown)) hb
                                clear kc0
                                have kc0 := kc0'
                                clear kc0'
                                have kc1' := cellUp' (cellUp' kc1 (by go_grown)) hb
                                clear kc1
                                have kc1 := kc1'
                                clear kc1'
                                have B30 : Bl w w13 := Below.trans (by go_grown) (hb.mono (by (try simp only [World.size_alloc, World.size_setCell, World.size_drew, sz_drewN]); omega))
                                have z30 := B30.size
                                clear hb
                                have kal := lt_of_cell' ka0
                                have kbl := lt_of_cell' kb0
                                have kcl := lt_of_cell' kc0
                                go_wp2_with fail
                                go_meet
                                exact ⟨rfl, by go_grown, cellUp' ka0 (by go_grown), cellUp' ka1 (by go_grown), cellUp' kb0 (by go_grown), cellUp' kb1 (by go_grown), cellUp' kc0 (by go_grown), cellUp' kc1 (by go_grown)⟩
                            · as_aux_lemma =>
                                clear T1 T2 E0 E1 v1 v2 v3 v4 v5 v6
                                go_wp2_with fail
                                refine (cmp_at _ _ _ _ _ _ HNP.out).mono ?_
                                rintro e w13 ⟨rfl, hb⟩
                                have ka0' := cellUp' (cellUp' ka0 (by go_grown)) hb
                                clear ka0
                                have ka0 := ka0'
                                clear ka0'
                                have ka1' := cellUp' (cellUp' ka1 (by go_grown)) hb
                                clear ka1
                                have ka1 := ka1'
                                clear ka1'
                                have kb0' := cellUp' (cellUp' kb0 (by go_grown)) hb
                                clear kb0
                                have kb0 := kb0'
                                clear kb0'
                                have kb1' := cellUp' (cellUp' kb1 (by go_grown)) hb
                                clear kb1
                                have kb1 := kb1'
                                clear kb1'
                                have kc0' := cellUp' (cellUp' kc0 (by go_grown)) hb
                                clear kc0
                                have kc0 := kc0'
                                clear kc0'
                                have kc1' := cellUp' (cellUp' kc1 (by go_grown)) hb
                                clear kc1
                                have kc1 := kc1'
                                clear kc1'
                                have B31 : Bl w w13 := Below.trans (by go_grown) (hb.mono (by (try simp only [World.size_alloc, World.size_setCell, World.size_drew, sz_drewN]); omega))
                                have z31 := B31.size
                                clear hb
                                have kal := lt_of_cell' ka0
                                have kbl := lt_of_cell' kb0
                                have kcl := lt_of_cell' kc0
                                go_wp2_with fail
                                go_meet
                                exact ⟨rfl, by go_grown, cellUp' ka0 (by go_grown), cellUp' ka1 (by go_grown), cellUp' kb0 (by go_grown), cellUp' kb1 (by go_grown), cellUp' kc0 (by go_grown), cellUp' kc1 (by go_grown)⟩
                        · skip
                          rcases ne_pair (E1.out (by omega)) with ha | ⟨rfl, ha⟩
                          · have ha1 : (an == bn) = false := by simpa using ha
                            have ha2 : decide (an = bn) = false := by simpa using ha
                            rcases (show oQ = -1 ∨ oQ = 0 ∨ oQ = 1 by omega) with rfl | rfl | rfl
                            · skip
                              rcases (show oR = -1 ∨ oR = 0 ∨ oR = 1 by omega) with rfl | rfl | rfl
                              · as_aux_lemma =>
                                  clear T1 T2 E0 E1 v1 v2 v3 v4 v5 v6
                                  go_wp2_with fail
                                  refine (cmp_at _ _ _ _ _ _ HNP.out).mono ?_
                                  rintro e w13 ⟨rfl, hb⟩
                                  have ka0' := cellUp' (cellUp' ka0 (by go_grown)) hb
                                  clear ka0
                                  have ka0 := ka0'
                                  clear ka0'
                                  have ka1' := cellUp' (cellUp' ka1 (by go_grown)) hb
                                  clear ka1
                                  have ka1 := ka1'
                                  clear ka1'
                                  have kb0' := cellUp' (cellUp' kb0 (by go_grown)) hb
                                  clear kb0
                                  have kb0 := kb0'
                                  clear kb0'
                                  have kb1' := cellUp' (cellUp' kb1 (by go_grown)) hb
                                  clear kb1
                                  have kb1 := kb1'
                                  clear kb1'
                                  have kc0' := cellUp' (cellUp' kc0 (by go_grown)) hb
                                  clear kc0
                                  have kc0 := kc0'
                                  clear kc0'
                                  have kc1' := cellUp' (cellUp' kc1 (by go_grown)) hb
                                  clear kc1
                                  have kc1 := kc1'
                                  clear kc1'
                                  have B32 : Bl w w13 := Below.trans (by go_grown) (hb.mono (by (try simp only [World.size_alloc, World.size_setCell, World.size_drew, sz_drewN]); omega))
                                  have z32 := B32.size
                                  clear hb
                                  have kal := lt_of_cell' ka0
                                  have kbl := lt_of_cell' kb0
                                  have kcl := lt_of_cell' kc0
                                  go_wp2_with fail
                                  go_meet
                                  exact ⟨rfl, by go_grown, cellUp' ka0 (by go_grown), cellUp' ka1 (by go_grown), cellUp' kb0 (by go_grown), cellUp' kb1 (by go_grown), cellUp' kc0 (by go_grown), cellUp' kc1 (by go_grown)⟩
                              · as_aux_lemma =>
                                  clear T1 T2 E0 E1 v1 v2 v3 v4 v5 v6
                                  go_wp2_with fail
                                  refine (cmp_at _ _ _ _ _ _ HNP.out).mono ?_
                                  rintro e w13 ⟨rfl, hb⟩
                                  have ka0' := cellUp' (cellUp' ka0 (by go_grown)) hb
                                  clear ka0
                                  have ka0 := ka0'
                                  clear ka0'
                                  have ka1' := cellUp' (cellUp' ka1 (by go_grown)) hb
                                  clear ka1
                                  have ka1 := ka1'
                                  clear ka1'
                                  have kb0' := cellUp' (cellUp' kb0 (by go_grown)) hb
                                  clear kb0
                                  have kb0 := kb0'
                                  clear kb0'
                                  have kb1' := cellUp' (cellUp' kb1 (by go_grown)) hb
                                  clear kb1
                                  have kb1 := kb1'
                                  clear kb1'
                                  have kc0' := cellUp' (cellUp' kc0 (by go_grown)) hb
                                  clear kc0
                                  have kc0 := kc0'
                                  clear kc0'
                                  have kc1' := cellUp' (cellUp' kc1 (by go_grown)) hb
                                  clear kc1
                                  have kc1 := kc1'
                                  clear kc1'
                                  have B33 : Bl w w13 := Below.trans (by go_grown) (hb.mono (by (try simp only [World.size_alloc, World.size_setCell, World.size_drew, sz_drewN]); omega))
                                  have z33 := B33.size
                                  clear hb
                                  have kal := lt_of_cell' ka0
                                  have kbl := lt_of_cell' kb0
                                  have kcl := lt_of_cell' kc0
                                  go_wp2_with fail
                                  go_meet
                                  exact ⟨rfl, by go_grown, cellUp' ka0 (by go_grown), cellUp' ka1 (by go_grown), cellUp' kb0 (by go_grown), cellUp' kb1 (by go_grown), cellUp' kc0 (by go_grown), cellUp' kc1 (by go_grown)⟩
                              · as_aux_lemma =>
                                  clear T1 T2 E0 E1 v1 v2 v3 v4 v5 v6
                                  go_wp2_with fail
                                  refine (cmp_at _ _ _ _ _ _ HNP.out).mono ?_
                                  rintro e w13 ⟨rfl, hb⟩
                                  have ka0' := cellUp' (cellUp' ka0 (by go_grown)) hb
                                  clear ka0
                                  have ka0 := ka0'
                                  clear ka0'
                                  have ka1' := cellUp' (cellUp' ka1 (by go_grown)) hb
                                  clear ka1
                                  have ka1 := ka1'
                                  clear ka1'
                                  have kb0' := cellUp' (cellUp' kb0 (by go_grown)) hb
                                  clear kb0
                                  have kb0 := kb0'
                                  clear kb0'
                                  have kb1' := cellUp' (cellUp' kb1 (by go_grown)) hb
                                  clear kb1
                                  have kb1 := kb1'
                                  clear kb1'
                                  have kc0' := cellUp' (cellUp' kc0 (by go_grown)) hb
                                  clear kc0
                                  have kc0 := kc0'
                                  clear kc0'
                                  have kc1' := cellUp' (cellUp' kc1 (by go_grown)) hb
                                  clear kc1
                                  have kc1 := kc1'
                                  clear kc1'
                                  have B34 : Bl w w13 := Below.trans (by go_grown) (hb.mono (by (try simp only [World.size_alloc, World.size_setCell, World.size_drew, sz_drewN]); omega))
                                  have z34 := B34.size
                                  clear hb
                                  have kal := lt_of_cell' ka0
                                  have kbl := lt_of_cell' kb0
                                  have kcl := lt_of_cell' kc0
                                  go_wp2_with fail
                                  go_meet
                                  exact ⟨rfl, by go_grown, cellUp' ka0 (by go_grown), cellUp' ka1 (by go_grown), cellUp' kb0 (by go_grown), cellUp' kb1 (by go_grown), cellUp' kc0 (by go_grown), cellUp' kc1 (by go_grown)⟩
                            · skip
                              rcases (show oR = -1 ∨ oR = 0 ∨ oR = 1 by omega) with rfl | rfl | rfl
                              · exact absurd (T2.out (by omega) (by omega)) (by omega)
                              · as_aux_lemma =>
                                  clear T1 T2 E0 E1 v1 v2 v3 v4 v5 v6
                                  go_wp2_with fail
                                  refine (cmp_at _ _ _ _ _ _ HNP.out).mono ?_
                                  rintro e w13 ⟨rfl, hb⟩
                                  have ka0' := cellUp' (cellUp' ka0 (by go_grown)) hb
                                  clear ka0
                                  have ka0 := ka0'
                                  clear ka0'
                                  have ka1' := cellUp' (cellUp' ka1 (by go_grown)) hb
                                  clear ka1
                                  have ka1 := ka1'
                                  clear ka1'
                                  have kb0' := cellUp' (cellUp' kb0 (by go_grown)) hb
                                  clear kb0
                                  have kb0 := kb0'
                                  clear kb0'
                                  have kb1' := cellUp' (cellUp' kb1 (by go_grown)) hb
                                  clear kb1
                                  have kb1 := kb1'
                                  clear kb1'
                                  have kc0' := cellUp' (cellUp' kc0 (by go_grown)) hb
                                  clear kc0
                                  have kc0 := kc0'
                                  clear kc0'
                                  have kc1' := cellUp' (cellUp' kc1 (by go_grown)) hb
                                  clear kc1
                                  have kc1 := kc1'
                                  clear kc1'
                                  have B35 : Bl w w13 := Below.trans (by go_grown) (hb.mono (by (try simp only [World.size_alloc, World.size_setCell, World.size_drew, sz_drewN]); omega))
                                  have z35 := B35.size
                                  clear hb
                                  have kal := lt_of_cell' ka0
                                  have kbl := lt_of_cell' kb0
                                  have kcl := lt_of_cell' kc0
                                  go_wp2_with fail
                                  go_meet
                                  exact ⟨rfl, by go_grown, cellUp' ka0 (by go_grown), cellUp' ka1 (by go_grown), cellUp' kb0 (by go_grown), cellUp' kb1 (by go_grown), cellUp' kc0 (by go_grown), cellUp' kc1 (by go_grown)⟩
                              · as_aux_lemma =>
                                  clear T1 T2 E0 E1 v1 v2 v3 v4 v5 v6
                                  go_wp2_with fail
                                  refine (cmp_at _ _ _ _ _ _ HNP.out).mono ?_
                                  rintro e w13 ⟨rfl, hb⟩
                                  have ka0' := cellUp' (cellUp' ka0 (by go_grown)) hb
                                  clear ka0
                                  have ka0 := ka0'
                                  clear ka0'
                                  have ka1' := cellUp' (cellUp' ka1 (by go_grown)) hb
                                  clear ka1
                                  have ka1 := ka1'
                                  clear ka1'
                                  have kb0' := cellUp' (cellUp' kb0 (by go_grown)) hb
                                  clear kb0
                                  have kb0 := kb0'
                                  clear kb0'
                                  have kb1' := cellUp' (cellUp' kb1 (by go_grown)) hb
                                  clear kb1
                                  have kb1 := kb1'
                                  clear kb1'
                                  have kc0' := cellUp' (cellUp' kc0 (by go_grown)) hb
                                  clear kc0
                                  have kc0 := kc0'
                                  clear kc0'
                                  have kc1' := cellUp' (cellUp' kc1 (by go_grown)) hb
                                  clear kc1
                                  have kc1 := kc1'
                                  clear kc1'
                                  have B36 : Bl w w13 := Below.trans (by go_grown) (hb.mono (by (try simp only [World.size_alloc, World.size_setCell, World.size_drew, sz_drewN]); omega))
                                  have z36 := B36.size
                                  clear hb
                                  have kal := lt_of_cell' ka0
                                  have kbl := lt_of_cell' kb0
                                  have kcl := lt_of_cell' kc0
                                  go_wp2_with fail
                                  go_meet
                                  exact ⟨rfl, by go_grown, cellUp' ka0 (by go_grown), cellUp' ka1 (by go_grown), cellUp' kb0 (by go_grown), cellUp' kb1 (by go_grown), cellUp' kc0 (by go_grown), cellUp' kc1 (by go_grown)⟩
                            · skip
                              rcases (show oR = -1 ∨ oR = 0 ∨ oR = 1 by omega) with rfl | rfl | rfl
                              · exact absurd (T2.out (by omega) (by omega)) (by omega)
                              · as_aux_lemma =>
                                  clear T1 T2 E0 E1 v1 v2 v3 v4 v5 v6
                                  go_wp2_with fail
                                  refine (cmp_at _ _ _ _ _ _ HNP.out).mono ?_
                                  rintro e w13 ⟨rfl, hb⟩
                                  have ka0' := cellUp' (cellUp' ka0 (by go_grown)) hb
                                  clear ka0
                                  have ka0 := ka0'
                                  clear ka0'
                                  have ka1' := cellUp' (cellUp' ka1 (by go_grown)) hb
                                  clear ka1
                                  have ka1 := ka1'
                                  clear ka1'
                                  have kb0' := cellUp' (cellUp' kb0 (by go_grown)) hb
                                  clear kb0
                                  have kb0 := kb0'
                                  clear kb0'
                                  have kb1' := cellUp' (cellUp' kb1 (by go_grown)) hb
                                  clear kb1
                                  have kb1 := kb1'
                                  clear kb1'
                                  have kc0' := cellUp' (cellUp' kc0 (by go_grown)) hb
                                  clear kc0
                                  have kc0 := kc0'
                                  clear kc0'
                                  have kc1' := cellUp' (cellUp' kc1 (by go_grown)) hb
                                  clear kc1
                                  have kc1 := kc1'
                                  clear kc1'
                                  have B37 : Bl w w13 := Below.trans (by go_grown) (hb.mono (by (try simp only [World.size_alloc, World.size_setCell, World.size_drew, sz_drewN]); omega))
                                  have z37 := B37.size
                                  clear hb
                                  have kal := lt_of_cell' ka0
                                  have kbl := lt_of_cell' kb0
                                  have kcl := lt_of_cell' kc0
                                  go_wp2_with fail
                                  go_meet
                                  exact ⟨rfl, by go_grown, cellUp' ka0 (by go_grown), cellUp' ka1 (by go_grown), cellUp' kb0 (by go_grown), cellUp' kb1 (by go_grown), cellUp' kc0 (by go_grown), cellUp' kc1 (by go_grown)⟩
                              · as_aux_lemma =>
                                  clear T1 T2 E0 E1 v1 v2 v3 v4 v5 v6
                                  go_wp2_with fail
                                  refine (cmp_at _ _ _ _ _ _ HNP.out).mono ?_
                                  rintro e w13 ⟨rfl, hb⟩
                                  have ka0' := cellUp' (cellUp' ka0 (by go_grown)) hb
                                  clear ka0
                                  have ka0 := ka0'
                                  clear ka0'
                                  have ka1' := cellUp' (cellUp' ka1 (by go_grown)) hb
                                  clear ka1
                                  have ka1 := ka1'
                                  clear ka1'
                                  have kb0' := cellUp' (cellUp' kb0 (by go_grown)) hb
                                  clear kb0
                                  have kb0 := kb0'
                                  clear kb0'
                                  have kb1' := cellUp' (cellUp' kb1 (by go_grown)) hb
                                  clear kb1
                                  have kb1 := kb1'
                                  clear kb1'
                                  have kc0' := cellUp' (cellUp' kc0 (by go_grown)) hb
                                  clear kc0
                                  have kc0 := kc0'
                                  clear kc0'
                                  have kc1' := cellUp' (cellUp' kc1 (by go_grown)) hb
                                  clear kc1
                                  have kc1 := kc1'
                                  clear kc1'
                                  have B38 : Bl w w13 := Below.trans (by go_grown) (hb.mono (by (try simp only [World.size_alloc, World.size_setCell, World.size_drew, sz_drewN]); omega))
                                  have z38 := B38.size
                                  clear hb
                                  have kal := lt_of_cell' ka0
                                  have kbl := lt_of_cell' kb0
                                  have kcl := lt_of_cell' kc0
                                  go_wp2_with fail
                                  go_meet
                                  exact ⟨rfl, by go_grown, cellUp' ka0 (by go_grown), cellUp' ka1 (by go_grown), cellUp' kb0 (by go_grown), cellUp' kb1 (by go_grown), cellUp' kc0 (by go_grown), cellUp' kc1 (by go_grown)⟩
                          · have ha1 : (ad == bd) = false := by simpa using ha
                            have ha2 : decide (ad = bd) = false := by simpa using ha
                            rcases (show oQ = -1 ∨ oQ = 0 ∨ oQ = 1 by omega) with rfl | rfl | rfl
                            · skip
                              rcases (show oR = -1 ∨ oR = 0 ∨ oR = 1 by omega) with rfl | rfl | rfl
                              · as_aux_lemma =>
                                  clear T1 T2 E0 E1 v1 v2 v3 v4 v5 v6
                                  go_wp2_with fail
                                  refine (cmp_at _ _ _ _ _ _ HNP.out).mono ?_
                                  rintro e w13 ⟨rfl, hb⟩
                                  have ka0' := cellUp' (cellUp' ka0 (by go_grown)) hb
                                  clear ka0
                                  have ka0 := ka0'
                                  clear ka0'
                                  have ka1' := cellUp' (cellUp' ka1 (by go_grown)) hb
                                  clear ka1
                                  have ka1 := ka1'
                                  clear ka1'
                                  have kb0' := cellUp' (cellUp' kb0 (by go_grown)) hb
                                  clear kb0
                                  have kb0 := kb0'
                                  clear kb0'
                                  have kb1' := cellUp' (cellUp' kb1 (by go_grown)) hb
                                  clear kb1
                                  have kb1 := kb1'
                                  clear kb1'
                                  have kc0' := cellUp' (cellUp' kc0 (by go_grown)) hb
                                  clear kc0
                                  have kc0 := kc0'
                                  clear kc0'
                                  have kc1' := cellUp' (cellUp' kc1 (by go_grown)) hb
                                  clear kc1
                                  have kc1 := kc1'
                                  clear kc1'
                                  have B39 : Bl w w13 := Below.trans (by go_grown) (hb.mono (by (try simp only [World.size_alloc, World.size_setCell, World.size_drew, sz_drewN]); omega))
                                  have z39 := B39.size
                                  clear hb
                                  have kal := lt_of_cell' ka0
                                  have kbl := lt_of_cell' kb0
                                  have kcl := lt_of_cell' kc0
                                  go_wp2_with fail
                                  go_meet
                                  exact ⟨rfl, by go_grown, cellUp' ka0 (by go_grown), cellUp' ka1 (by go_grown), cellUp' kb0 (by go_grown), cellUp' kb1 (by go_grown), cellUp' kc0 (by go_grown), cellUp' kc1 (by go_grown)⟩
                              · as_aux_lemma =>
                                  clear T1 T2 E0 E1 v1 v2 v3 v4 v5 v6
                                  go_wp2_with fail
                                  refine (cmp_at _ _ _ _ _ _ HNP.out).mono ?_
                                  rintro e w13 ⟨rfl, hb⟩
                                  have ka0' := cellUp' (cellUp' ka0 (by go_grown)) hb
                                  clear ka0
                                  have ka0 := ka0'
                                  clear ka0'
                                  have ka1' := cellUp' (cellUp' ka1 (by go_grown)) hb
                                  clear ka1
                                  have ka1 := ka1'
                                  clear ka1'
                                  have kb0' := cellUp' (cellUp' kb0 (by go_grown)) hb
                                  clear kb0
                                  have kb0 := kb0'
                                  clear kb0'
                                  have kb1' := cellUp' (cellUp' kb1 (by go_grown)) hb
                                  clear kb1
                                  have kb1 := kb1'
                                  clear kb1'
                                  have kc0' := cellUp' (cellUp' kc0 (by go_grown)) hb
                                  clear kc0
                                  have kc0 := kc0'
                                  clear kc0'
                                  have kc1' := cellUp' (cellUp' kc1 (by go_grown)) hb
                                  clear kc1
                                  have kc1 := kc1'
                                  clear kc1'
                                  have B40 : Bl w w13 := Below.trans (by go_grown) (hb.mono (by (try simp only [World.size_alloc, World.size_setCell, World.size_drew, sz_drewN]); omega))
                                  have z40 := B40.size
                                  clear hb
                                  have kal := lt_of_cell' ka0
                                  have kbl := lt_of_cell' kb0
                                  have kcl := lt_of_cell' kc0
                                  go_wp2_with fail
                                  go_meet
                                  exact ⟨rfl, by go_grown, cellUp' ka0 (by go_grown), cellUp' ka1 (by go_grown), cellUp' kb0 (by go_grown), cellUp' kb1 (by go_grown), cellUp' kc0 (by go_grown), cellUp' kc1 (by go_grown)⟩
                              · as_aux_lemma =>
                                  clear T1 T2 E0 E1 v1 v2 v3 v4 v5 v6
                                  go_wp2_with fail
                                  refine (cmp_at _ _ _ _ _ _ HNP.out).mono ?_
                                  rintro e w13 ⟨rfl, hb⟩
                                  have ka0' := cellUp' (cellUp' ka0 (by go_grown)) hb
                                  clear ka0
                                  have ka0 := ka0'
                                  clear ka0'
                                  have ka1' := cellUp' (cellUp' ka1 (by go_grown)) hb
                                  clear ka1
                                  have ka1 := ka1'
                                  clear ka1'
                                  have kb0' := cellUp' (cellUp' kb0 (by go_grown)) hb
                                  clear kb0
                                  have kb0 := kb0'
                                  clear kb0'
                                  have kb1' := cellUp' (cellUp' kb1 (by go_grown)) hb
                                  clear kb1
                                  have kb1 := kb1'
                                  clear kb1'
                                  have kc0' := cellUp' (cellUp' kc0 (by go_grown)) hb
                                  clear kc0
                                  have kc0 := kc0'
                                  clear kc0'
                                  have kc1' := cellUp' (cellUp' kc1 (by go_grown)) hb
                                  clear kc1
                                  have kc1 := kc1'
                                  clear kc1'
                                  have B41 : Bl w w13 := Below.trans (by go_grown) (hb.mono (by (try simp only [World.size_alloc, World.size_setCell, World.size_drew, sz_drewN]); omega))
                                  have z41 := B41.size
                                  clear hb
                                  have kal := lt_of_cell' ka0
                                  have kbl := lt_of_cell' kb0
                                  have kcl := lt_of_cell' kc0
                                  go_wp2_with fail
                                  go_meet
                                  exact ⟨rfl, by go_grown, cellUp' ka0 (by go_grown), cellUp' ka1 (by go_grown), cellUp' kb0 (by go_grown), cellUp' kb1 (by go_grown), cellUp' kc0 (by go_grown), cellUp' kc1 (by go_grown)⟩
                            · skip
                              rcases (show oR = -1 ∨ oR = 0 ∨ oR = 1 by omega) with rfl | rfl | rfl
                              · exact absurd (T2.out (by omega) (by omega)) (by omega)
                              · as_aux_lemma =>
                                  clear T1 T2 E0 E1 v1 v2 v3 v4 v5 v6
                                  go_wp2_with fail
                                  refine (cmp_at _ _ _ _ _ _ HNP.out).mono ?_
                                  rintro e w13 ⟨rfl, hb⟩
                                  have ka0' := cellUp' (cellUp' ka0 (by go_grown)) hb
                                  clear ka0
                                  have ka0 := ka0'
                                  clear ka0'
                                  have ka1' := cellUp' (cellUp' ka1 (by go_grown)) hb
                                  clear ka1
                                  have ka1 := ka1'
                                  clear ka1'
                                  have kb0' := cellUp' (cellUp' kb0 (by go_grown)) hb
                                  clear kb0
                                  have kb0 := kb0'
                                  clear kb0'
                                  have kb1' := cellUp' (cellUp' kb1 (by go_grown)) hb
                                  clear kb1
                                  have kb1 := kb1'
                                  clear kb1'
                                  have kc0' := cellUp' (cellUp' kc0 (by go_grown)) hb
                                  clear kc0
                                  have kc0 := kc0'
                                  clear kc0'
                                  have kc1' := cellUp' (cellUp' kc1 (by go_grown)) hb
                                  clear kc1
                                  have kc1 := kc1'
                                  clear kc1'
                                  have B42 : Bl w w13 := Below.trans (by go_grown) (hb.mono (by (try simp only [World.size_alloc, World.size_setCell, World.size_drew, sz_drewN]); omega))
                                  have z42 := B42.size
                                  clear hb
                                  have kal := lt_of_cell' ka0
                                  have kbl := lt_of_cell' kb0
                                  have kcl := lt_of_cell' kc0
                                  go_wp2_with fail
                                  go_meet
                                  exact ⟨rfl, by go_grown, cellUp' ka0 (by go_grown), cellUp' ka1 (by go_grown), cellUp' kb0 (by go_grown), cellUp' kb1 (by go_grown), cellUp' kc0 (by go_grown), cellUp' kc1 (by go_grown)⟩
                              · as_aux_lemma =>
                                  clear T1 T2 E0 E1 v1 v2 v3 v4 v5 v6
                                  go_wp2_with fail
                                  refine (cmp_at _ _ _ _ _ _ HNP.out).mono ?_
                                  rintro e w13 ⟨rfl, hb⟩
                                  have ka0' := cellUp' (cellUp' ka0 (by go_grown)) hb
                                  clear ka0
                                  have ka0 := ka0'
                                  clear ka0'
                                  have ka1' := cellUp' (cellUp' ka1 (by go_grown)) hb
                                  clear ka1
                                  have ka1 := ka1'
                                  clear ka1'
                                  have kb0' := cellUp' (cellUp' kb0 (by go_grown)) hb
                                  clear kb0
                                  have kb0 := kb0'
                                  clear kb0'
                                  have kb1' := cellUp' (cellUp' kb1 (by go_grown)) hb
                                  clear kb1
                                  have kb1 := kb1'
                                  clear kb1'
                                  have kc0' := cellUp' (cellUp' kc0 (by go_grown)) hb
                                  clear kc0
                                  have kc0 := kc0'
                                  clear kc0'
                                  have kc1' := cellUp' (cellUp' kc1 (by go_grown)) hb
                                  clear kc1
                                  have kc1 := kc1'
                                  clear kc1'
                                  have B43 : Bl w w13 := Below.trans (by go_grown) (hb.mono (by (try simp only [World.size_alloc, World.size_setCell, World.size_drew, sz_drewN]); omega))
                                  have z43 := B43.size
                                  clear hb
                                  have kal := lt_of_cell' ka0
                                  have kbl := lt_of_cell' kb0
                                  have kcl := lt_of_cell' kc0
                                  go_wp2_with fail
                                  go_meet
                                  exact ⟨rfl, by go_grown, cellUp' ka0 (by go_grown), cellUp' ka1 (by go_grown), cellUp' kb0 (by go_grown), cellUp' kb1 (by go_grown), cellUp' kc0 (by go_grown), cellUp' kc1 (by go_grown)⟩
                            · skip
                              rcases (show oR = -1 ∨ oR = 0 ∨ oR = 1 by omega) with rfl | rfl | rfl
                              · exact absurd (T2.out (by omega) (by omega)) (by omega)
                              · as_aux_lemma =>
                                  clear T1 T2 E0 E1 v1 v2 v3 v4 v5 v6
                                  go_wp2_with fail
                                  refine (cmp_at _ _ _ _ _ _ HNP.out).mono ?_
                                  rintro e w13 ⟨rfl, hb⟩
                                  have ka0' := cellUp' (cellUp' ka0 (by go_grown)) hb
                                  clear ka0
                                  have ka0 := ka0'
                                  clear ka0'
                                  have ka1' := cellUp' (cellUp' ka1 (by go_grown)) hb
                                  clear ka1
                                  have ka1 := ka1'
                                  clear ka1'
                                  have kb0' := cellUp' (cellUp' kb0 (by go_grown)) hb
                                  clear kb0
                                  have kb0 := kb0'
                                  clear kb0'
                                  have kb1' := cellUp' (cellUp' kb1 (by go_grown)) hb
                                  clear kb1
                                  have kb1 := kb1'
                                  clear kb1'
                                  have kc0' := cellUp' (cellUp' kc0 (by go_grown)) hb
                                  clear kc0
                                  have kc0 := kc0'
                                  clear kc0'
                                  have kc1' := cellUp' (cellUp' kc1 (by go_grown)) hb
                                  clear kc1
                                  have kc1 := kc1'
                                  clear kc1'
                                  have B44 : Bl w w13 := Below.trans (by go_grown) (hb.mono (by (try simp only [World.size_alloc, World.size_setCell, World.size_drew, sz_drewN]); omega))
                                  have z44 := B44.size
                                  clear hb
                                  have kal := lt_of_cell' ka0
                                  have kbl := lt_of_cell' kb0
                                  have kcl := lt_of_cell' kc0
                                  go_wp2_with fail
                                  go_meet
                                  exact ⟨rfl, by go_grown, cellUp' ka0 (by go_grown), cellUp' ka1 (by go_grown), cellUp' kb0 (by go_grown), cellUp' kb1 (by go_grown), cellUp' kc0 (by go_grown), cellUp' kc1 (by go_grown)⟩
                              · as_aux_lemma =>
                                  clear T1 T2 E0 E1 v1 v2 v3 v4 v5 v6
                                  go_wp2_with fail
                                  refine (cmp_at _ _ _ _ _ _ HNP.out).mono ?_
                                  rintro e w13 ⟨rfl, hb⟩
                                  have ka0' := cellUp' (cellUp' ka0 (by go_grown)) hb
                                  clear ka0
                                  have ka0 := ka0'
                                  clear ka0'
                                  have ka1' := cellUp' (cellUp' ka1 (by go_grown)) hb
                                  clear ka1
                                  have ka1 := ka1'
                                  clear ka1'
                                  have kb0' := cellUp' (cellUp' kb0 (by go_grown)) hb
                                  clear kb0
                                  have kb0 := kb0'
                                  clear kb0'
                                  have kb1' := cellUp' (cellUp' kb1 (by go_grown)) hb
                                  clear kb1
                                  have kb1 := kb1'
                                  clear kb1'
                                  have kc0' := cellUp' (cellUp' kc0 (by go_grown)) hb
                                  clear kc0
                                  have kc0 := kc0'
                                  clear kc0'
                                  have kc1' := cellUp' (cellUp' kc1 (by go_grown)) hb
                                  clear kc1
                                  have kc1 := kc1'
                                  clear kc1'
                                  have B45 : Bl w w13 := Below.trans (by go_grown) (hb.mono (by (try simp only [World.size_alloc, World.size_setCell, World.size_drew, sz_drewN]); omega))
                                  have z45 := B45.size
                                  clear hb
                                  have kal := lt_of_cell' ka0
                                  have kbl := lt_of_cell' kb0
                                  have kcl := lt_of_cell' kc0
                                  go_wp2_with fail
                                  go_meet
                                  exact ⟨rfl, by go_grown, cellUp' ka0 (by go_grown), cellUp' ka1 (by go_grown), cellUp' kb0 (by go_grown), cellUp' kb1 (by go_grown), cellUp' kc0 (by go_grown), cellUp' kc1 (by go_grown)⟩
                    case rest =>
                      as_aux_lemma =>
                        obtain ⟨rfl, Q19, ka0, ka1, kb0, kb1, kc0, kc1⟩ := hcut
                        have zq19 := Q19.size
                        have kal := lt_of_cell' ka0
                        have kbl := lt_of_cell' kb0
                        have kcl := lt_of_cell' kc0
                        go_wp2_with fail
                        refine (sub_any _ _ _ _ _).mono ?_
                        rintro e w20 ⟨rfl, hb⟩
                        rw [HS.out]
                        unfold rR
                        have ka0' := cellUp' (cellUp' ka0 (by go_grown)) hb
                        clear ka0
                        have ka0 := ka0'
                        clear ka0'
                        have ka1' := cellUp' (cellUp' ka1 (by go_grown)) hb
                        clear ka1
                        have ka1 := ka1'
                        clear ka1'
                        have kb0' := cellUp' (cellUp' kb0 (by go_grown)) hb
                        clear kb0
                        have kb0 := kb0'
                        clear kb0'
                        have kb1' := cellUp' (cellUp' kb1 (by go_grown)) hb
                        clear kb1
                        have kb1 := kb1'
                        clear kb1'
                        have kc0' := cellUp' (cellUp' kc0 (by go_grown)) hb
                        clear kc0
                        have kc0 := kc0'
                        clear kc0'
                        have kc1' := cellUp' (cellUp' kc1 (by go_grown)) hb
                        clear kc1
                        have kc1 := kc1'
                        clear kc1'
                        have B46 : Bl w w20 := Below.trans (by go_grown) (hb.mono (by (try simp only [World.size_alloc, World.size_setCell, World.size_drew, sz_drewN]); omega))
                        have z46 := B46.size
                        clear hb
                        have kal := lt_of_cell' ka0
                        have kbl := lt_of_cell' kb0
                        have kcl := lt_of_cell' kc0
                        by_cases es : s3 = 0
                        · have hF := F22.out es
                          have HF := Lib.hid hF
                          clear hF
                          subst es
                          go_wp2_with fail
                          refine (cmp_at _ _ _ _ _ _ HF.out).mono ?_
                          rintro e w21 ⟨rfl, hb⟩
                          have ka0' := cellUp' (cellUp' ka0 (by go_grown)) hb
                          clear ka0
                          have ka0 := ka0'
                          clear ka0'
                          have ka1' := cellUp' (cellUp' ka1 (by go_grown)) hb
                          clear ka1
                          have ka1 := ka1'
                          clear ka1'
                          have kb0' := cellUp' (cellUp' kb0 (by go_grown)) hb
                          clear kb0
                          have kb0 := kb0'
                          clear kb0'
                          have kb1' := cellUp' (cellUp' kb1 (by go_grown)) hb
                          clear kb1
                          have kb1 := kb1'
                          clear kb1'
                          have kc0' := cellUp' (cellUp' kc0 (by go_grown)) hb
                          clear kc0
                          have kc0 := kc0'
                          clear kc0'
                          have kc1' := cellUp' (cellUp' kc1 (by go_grown)) hb
                          clear kc1
                          have kc1 := kc1'
                          clear kc1'
                          have B47 : Bl w w21 := Below.trans (by go_grown) (hb.mono (by (try simp only [World.size_alloc, World.size_setCell, World.size_drew, sz_drewN]); omega))
                          have z47 := B47.size
                          clear hb
                          have kal := lt_of_cell' ka0
                          have kbl := lt_of_cell' kb0
                          have kcl := lt_of_cell' kc0
                          go_wp2_with fail
                          refine (awake_any _ (HM.out.below (by go_grown))).mono ?_
                          rintro e w30 ⟨rfl, hb⟩
                          have B48 : Bl w w30 := Below.trans (by go_grown) (hb.mono (by (try simp only [World.size_alloc, World.size_setCell, World.size_drew, sz_drewN]); omega))
                          have z48 := B48.size
                          clear hb
                          go_wp2
                          go_ret
                          exact ⟨rfl, by go_grown⟩
                        · have es' : (s3 == 0) = false := by simpa using es
                          have es'' : (s3 != 0) = true := by simpa using es
                          clear es
                          go_wp2_with fail
                          refine (awake_any _ (HM.out.below (by go_grown))).mono ?_
                          rintro e w30 ⟨rfl, hb⟩
                          have B49 : Bl w w30 := Below.trans (by go_grown) (hb.mono (by (try simp only [World.size_alloc, World.size_setCell, World.size_drew, sz_drewN]); omega))
                          have z49 := B49.size
                          clear hb
                          go_wp2
                          go_ret
                          exact ⟨rfl, by go_grown⟩
      · have hvc' : vR cn cd = false := by simpa using hvc
        have Hva := Lib.hid hva
        have Hvb := Lib.hid hvb
        have Hvc := Lib.hid hvc'
        clear hva hvb hvc hvc'
        go_enter Tryd.func3, Tryd.ntmps3
        go_wp2_with fail
        refine (rvR_t _ _ _ Hva.out).mono ?_
        rintro e w1 ⟨rfl, hb⟩
        have ka0 := cellUp' (k := w.heap.size) (o := 0) (v := .int .i64 an) (by go_cell) hb
        have ka1 := cellUp' (k := w.heap.size) (o := 1) (v := .int .i64 ad) (by go_cell) hb
        have kb0 := cellUp' (k := w.heap.size + 1) (o := 0) (v := .int .i64 bn) (by go_cell) hb
        have kb1 := cellUp' (k := w.heap.size + 1) (o := 1) (v := .int .i64 bd) (by go_cell) hb
        have kc0 := cellUp' (k := w.heap.size + 1 + 1) (o := 0) (v := .int .i64 cn) (by go_cell) hb
        have kc1 := cellUp' (k := w.heap.size + 1 + 1) (o := 1) (v := .int .i64 cd) (by go_cell) hb
        have B1 : Bl w w1 := Bl.tr (by go_grown) hb
        have z1 := B1.size
        clear hb
        have kal := lt_of_cell' ka0
        have kbl := lt_of_cell' kb0
        have kcl := lt_of_cell' kc0
        go_wp2_with fail
        refine (rvR_t _ _ _ Hvb.out).mono ?_
        rintro e w2 ⟨rfl, hb⟩
        have ka0' := cellUp' (cellUp' ka0 (by go_grown)) hb
        clear ka0
        have ka0 := ka0'
        clear ka0'
        have ka1' := cellUp' (cellUp' ka1 (by go_grown)) hb
        clear ka1
        have ka1 := ka1'
        clear ka1'
        have kb0' := cellUp' (cellUp' kb0 (by go_grown)) hb
        clear kb0
        have kb0 := kb0'
        clear kb0'
        have kb1' := cellUp' (cellUp' kb1 (by go_grown)) hb
        clear kb1
        have kb1 := kb1'
        clear kb1'
        have kc0' := cellUp' (cellUp' kc0 (by go_grown)) hb
        clear kc0
        have kc0 := kc0'
        clear kc0'
        have kc1' := cellUp' (cellUp' kc1 (by go_grown)) hb
        clear kc1
        have kc1 := kc1'
        clear kc1'
        have B2 : Bl w w2 := Below.trans (by go_grown) (hb.mono (by (try simp only [World.size_alloc, World.size_setCell, World.size_drew, sz_drewN]); omega))
        have z2 := B2.size
        clear hb
        have kal := lt_of_cell' ka0
        have kbl := lt_of_cell' kb0
        have kcl := lt_of_cell' kc0
        go_wp2_with fail
        refine (rvR_f _ _ _ Hvc.out).mono ?_
        rintro e w3 ⟨rfl, hb⟩
        have ka0' := cellUp' (cellUp' ka0 (by go_grown)) hb
        clear ka0
        have ka0 := ka0'
        clear ka0'
        have ka1' := cellUp' (cellUp' ka1 (by go_grown)) hb
        clear ka1
        have ka1 := ka1'
        clear ka1'
        have kb0' := cellUp' (cellUp' kb0 (by go_grown)) hb
        clear kb0
        have kb0 := kb0'
        clear kb0'
        have kb1' := cellUp' (cellUp' kb1 (by go_grown)) hb
        clear kb1
        have kb1 := kb1'
        clear kb1'
        have kc0' := cellUp' (cellUp' kc0 (by go_grown)) hb
        clear kc0
        have kc0 := kc0'
        clear kc0'
        have kc1' := cellUp' (cellUp' kc1 (by go_grown)) hb
        clear kc1
        have kc1 := kc1'
        clear kc1'
        have B3 : Bl w w3 := Below.trans (by go_grown) (hb.mono (by (try simp only [World.size_alloc, World.size_setCell, World.size_drew, sz_drewN]); omega))
        have z3 := B3.size
        clear hb
        have kal := lt_of_cell' ka0
        have kbl := lt_of_cell' kb0
        have kcl := lt_of_cell' kc0
        go_wp2_with fail
        refine (awake_any _ (HM.out.below (by go_grown))).mono ?_
        rintro e w30 ⟨rfl, hb⟩
        have B4 : Bl w w30 := Below.trans (by go_grown) (hb.mono (by (try simp only [World.size_alloc, World.size_setCell, World.size_drew, sz_drewN]); omega))
        have z4 := B4.size
        clear hb
        go_wp2
        go_ret
        exact ⟨rfl, by go_grown⟩
    · have hvb' : vR bn bd = false := by simpa using hvb
      have Hva := Lib.hid hva
      have Hvb := Lib.hid hvb'
      clear hva hvb hvb'
      go_enter Tryd.func3, Tryd.ntmps3
      go_wp2_with fail
      refine (rvR_t _ _ _ Hva.out).mono ?_
      rintro e w1 ⟨rfl, hb⟩
      have ka0 := cellUp' (k := w.heap.size) (o := 0) (v := .int .i64 an) (by go_cell) hb
      have ka1 := cellUp' (k := w.heap.size) (o := 1) (v := .int .i64 ad) (by go_cell) hb
      have kb0 := cellUp' (k := w.heap.size + 1) (o := 0) (v := .int .i64 bn) (by go_cell) hb
      have kb1 := cellUp' (k := w.heap.size + 1) (o := 1) (v := .int .i64 bd) (by go_cell) hb
      have kc0 := cellUp' (k := w.heap.size + 1 + 1) (o := 0) (v := .int .i64 cn) (by go_cell) hb
      have kc1 := cellUp' (k := w.heap.size + 1 + 1) (o := 1) (v := .int .i64 cd) (by go_cell) hb
      have B1 : Bl w w1 := Bl.tr (by go_grown) hb
      have z1 := B1.size
      clear hb
      have kal := lt_of_cell' ka0
      have kbl := lt_of_cell' kb0
      have kcl := lt_of_cell' kc0
      go_wp2_with fail
      refine (rvR_f _ _ _ Hvb.out).mono ?_
      rintro e w2 ⟨rfl, hb⟩
      have ka0' := cellUp' (cellUp' ka0 (by go_grown)) hb
      clear ka0
      have ka0 := ka0'
      clear ka0'
      have ka1' := cellUp' (cellUp' ka1 (by go_grown)) hb
      clear ka1
      have ka1 := ka1'
      clear ka1'
      have kb0' := cellUp' (cellUp' kb0 (by go_grown)) hb
      clear kb0
      have kb0 := kb0'
      clear kb0'
      have kb1' := cellUp' (cellUp' kb1 (by go_grown)) hb
      clear kb1
      have kb1 := kb1'
      clear kb1'
      have kc0' := cellUp' (cellUp' kc0 (by go_grown)) hb
      clear kc0
      have kc0 := kc0'
      clear kc0'
      have kc1' := cellUp' (cellUp' kc1 (by go_grown)) hb
      clear kc1
      have kc1 := kc1'
      clear kc1'
      have B2 : Bl w w2 := Below.trans (by go_grown) (hb.mono (by (try simp only [World.size_alloc, World.size_setCell, World.size_drew, sz_drewN]); omega))
      have z2 := B2.size
      clear hb
      have kal := lt_of_cell' ka0
      have kbl := lt_of_cell' kb0
      have kcl := lt_of_cell' kc0
      go_wp2_with fail
      refine (awake_any _ (HM.out.below (by go_grown))).mono ?_
      rintro e w30 ⟨rfl, hb⟩
      have B3 : Bl w w30 := Below.trans (by go_grown) (hb.mono (by (try simp only [World.size_alloc, World.size_setCell, World.size_drew, sz_drewN]); omega))
      have z3 := B3.size
      clear hb
      go_wp2
      go_ret
      exact ⟨rfl, by go_grown⟩
  · have hva' : vR an ad = false := by simpa using hva
    have Hva := Lib.hid hva'
    clear hva hva'
    go_enter Tryd.func3, Tryd.ntmps3
    go_wp2_with fail
    refine (rvR_f _ _ _ Hva.out).mono ?_
    rintro e w1 ⟨rfl, hb⟩
    have ka0 := cellUp' (k := w.heap.size) (o := 0) (v := .int .i64 an) (by go_cell) hb
    have ka1 := cellUp' (k := w.heap.size) (o := 1) (v := .int .i64 ad) (by go_cell) hb
    have kb0 := cellUp' (k := w.heap.size + 1) (o := 0) (v := .int .i64 bn) (by go_cell) hb
    have kb1 := cellUp' (k := w.heap.size + 1) (o := 1) (v := .int .i64 bd) (by go_cell) hb
    have kc0 := cellUp' (k := w.heap.size + 1 + 1) (o := 0) (v := .int .i64 cn) (by go_cell) hb
    have kc1 := cellUp' (k := w.heap.size + 1 + 1) (o := 1) (v := .int .i64 cd) (by go_cell) hb
    have B1 : Bl w w1 := Bl.tr (by go_grown) hb
    have z1 := B1.size
    clear hb
    have kal := lt_of_cell' ka0
    have kbl := lt_of_cell' kb0
    have kcl := lt_of_cell' kc0
    go_wp2_with fail
    refine (awake_any _ (HM.out.below (by go_grown))).mono ?_
    rintro e w30 ⟨rfl, hb⟩
    have B2 : Bl w w30 := Below.trans (by go_grown) (hb.mono (by (try simp only [World.size_alloc, World.size_setCell, World.size_drew, sz_drewN]); omega))
    have z2 := B2.size
    clear hb
    go_wp2
    go_ret
    exact ⟨rfl, by go_grown⟩
end Go.Proofs.YtdelgijalnmehaaDoor
