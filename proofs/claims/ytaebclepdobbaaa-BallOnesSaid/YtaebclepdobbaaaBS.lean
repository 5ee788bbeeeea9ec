/-
  The walks of two laws of package ball: a sure wire drops in time; runs are single steps.
-/
import Derived.Test.YtaebclepdobbaaaBQ
namespace Go.Proofs.Ytaebclepdobbaaa
open Go.RowKit Go.Shelf
set_option linter.unusedSimpArgs false
set_option linter.unusedVariables false

theorem fal_at {R : Nat → Rly} {n : Nat} {d : Int} (hv : VW R n) (h : isT (d - lagS R n)) : falR R n (d - lagS R n) = (d - sprS R n, d + sprS R n, 0) := by
  unfold falR
  rw [if_pos hv, if_pos h, show d - lagS R n + lagS R n - sprS R n = d - sprS R n by omega, show d - lagS R n + lagS R n + sprS R n = d + sprS R n by omega]
set_option maxRecDepth 100000 in
set_option maxHeartbeats 3200000 in
theorem sureB_walk (M : Mst) (A : Option Addr) (n c : Nat) (R : Nat → Rly) (w : World) (hn : n ≤ maxLen) (hA : Rl w A n R) : Calls Try.prog 9 #[encM M, .slice A n c] w fun e' w' => e' = .returned (.bool true) ∧ Bl w w' := by
  have HA := Lib.hid hA
  have HN := Lib.hid hn
  clear hA
  unfold maxLen at hn
  by_cases hl : 100 < n
  · go_enter Try.func9, Try.ntmps9
    go_wp2_with fail
    refine (awakeB_any _).mono ?_
    rintro q9 w9 ⟨rfl, hb⟩
    have B9 : Bl w w9 := Below.trans (by go_grown) (hb.mono (by (try simp only [World.size_alloc, World.size_setCell]); omega))
    go_wp2_with fail
    go_ret
    exact ⟨rfl, B9⟩
  · have hl2 : n ≤ 100 := by omega
    clear hl
    by_cases hok : VM M ∧ VW R n
    · obtain ⟨hM, hv⟩ := hok
      have HM := Lib.hid hM
      have HV := Lib.hid hv
      obtain ⟨d1, d2, d3⟩ := wire_bd hv (Nat.le_refl n)
      have vno0 := hM.no0
      have vno1 := hM.no1
      have vla0 := hM.la0
      have vla1 := hM.la1
      have HL := Lib.hid (show lagR R n = (lagS R n - sprS R n, lagS R n + sprS R n, 0) by unfold lagR; rw [if_pos hv])
      obtain ⟨L, hL⟩ : ∃ L, lagS R n = L := ⟨_, rfl⟩
      obtain ⟨S, hS⟩ : ∃ S, sprS R n = S := ⟨_, rfl⟩
      have HLL := Lib.hid hL
      have HSS := Lib.hid hS
      rw [hL, hS] at HL
      rw [hS] at d1 d2
      rw [hL] at d2 d3
      by_cases q : S ≤ M.la
      · have HQ := Lib.hid (show sureR M R n = (true, 0) by unfold sureR; rw [if_pos ⟨hM, hv⟩, hS]; simp [q])
        by_cases r : M.no < L
        · have dq : L + S - (L - S) ≤ 2 * M.la := by omega
          have HSE := Lib.hid (show sendR R n M.no = (0, 8) by unfold sendR; rw [if_pos hv, if_pos ⟨vno0, vno1⟩, hL, if_pos r])
          clear hM hv hL hS
          go_enter Try.func9, Try.ntmps9
          go_wp2_with fail
          refine (sure_any M A n c R _ (HA.out.below (by go_grown)) HN.out).mono ?_
          rintro q1 w1 ⟨rfl, hb⟩
          have m0 := kcb hb (b := w.heap.size) (o := 0) (v := .int .i64 M.no) (by go_cell)
          have m1 := kcb hb (b := w.heap.size) (o := 1) (v := .int .i64 M.hf) (by go_cell)
          have m2 := kcb hb (b := w.heap.size) (o := 2) (v := .int .i64 M.fu) (by go_cell)
          have m3 := kcb hb (b := w.heap.size) (o := 3) (v := .int .i64 M.la) (by go_cell)
          have m4 := kcb hb (b := w.heap.size) (o := 4) (v := .int .i64 M.ag) (by go_cell)
          have m5 := kcb hb (b := w.heap.size) (o := 5) (v := .int .i64 M.wi) (by go_cell)
          have B1 : Bl w w1 := Below.trans (by go_grown) (hb.mono (by (try simp only [World.size_alloc, World.size_setCell]); omega))
          have l1 := ltb m5
          have zz1 := B1.size
          clear hb
          rw [HQ.out]
          have lm1 := ltb m0
          go_wp2_with fail
          refine (rsure_any M A n c R _ (HA.out.below (by go_grown)) HN.out).mono ?_
          rintro q2 w2 ⟨rfl, hb⟩
          have m0 := kcb hb (b := w.heap.size) (o := 0) (v := .int .i64 M.no) (by go_cell)
          have m1 := kcb hb (b := w.heap.size) (o := 1) (v := .int .i64 M.hf) (by go_cell)
          have m2 := kcb hb (b := w.heap.size) (o := 2) (v := .int .i64 M.fu) (by go_cell)
          have m3 := kcb hb (b := w.heap.size) (o := 3) (v := .int .i64 M.la) (by go_cell)
          have m4 := kcb hb (b := w.heap.size) (o := 4) (v := .int .i64 M.ag) (by go_cell)
          have m5 := kcb hb (b := w.heap.size) (o := 5) (v := .int .i64 M.wi) (by go_cell)
          have B2 : Bl w w2 := Below.trans (by go_grown) (hb.mono (by (try simp only [World.size_alloc, World.size_setCell]); omega))
          have l2 := ltb m5
          have zz2 := B2.size
          clear hb
          rw [HQ.out]
          have lm2 := ltb m0
          go_wp2_with fail
          refine (lag_any A n c R _ (HA.out.below (by go_grown)) HN.out).mono ?_
          rintro q3 w3 ⟨rfl, hb⟩
          have m0 := kcb hb (b := w.heap.size) (o := 0) (v := .int .i64 M.no) (by go_cell)
          have m1 := kcb hb (b := w.heap.size) (o := 1) (v := .int .i64 M.hf) (by go_cell)
          have m2 := kcb hb (b := w.heap.size) (o := 2) (v := .int .i64 M.fu) (by go_cell)
          have m3 := kcb hb (b := w.heap.size) (o := 3) (v := .int .i64 M.la) (by go_cell)
          have m4 := kcb hb (b := w.heap.size) (o := 4) (v := .int .i64 M.ag) (by go_cell)
          have m5 := kcb hb (b := w.heap.size) (o := 5) (v := .int .i64 M.wi) (by go_cell)
          have B3 : Bl w w3 := Below.trans (by go_grown) (hb.mono (by (try simp only [World.size_alloc, World.size_setCell]); omega))
          have l3 := ltb m5
          have zz3 := B3.size
          clear hb
          rw [HL.out]
          have lm3 := ltb m0
          go_wp2_with fail
          trace_state
          refine (send_any A n c R M.no _ (HA.out.below (by go_grown)) HN.out).mono ?_
          rintro q4 w4 ⟨rfl, hb⟩
          have m0 := kcb hb (b := w.heap.size) (o := 0) (v := .int .i64 M.no) (by go_cell)
          have m1 := kcb hb (b := w.heap.size) (o := 1) (v := .int .i64 M.hf) (by go_cell)
          have m2 := kcb hb (b := w.heap.size) (o := 2) (v := .int .i64 M.fu) (by go_cell)
          have m3 := kcb hb (b := w.heap.size) (o := 3) (v := .int .i64 M.la) (by go_cell)
          have m4 := kcb hb (b := w.heap.size) (o := 4) (v := .int .i64 M.ag) (by go_cell)
          have m5 := kcb hb (b := w.heap.size) (o := 5) (v := .int .i64 M.wi) (by go_cell)
          have p0 := kcb hb (b := w3.heap.size) (o := 0) (v := .int .i64 (L - S)) (by go_cell)
          have p1 := kcb hb (b := w3.heap.size) (o := 1) (v := .int .i64 (L + S)) (by go_cell)
          have B4 : Bl w w4 := Below.trans (by go_grown) (hb.mono (by (try simp only [World.size_alloc, World.size_setCell]); omega))
          have l4 := ltb p1
          have zz4 := B4.size
          clear hb
          rw [HSE.out]
          have lm4 := ltb m0
          have lp4 := ltb p0
          go_wp2_with fail
          refine (awakeB_any _).mono ?_
          rintro q9 w9 ⟨rfl, hb⟩
          have B9 : Bl w w9 := Below.trans (by go_grown) (hb.mono (by (try simp only [World.size_alloc, World.size_setCell]); omega))
          go_wp2_with fail
          go_ret
          exact ⟨rfl, B9⟩
        · have dq : L + S - (L - S) ≤ 2 * M.la := by omega
          have HSE := Lib.hid (show sendR R n M.no = (M.no - L, 0) by unfold sendR; rw [if_pos hv, if_pos ⟨vno0, vno1⟩, hL, if_neg r])
          have HF := Lib.hid (show falR R n (M.no - L) = (M.no - S, M.no + S, 0) by rw [← hL, ← hS]; exact fal_at hv ⟨by omega, by omega⟩)
          clear hM hv hL hS
          go_enter Try.func9, Try.ntmps9
          go_wp2_with fail
          refine (sure_any M A n c R _ (HA.out.below (by go_grown)) HN.out).mono ?_
          rintro q1 w1 ⟨rfl, hb⟩
          have m0 := kcb hb (b := w.heap.size) (o := 0) (v := .int .i64 M.no) (by go_cell)
          have m1 := kcb hb (b := w.heap.size) (o := 1) (v := .int .i64 M.hf) (by go_cell)
          have m2 := kcb hb (b := w.heap.size) (o := 2) (v := .int .i64 M.fu) (by go_cell)
          have m3 := kcb hb (b := w.heap.size) (o := 3) (v := .int .i64 M.la) (by go_cell)
          have m4 := kcb hb (b := w.heap.size) (o := 4) (v := .int .i64 M.ag) (by go_cell)
          have m5 := kcb hb (b := w.heap.size) (o := 5) (v := .int .i64 M.wi) (by go_cell)
          have B1 : Bl w w1 := Below.trans (by go_grown) (hb.mono (by (try simp only [World.size_alloc, World.size_setCell]); omega))
          have l1 := ltb m5
          have zz1 := B1.size
          clear hb
          rw [HQ.out]
          have lm1 := ltb m0
          go_wp2_with fail
          refine (rsure_any M A n c R _ (HA.out.below (by go_grown)) HN.out).mono ?_
          rintro q2 w2 ⟨rfl, hb⟩
          have m0 := kcb hb (b := w.heap.size) (o := 0) (v := .int .i64 M.no) (by go_cell)
          have m1 := kcb hb (b := w.heap.size) (o := 1) (v := .int .i64 M.hf) (by go_cell)
          have m2 := kcb hb (b := w.heap.size) (o := 2) (v := .int .i64 M.fu) (by go_cell)
          have m3 := kcb hb (b := w.heap.size) (o := 3) (v := .int .i64 M.la) (by go_cell)
          have m4 := kcb hb (b := w.heap.size) (o := 4) (v := .int .i64 M.ag) (by go_cell)
          have m5 := kcb hb (b := w.heap.size) (o := 5) (v := .int .i64 M.wi) (by go_cell)
          have B2 : Bl w w2 := Below.trans (by go_grown) (hb.mono (by (try simp only [World.size_alloc, World.size_setCell]); omega))
          have l2 := ltb m5
          have zz2 := B2.size
          clear hb
          rw [HQ.out]
          have lm2 := ltb m0
          go_wp2_with fail
          refine (lag_any A n c R _ (HA.out.below (by go_grown)) HN.out).mono ?_
          rintro q3 w3 ⟨rfl, hb⟩
          have m0 := kcb hb (b := w.heap.size) (o := 0) (v := .int .i64 M.no) (by go_cell)
          have m1 := kcb hb (b := w.heap.size) (o := 1) (v := .int .i64 M.hf) (by go_cell)
          have m2 := kcb hb (b := w.heap.size) (o := 2) (v := .int .i64 M.fu) (by go_cell)
          have m3 := kcb hb (b := w.heap.size) (o := 3) (v := .int .i64 M.la) (by go_cell)
          have m4 := kcb hb (b := w.heap.size) (o := 4) (v := .int .i64 M.ag) (by go_cell)
          have m5 := kcb hb (b := w.heap.size) (o := 5) (v := .int .i64 M.wi) (by go_cell)
          have B3 : Bl w w3 := Below.trans (by go_grown) (hb.mono (by (try simp only [World.size_alloc, World.size_setCell]); omega))
          have l3 := ltb m5
          have zz3 := B3.size
          clear hb
          rw [HL.out]
          have lm3 := ltb m0
          go_wp2_with fail
          refine (send_any A n c R M.no _ (HA.out.below (by go_grown)) HN.out).mono ?_
          rintro q4 w4 ⟨rfl, hb⟩
          have m0 := kcb hb (b := w.heap.size) (o := 0) (v := .int .i64 M.no) (by go_cell)
          have m1 := kcb hb (b := w.heap.size) (o := 1) (v := .int .i64 M.hf) (by go_cell)
          have m2 := kcb hb (b := w.heap.size) (o := 2) (v := .int .i64 M.fu) (by go_cell)
          have m3 := kcb hb (b := w.heap.size) (o := 3) (v := .int .i64 M.la) (by go_cell)
          have m4 := kcb hb (b := w.heap.size) (o := 4) (v := .int .i64 M.ag) (by go_cell)
          have m5 := kcb hb (b := w.heap.size) (o := 5) (v := .int .i64 M.wi) (by go_cell)
          have p0 := kcb hb (b := w3.heap.size) (o := 0) (v := .int .i64 (L - S)) (by go_cell)
          have p1 := kcb hb (b := w3.heap.size) (o := 1) (v := .int .i64 (L + S)) (by go_cell)
          have B4 : Bl w w4 := Below.trans (by go_grown) (hb.mono (by (try simp only [World.size_alloc, World.size_setCell]); omega))
          have l4 := ltb p1
          have zz4 := B4.size
          clear hb
          rw [HSE.out]
          have lm4 := ltb m0
          have lp4 := ltb p0
          go_wp2_with fail
          refine (falls_any A n c R (M.no - L) _ (HA.out.below (by go_grown)) HN.out).mono ?_
          rintro q5 w5 ⟨rfl, hb⟩
          have m0 := kcb hb (b := w.heap.size) (o := 0) (v := .int .i64 M.no) (by go_cell)
          have m1 := kcb hb (b := w.heap.size) (o := 1) (v := .int .i64 M.hf) (by go_cell)
          have m2 := kcb hb (b := w.heap.size) (o := 2) (v := .int .i64 M.fu) (by go_cell)
          have m3 := kcb hb (b := w.heap.size) (o := 3) (v := .int .i64 M.la) (by go_cell)
          have m4 := kcb hb (b := w.heap.size) (o := 4) (v := .int .i64 M.ag) (by go_cell)
          have m5 := kcb hb (b := w.heap.size) (o := 5) (v := .int .i64 M.wi) (by go_cell)
          have p0 := kcb hb (b := w3.heap.size) (o := 0) (v := .int .i64 (L - S)) (by go_cell)
          have p1 := kcb hb (b := w3.heap.size) (o := 1) (v := .int .i64 (L + S)) (by go_cell)
          have B5 : Bl w w5 := Below.trans (by go_grown) (hb.mono (by (try simp only [World.size_alloc, World.size_setCell]); omega))
          have l5 := ltb p1
          have zz5 := B5.size
          clear hb
          rw [HF.out]
          have lm5 := ltb m0
          have lp5 := ltb p0
          go_wp2_with fail
          refine (awakeB_any _).mono ?_
          rintro q9 w9 ⟨rfl, hb⟩
          have B9 : Bl w w9 := Below.trans (by go_grown) (hb.mono (by (try simp only [World.size_alloc, World.size_setCell]); omega))
          go_wp2_with fail
          go_ret
          exact ⟨rfl, B9⟩
      · have HQ := Lib.hid (show sureR M R n = (false, 0) by unfold sureR; rw [if_pos ⟨hM, hv⟩, hS]; simp [q])
        have q2 : M.la < S := by omega
        by_cases r : M.no < L
        · have dq : 2 * M.la < L + S - (L - S) := by omega
          have HSE := Lib.hid (show sendR R n M.no = (0, 8) by unfold sendR; rw [if_pos hv, if_pos ⟨vno0, vno1⟩, hL, if_pos r])
          clear hM hv hL hS
          go_enter Try.func9, Try.ntmps9
          go_wp2_with fail
          refine (sure_any M A n c R _ (HA.out.below (by go_grown)) HN.out).mono ?_
          rintro q1 w1 ⟨rfl, hb⟩
          have m0 := kcb hb (b := w.heap.size) (o := 0) (v := .int .i64 M.no) (by go_cell)
          have m1 := kcb hb (b := w.heap.size) (o := 1) (v := .int .i64 M.hf) (by go_cell)
          have m2 := kcb hb (b := w.heap.size) (o := 2) (v := .int .i64 M.fu) (by go_cell)
          have m3 := kcb hb (b := w.heap.size) (o := 3) (v := .int .i64 M.la) (by go_cell)
          have m4 := kcb hb (b := w.heap.size) (o := 4) (v := .int .i64 M.ag) (by go_cell)
          have m5 := kcb hb (b := w.heap.size) (o := 5) (v := .int .i64 M.wi) (by go_cell)
          have B1 : Bl w w1 := Below.trans (by go_grown) (hb.mono (by (try simp only [World.size_alloc, World.size_setCell]); omega))
          have l1 := ltb m5
          have zz1 := B1.size
          clear hb
          rw [HQ.out]
          have lm1 := ltb m0
          go_wp2_with fail
          refine (rsure_any M A n c R _ (HA.out.below (by go_grown)) HN.out).mono ?_
          rintro q2 w2 ⟨rfl, hb⟩
          have m0 := kcb hb (b := w.heap.size) (o := 0) (v := .int .i64 M.no) (by go_cell)
          have m1 := kcb hb (b := w.heap.size) (o := 1) (v := .int .i64 M.hf) (by go_cell)
          have m2 := kcb hb (b := w.heap.size) (o := 2) (v := .int .i64 M.fu) (by go_cell)
          have m3 := kcb hb (b := w.heap.size) (o := 3) (v := .int .i64 M.la) (by go_cell)
          have m4 := kcb hb (b := w.heap.size) (o := 4) (v := .int .i64 M.ag) (by go_cell)
          have m5 := kcb hb (b := w.heap.size) (o := 5) (v := .int .i64 M.wi) (by go_cell)
          have B2 : Bl w w2 := Below.trans (by go_grown) (hb.mono (by (try simp only [World.size_alloc, World.size_setCell]); omega))
          have l2 := ltb m5
          have zz2 := B2.size
          clear hb
          rw [HQ.out]
          have lm2 := ltb m0
          go_wp2_with fail
          refine (lag_any A n c R _ (HA.out.below (by go_grown)) HN.out).mono ?_
          rintro q3 w3 ⟨rfl, hb⟩
          have m0 := kcb hb (b := w.heap.size) (o := 0) (v := .int .i64 M.no) (by go_cell)
          have m1 := kcb hb (b := w.heap.size) (o := 1) (v := .int .i64 M.hf) (by go_cell)
          have m2 := kcb hb (b := w.heap.size) (o := 2) (v := .int .i64 M.fu) (by go_cell)
          have m3 := kcb hb (b := w.heap.size) (o := 3) (v := .int .i64 M.la) (by go_cell)
          have m4 := kcb hb (b := w.heap.size) (o := 4) (v := .int .i64 M.ag) (by go_cell)
          have m5 := kcb hb (b := w.heap.size) (o := 5) (v := .int .i64 M.wi) (by go_cell)
          have B3 : Bl w w3 := Below.trans (by go_grown) (hb.mono (by (try simp only [World.size_alloc, World.size_setCell]); omega))
          have l3 := ltb m5
          have zz3 := B3.size
          clear hb
          rw [HL.out]
          have lm3 := ltb m0
          go_wp2_with fail
          refine (send_any A n c R M.no _ (HA.out.below (by go_grown)) HN.out).mono ?_
          rintro q4 w4 ⟨rfl, hb⟩
          have m0 := kcb hb (b := w.heap.size) (o := 0) (v := .int .i64 M.no) (by go_cell)
          have m1 := kcb hb (b := w.heap.size) (o := 1) (v := .int .i64 M.hf) (by go_cell)
          have m2 := kcb hb (b := w.heap.size) (o := 2) (v := .int .i64 M.fu) (by go_cell)
          have m3 := kcb hb (b := w.heap.size) (o := 3) (v := .int .i64 M.la) (by go_cell)
          have m4 := kcb hb (b := w.heap.size) (o := 4) (v := .int .i64 M.ag) (by go_cell)
          have m5 := kcb hb (b := w.heap.size) (o := 5) (v := .int .i64 M.wi) (by go_cell)
          have p0 := kcb hb (b := w3.heap.size) (o := 0) (v := .int .i64 (L - S)) (by go_cell)
          have p1 := kcb hb (b := w3.heap.size) (o := 1) (v := .int .i64 (L + S)) (by go_cell)
          have B4 : Bl w w4 := Below.trans (by go_grown) (hb.mono (by (try simp only [World.size_alloc, World.size_setCell]); omega))
          have l4 := ltb p1
          have zz4 := B4.size
          clear hb
          rw [HSE.out]
          have lm4 := ltb m0
          have lp4 := ltb p0
          go_wp2_with fail
          refine (awakeB_any _).mono ?_
          rintro q9 w9 ⟨rfl, hb⟩
          have B9 : Bl w w9 := Below.trans (by go_grown) (hb.mono (by (try simp only [World.size_alloc, World.size_setCell]); omega))
          go_wp2_with fail
          go_ret
          exact ⟨rfl, B9⟩
        · have dq : 2 * M.la < L + S - (L - S) := by omega
          have HSE := Lib.hid (show sendR R n M.no = (M.no - L, 0) by unfold sendR; rw [if_pos hv, if_pos ⟨vno0, vno1⟩, hL, if_neg r])
          have HF := Lib.hid (show falR R n (M.no - L) = (M.no - S, M.no + S, 0) by rw [← hL, ← hS]; exact fal_at hv ⟨by omega, by omega⟩)
          clear hM hv hL hS
          go_enter Try.func9, Try.ntmps9
          go_wp2_with fail
          refine (sure_any M A n c R _ (HA.out.below (by go_grown)) HN.out).mono ?_
          rintro q1 w1 ⟨rfl, hb⟩
          have m0 := kcb hb (b := w.heap.size) (o := 0) (v := .int .i64 M.no) (by go_cell)
          have m1 := kcb hb (b := w.heap.size) (o := 1) (v := .int .i64 M.hf) (by go_cell)
          have m2 := kcb hb (b := w.heap.size) (o := 2) (v := .int .i64 M.fu) (by go_cell)
          have m3 := kcb hb (b := w.heap.size) (o := 3) (v := .int .i64 M.la) (by go_cell)
          have m4 := kcb hb (b := w.heap.size) (o := 4) (v := .int .i64 M.ag) (by go_cell)
          have m5 := kcb hb (b := w.heap.size) (o := 5) (v := .int .i64 M.wi) (by go_cell)
          have B1 : Bl w w1 := Below.trans (by go_grown) (hb.mono (by (try simp only [World.size_alloc, World.size_setCell]); omega))
          have l1 := ltb m5
          have zz1 := B1.size
          clear hb
          rw [HQ.out]
          have lm1 := ltb m0
          go_wp2_with fail
          refine (rsure_any M A n c R _ (HA.out.below (by go_grown)) HN.out).mono ?_
          rintro q2 w2 ⟨rfl, hb⟩
          have m0 := kcb hb (b := w.heap.size) (o := 0) (v := .int .i64 M.no) (by go_cell)
          have m1 := kcb hb (b := w.heap.size) (o := 1) (v := .int .i64 M.hf) (by go_cell)
          have m2 := kcb hb (b := w.heap.size) (o := 2) (v := .int .i64 M.fu) (by go_cell)
          have m3 := kcb hb (b := w.heap.size) (o := 3) (v := .int .i64 M.la) (by go_cell)
          have m4 := kcb hb (b := w.heap.size) (o := 4) (v := .int .i64 M.ag) (by go_cell)
          have m5 := kcb hb (b := w.heap.size) (o := 5) (v := .int .i64 M.wi) (by go_cell)
          have B2 : Bl w w2 := Below.trans (by go_grown) (hb.mono (by (try simp only [World.size_alloc, World.size_setCell]); omega))
          have l2 := ltb m5
          have zz2 := B2.size
          clear hb
          rw [HQ.out]
          have lm2 := ltb m0
          go_wp2_with fail
          refine (lag_any A n c R _ (HA.out.below (by go_grown)) HN.out).mono ?_
          rintro q3 w3 ⟨rfl, hb⟩
          have m0 := kcb hb (b := w.heap.size) (o := 0) (v := .int .i64 M.no) (by go_cell)
          have m1 := kcb hb (b := w.heap.size) (o := 1) (v := .int .i64 M.hf) (by go_cell)
          have m2 := kcb hb (b := w.heap.size) (o := 2) (v := .int .i64 M.fu) (by go_cell)
          have m3 := kcb hb (b := w.heap.size) (o := 3) (v := .int .i64 M.la) (by go_cell)
          have m4 := kcb hb (b := w.heap.size) (o := 4) (v := .int .i64 M.ag) (by go_cell)
          have m5 := kcb hb (b := w.heap.size) (o := 5) (v := .int .i64 M.wi) (by go_cell)
          have B3 : Bl w w3 := Below.trans (by go_grown) (hb.mono (by (try simp only [World.size_alloc, World.size_setCell]); omega))
          have l3 := ltb m5
          have zz3 := B3.size
          clear hb
          rw [HL.out]
          have lm3 := ltb m0
          go_wp2_with fail
          refine (send_any A n c R M.no _ (HA.out.below (by go_grown)) HN.out).mono ?_
          rintro q4 w4 ⟨rfl, hb⟩
          have m0 := kcb hb (b := w.heap.size) (o := 0) (v := .int .i64 M.no) (by go_cell)
          have m1 := kcb hb (b := w.heap.size) (o := 1) (v := .int .i64 M.hf) (by go_cell)
          have m2 := kcb hb (b := w.heap.size) (o := 2) (v := .int .i64 M.fu) (by go_cell)
          have m3 := kcb hb (b := w.heap.size) (o := 3) (v := .int .i64 M.la) (by go_cell)
          have m4 := kcb hb (b := w.heap.size) (o := 4) (v := .int .i64 M.ag) (by go_cell)
          have m5 := kcb hb (b := w.heap.size) (o := 5) (v := .int .i64 M.wi) (by go_cell)
          have p0 := kcb hb (b := w3.heap.size) (o := 0) (v := .int .i64 (L - S)) (by go_cell)
          have p1 := kcb hb (b := w3.heap.size) (o := 1) (v := .int .i64 (L + S)) (by go_cell)
          have B4 : Bl w w4 := Below.trans (by go_grown) (hb.mono (by (try simp only [World.size_alloc, World.size_setCell]); omega))
          have l4 := ltb p1
          have zz4 := B4.size
          clear hb
          rw [HSE.out]
          have lm4 := ltb m0
          have lp4 := ltb p0
          go_wp2_with fail
          refine (falls_any A n c R (M.no - L) _ (HA.out.below (by go_grown)) HN.out).mono ?_
          rintro q5 w5 ⟨rfl, hb⟩
          have m0 := kcb hb (b := w.heap.size) (o := 0) (v := .int .i64 M.no) (by go_cell)
          have m1 := kcb hb (b := w.heap.size) (o := 1) (v := .int .i64 M.hf) (by go_cell)
          have m2 := kcb hb (b := w.heap.size) (o := 2) (v := .int .i64 M.fu) (by go_cell)
          have m3 := kcb hb (b := w.heap.size) (o := 3) (v := .int .i64 M.la) (by go_cell)
          have m4 := kcb hb (b := w.heap.size) (o := 4) (v := .int .i64 M.ag) (by go_cell)
          have m5 := kcb hb (b := w.heap.size) (o := 5) (v := .int .i64 M.wi) (by go_cell)
          have p0 := kcb hb (b := w3.heap.size) (o := 0) (v := .int .i64 (L - S)) (by go_cell)
          have p1 := kcb hb (b := w3.heap.size) (o := 1) (v := .int .i64 (L + S)) (by go_cell)
          have B5 : Bl w w5 := Below.trans (by go_grown) (hb.mono (by (try simp only [World.size_alloc, World.size_setCell]); omega))
          have l5 := ltb p1
          have zz5 := B5.size
          clear hb
          rw [HF.out]
          have lm5 := ltb m0
          have lp5 := ltb p0
          go_wp2_with fail
          refine (awakeB_any _).mono ?_
          rintro q9 w9 ⟨rfl, hb⟩
          have B9 : Bl w w9 := Below.trans (by go_grown) (hb.mono (by (try simp only [World.size_alloc, World.size_setCell]); omega))
          go_wp2_with fail
          go_ret
          exact ⟨rfl, B9⟩
    · have HQ := Lib.hid (show sureR M R n = (false, 1) by unfold sureR; rw [if_neg hok])
      clear hok
      go_enter Try.func9, Try.ntmps9
      go_wp2_with fail
      refine (sure_any M A n c R _ (HA.out.below (by go_grown)) HN.out).mono ?_
      rintro q1 w1 ⟨rfl, hb⟩
      have m0 := kcb hb (b := w.heap.size) (o := 0) (v := .int .i64 M.no) (by go_cell)
      have m1 := kcb hb (b := w.heap.size) (o := 1) (v := .int .i64 M.hf) (by go_cell)
      have m2 := kcb hb (b := w.heap.size) (o := 2) (v := .int .i64 M.fu) (by go_cell)
      have m3 := kcb hb (b := w.heap.size) (o := 3) (v := .int .i64 M.la) (by go_cell)
      have m4 := kcb hb (b := w.heap.size) (o := 4) (v := .int .i64 M.ag) (by go_cell)
      have m5 := kcb hb (b := w.heap.size) (o := 5) (v := .int .i64 M.wi) (by go_cell)
      have B1 : Bl w w1 := Below.trans (by go_grown) (hb.mono (by (try simp only [World.size_alloc, World.size_setCell]); omega))
      have l1 := ltb m5
      have zz1 := B1.size
      clear hb
      rw [HQ.out]
      have lm1 := ltb m0
      go_wp2_with fail
      refine (rsure_any M A n c R _ (HA.out.below (by go_grown)) HN.out).mono ?_
      rintro q2 w2 ⟨rfl, hb⟩
      have m0 := kcb hb (b := w.heap.size) (o := 0) (v := .int .i64 M.no) (by go_cell)
      have m1 := kcb hb (b := w.heap.size) (o := 1) (v := .int .i64 M.hf) (by go_cell)
      have m2 := kcb hb (b := w.heap.size) (o := 2) (v := .int .i64 M.fu) (by go_cell)
      have m3 := kcb hb (b := w.heap.size) (o := 3) (v := .int .i64 M.la) (by go_cell)
      have m4 := kcb hb (b := w.heap.size) (o := 4) (v := .int .i64 M.ag) (by go_cell)
      have m5 := kcb hb (b := w.heap.size) (o := 5) (v := .int .i64 M.wi) (by go_cell)
      have B2 : Bl w w2 := Below.trans (by go_grown) (hb.mono (by (try simp only [World.size_alloc, World.size_setCell]); omega))
      have l2 := ltb m5
      have zz2 := B2.size
      clear hb
      rw [HQ.out]
      have lm2 := ltb m0
      go_wp2_with fail
      refine (awakeB_any _).mono ?_
      rintro q9 w9 ⟨rfl, hb⟩
      have B9 : Bl w w9 := Below.trans (by go_grown) (hb.mono (by (try simp only [World.size_alloc, World.size_setCell]); omega))
      go_wp2_with fail
      go_ret
      exact ⟨rfl, B9⟩
set_option maxRecDepth 100000 in
set_option maxHeartbeats 3200000 in
theorem ones_walk (M : Mst) (A : Option Addr) (n c : Nat) (E : Nat → Evt) (w : World) (hn : n ≤ maxLen) (hc : n ≤ c ∧ c ≤ maxLen) (hA : El w A n E) : Calls Try.prog 10 #[encM M, .slice A n c] w fun e' w' => e' = .returned (.bool true) ∧ Bl w w' := by
  have HA := Lib.hid hA
  have HN := Lib.hid hn
  have HCC := Lib.hid hc.2
  have hc := hc.1
  clear hA
  unfold maxLen at hn
  by_cases hl : 100 < n
  · go_enter Try.func10, Try.ntmps10
    go_wp2_with fail
    refine (awakeB_any _).mono ?_
    rintro q9 w9 ⟨rfl, hb⟩
    have B9 : Bl w w9 := Below.trans (by go_grown) (hb.mono (by (try simp only [World.size_alloc, World.size_setCell]); omega))
    go_wp2_with fail
    go_ret
    exact ⟨rfl, B9⟩
  · have hl2 : n ≤ 100 := by omega
    clear hl
    by_cases hM : VM M
    · have HVM := Lib.hid (show decide (VM M) = true from decide_eq_true hM)
      have HM := Lib.hid hM
      have HR := Lib.hid (show runR M E n = ((runF M E n).1, (((runF M E n).2.1 : Nat) : Int), (runF M E n).2.2) by unfold runR; rw [if_pos hM, if_neg (by omega)])
      clear hM
      go_enter Try.func10, Try.ntmps10
      go_wp2_with fail
      refine (rvalidMast_any M _).mono ?_
      rintro q1 w1 ⟨rfl, hb⟩
      have m0 := kcb hb (b := w.heap.size) (o := 0) (v := .int .i64 M.no) (by go_cell)
      have m1 := kcb hb (b := w.heap.size) (o := 1) (v := .int .i64 M.hf) (by go_cell)
      have m2 := kcb hb (b := w.heap.size) (o := 2) (v := .int .i64 M.fu) (by go_cell)
      have m3 := kcb hb (b := w.heap.size) (o := 3) (v := .int .i64 M.la) (by go_cell)
      have m4 := kcb hb (b := w.heap.size) (o := 4) (v := .int .i64 M.ag) (by go_cell)
      have m5 := kcb hb (b := w.heap.size) (o := 5) (v := .int .i64 M.wi) (by go_cell)
      have B1 : Bl w w1 := Below.trans (by go_grown) (hb.mono (by (try simp only [World.size_alloc, World.size_setCell]); omega))
      have l1 := ltb m5
      have zz1 := B1.size
      clear hb
      rw [HVM.out]
      have lm1 := ltb m0
      go_wp2_with fail
      obtain ⟨V, hV⟩ : ∃ V, V = w1.alloc (.cells #[.int .i64 0, .int .i64 0, .bool false, .int .i64 0] 34) := ⟨_, rfl⟩
      have BV : Bl w V := by rw [hV]; go_grown
      have B1V : Bl w1 V := by rw [hV]; go_grown
      obtain ⟨q, hq⟩ : ∃ q, q = w1.heap.size := ⟨_, rfl⟩
      have VQ : SBox V q Bal.zero := by rw [hV, hq]; exact ⟨by go_cell, by go_cell, by go_cell, by go_cell, by simp, by simp, by simp, by simp⟩
      have VMM : MastAt V w.heap.size M := (show MastAt w1 w.heap.size M from ⟨m0, m1, m2, m3, m4, m5⟩).below B1V
      rw [← hV, ← hq]
      have hqw : w.heap.size < q := by have := ltb m0; omega
      clear hV hq B1 B1V m0 m1 m2 m3 m4 m5 lm1
      go_loopw [28] (fun i wr => ∃ k : Nat, k ≤ n ∧ i = .int .i64 k ∧ Hid ((runF M E k).2.2 = 0) ∧ Hid (SBox wr q (runF M E k).1) ∧ Hid (MastAt wr w.heap.size M) ∧ Bl w wr) (fun i _ => n - (RowKit.intOf i).toNat)
      case atStart => exact ⟨0, Nat.zero_le _, rfl, rfl, VQ, VMM, BV⟩
      case round =>
        obtain ⟨k, hk, rfl, hok, hSQ, hMM, hB⟩ := hrel
        have zB := hB.size
        by_cases hlt : k < n
        · obtain ⟨b', off, rfl, hbb, hcc⟩ := (HA.out.below hB) (by omega)
          obtain ⟨y0, y1, y2⟩ := hcc k hlt
          clear hcc
          obtain ⟨y, hy⟩ : ∃ y, y = E k := ⟨_, rfl⟩
          rw [← hy] at y0 y1 y2
          obtain ⟨s, hs⟩ : ∃ s, s = (runF M E k).1 := ⟨_, rfl⟩
          obtain ⟨r, er, hr⟩ : ∃ r er, nxtF M s y = (r, er) := ⟨_, _, rfl⟩
          have hr' : stp M s y = (r, er) := by rw [hs] at hr ⊢; rw [← nxt_run HM.out E k y]; exact hr
          have HS := Lib.hid (show runF M E (k + 1) = if er = 0 then (r, k + 1, 0) else (Bal.zero, k, er) by rw [runF_next hok.out, ← hs, ← hy, hr'])
          have HNX := Lib.hid hr
          rw [← hs] at hSQ
          clear hr hr' hs hy
          obtain ⟨s0, s1, s2, s3, f0, f1, f2, f3⟩ := hSQ.out
          obtain ⟨m0, m1, m2, m3, m4, m5⟩ := hMM.out
          have lq := ltb s0
          have lm := ltb m0
          go_wp2_with fail
          refine (ballNext_any M s y _).mono ?_
          rintro e2 w2 ⟨rfl, hb⟩
          rw [HNX.out]
          have X2 : Bl wr w2 := Below.trans (by go_grown) (hb.mono (by (try simp only [World.size_alloc]); omega))
          clear hb
          have SQ2 := hSQ.out.low X2 lq
          have MM2 := Lib.hid (hMM.out.below X2)
          have B2 : Bl w w2 := hB.tr X2
          have z2 := B2.size
          have HQ2 := Lib.hid SQ2
          clear s0 s1 s2 s3 f0 f1 f2 f3 m0 m1 m2 m3 m4 m5 y0 y1 y2
          obtain ⟨s0, s1, s2, s3, f0, f1, f2, f3⟩ := SQ2
          have lq2 := ltb s0
          by_cases hz : er = 0
          · subst hz
            have E1 := Lib.hid (show runF M E (k + 1) = (r, k + 1, 0) by rw [HS.out, if_pos rfl])
            clear HS
            go_wp2_with fail
            obtain ⟨U, hU⟩ : ∃ U, U = (((((w2.setCell ⟨q, 0, none⟩ (.int .i64 r.pl)).setCell ⟨q, 1, none⟩ (.int .i64 r.wi)).setCell ⟨q, 2, none⟩ (.bool r.fl)).setCell ⟨q, 3, none⟩ (.int .i64 r.t)).alloc (.cells #[.int .i64 r.pl, .int .i64 r.wi, .bool r.fl, .int .i64 r.t] 34)) := ⟨_, rfl⟩
            have XA : Bl ((((w2.setCell ⟨q, 0, none⟩ (.int .i64 r.pl)).setCell ⟨q, 1, none⟩ (.int .i64 r.wi)).setCell ⟨q, 2, none⟩ (.bool r.fl)).setCell ⟨q, 3, none⟩ (.int .i64 r.t)) U := by rw [hU]; exact (Below.refl _ _).alloc (Nat.le_refl _) _
            rw [← hU]
            clear hU
            go_roundw
            case rel =>
              refine ⟨k + 1, by omega, by go_num, by rw [E1.out]; exact rfl, ?_, ?_, ?_⟩
              · rw [E1.out]; exact (HQ2.out.put r).low XA (by simpa using lq2)
              · have T := MM2.out
                have oth : ∀ (Z : World) (i j : Nat) (u : Value), (Z.setCell ⟨q, i, none⟩ u).cell? ⟨w.heap.size, j, none⟩ = Z.cell? ⟨w.heap.size, j, none⟩ := fun Z i j u => World.cell?_setCell_other _ _ _ _ (by intro e; injection e with e; omega)
                exact MastAt.below ⟨by rw [oth, oth, oth, oth]; exact T.c0, by rw [oth, oth, oth, oth]; exact T.c1, by rw [oth, oth, oth, oth]; exact T.c2, by rw [oth, oth, oth, oth]; exact T.c3, by rw [oth, oth, oth, oth]; exact T.c4, by rw [oth, oth, oth, oth]; exact T.c5⟩ XA
              · exact Bl.tr (below_put4 B2 r (by omega)) XA
            case measure => simp [RowKit.intOf]; omega
          · have hz2 : (er != 0) = true := by simp [hz]
            have HF := Lib.hid (show runR M E n = (Bal.zero, (k : Int), er) by
              have e1 : runF M E (k + 1) = (Bal.zero, k, er) := by rw [HS.out, if_neg hz]
              rw [HR.out, runF_stop (k := k + 1) (by rw [e1]; exact hz) n (by omega), e1])
            clear HS
            obtain ⟨m0, m1, m2, m3, m4, m5⟩ := MM2.out
            have lm2 := ltb m0
            go_wp2_with fail
            refine (run_any M (some ⟨b', off, none⟩) n c E _ (HA.out.below (by go_grown)) HN.out hc HCC.out).mono ?_
            rintro e3 w3 ⟨rfl, hb⟩
            rw [HF.out]
            have B3 : Bl w w3 := Below.trans (by go_grown) (hb.mono (by (try simp only [World.size_alloc]); omega))
            have z3 := B3.size
            clear hb
            go_wp2_with fail
            refine (awakeB_any _).mono ?_
            rintro q9 w9 ⟨rfl, hb⟩
            have B9 : Bl w w9 := Below.trans (by go_grown) (hb.mono (by (try simp only [World.size_alloc, World.size_setCell]); omega))
            go_wp2_with fail
            go_ret
            exact ⟨rfl, B9⟩
        · obtain rfl : n = k := by omega
          have HF := Lib.hid (show runR M E n = ((runF M E n).1, (n : Int), 0) by rw [HR.out, hok.out, runF_len hok.out])
          obtain ⟨s, hs⟩ : ∃ s, s = (runF M E n).1 := ⟨_, rfl⟩
          rw [← hs] at hSQ HF
          obtain ⟨m0, m1, m2, m3, m4, m5⟩ := hMM.out
          have lm2 := ltb m0
          clear hs
          go_wp2_with fail
          refine (run_any M A n c E _ (HA.out.below (by go_grown)) HN.out hc HCC.out).mono ?_
          rintro e3 w3 ⟨rfl, hb⟩
          rw [HF.out]
          obtain ⟨s0, s1, s2, s3, f0, f1, f2, f3⟩ := hSQ.out.low hb (ltb hSQ.out.c0)
          have lq3 := ltb s0
          have B3 : Bl w w3 := Below.trans (by go_grown) (hb.mono (by (try simp only [World.size_alloc]); omega))
          have z3 := B3.size
          clear hb
          go_wp2_with fail
          refine (awakeB_any _).mono ?_
          rintro q9 w9 ⟨rfl, hb⟩
          have B9 : Bl w w9 := Below.trans (by go_grown) (hb.mono (by (try simp only [World.size_alloc, World.size_setCell]); omega))
          go_wp2_with fail
          go_ret
          exact ⟨rfl, B9⟩
    · have HVM := Lib.hid (show decide (VM M) = false from decide_eq_false hM)
      clear hM
      go_enter Try.func10, Try.ntmps10
      go_wp2_with fail
      refine (rvalidMast_any M _).mono ?_
      rintro q1 w1 ⟨rfl, hb⟩
      have m0 := kcb hb (b := w.heap.size) (o := 0) (v := .int .i64 M.no) (by go_cell)
      have m1 := kcb hb (b := w.heap.size) (o := 1) (v := .int .i64 M.hf) (by go_cell)
      have m2 := kcb hb (b := w.heap.size) (o := 2) (v := .int .i64 M.fu) (by go_cell)
      have m3 := kcb hb (b := w.heap.size) (o := 3) (v := .int .i64 M.la) (by go_cell)
      have m4 := kcb hb (b := w.heap.size) (o := 4) (v := .int .i64 M.ag) (by go_cell)
      have m5 := kcb hb (b := w.heap.size) (o := 5) (v := .int .i64 M.wi) (by go_cell)
      have B1 : Bl w w1 := Below.trans (by go_grown) (hb.mono (by (try simp only [World.size_alloc, World.size_setCell]); omega))
      have l1 := ltb m5
      have zz1 := B1.size
      clear hb
      rw [HVM.out]
      have lm1 := ltb m0
      go_wp2_with fail
      refine (awakeB_any _).mono ?_
      rintro q9 w9 ⟨rfl, hb⟩
      have B9 : Bl w w9 := Below.trans (by go_grown) (hb.mono (by (try simp only [World.size_alloc, World.size_setCell]); omega))
      go_wp2_with fail
      go_ret
      exact ⟨rfl, B9⟩
end Go.Proofs.Ytaebclepdobbaaa
