/-
  Package sight and its reference: nets that are valid (the reference).
-/
import Derived.Test.YtchikfegpoonjaaPE
namespace Go.Proofs.Ytchikfegpoonjaa
open Go.RowKit
set_option linter.unusedSimpArgs false
set_option linter.unusedVariables false

set_option maxRecDepth 100000 in
set_option maxHeartbeats 6400000 in
theorem rvalidN_any (A : Option Addr) (n c : Nat) (R : Nat → Int) (B : Option Addr) (m d : Nat) (S : Nat → Sgt) (w : World) (hA : Sl w A n R) (hB : Sgl w B m S) (hn : n ≤ maxLen) (hm : m ≤ maxLen) :
    Calls Try.prog 5 #[encN A n c B m d] w fun e w' => e = .returned (.bool (vnB R n S m)) ∧ Bl w w' := by
  have HA := Lib.hid hA
  have HB0 := Lib.hid hB
  clear hA hB
  unfold maxLen at hn hm
  cases qn : inB (n : Int) 2 8 with
  | false =>
    have QN := Lib.hid qn
    have HF := Lib.hid (show vnB R n S m = false by have := inB_no.1 qn; simp [vnB]; omega)
    clear qn
    go_enter Try.func5, Try.ntmps5
    go_wp2_with fail
    refine (within2_any _ _ _ _).mono ?_
    rintro e1 w1 ⟨rfl, hb⟩
    rw [QN.out]
    have b0 := kcb hb (b := w.heap.size) (o := 0) (v := .slice A n c) (by first | assumption | go_cell)
    have b1 := kcb hb (b := w.heap.size) (o := 1) (v := .slice B m d) (by first | assumption | go_cell)
    have l1 := ltb b0
    have HB1 := Lib.hid (show Bl w w1 from Bl.tr (by go_grown) hb)
    clear hb
    go_wp2_with fail
    go_ret
    exact ⟨ret_bool HF.out.symm, HB1.out⟩
  | true =>
    have QN := Lib.hid qn
    have hn2 := (inB_iff.1 qn).1
    have hn8 := (inB_iff.1 qn).2
    clear qn
    obtain ⟨rb, ro, rfl, hc0⟩ := slS_cell HA.out (by omega)
    have l0 := ltb hc0
    by_cases h0 : R 0 = 0
    rotate_left
    · have HF := Lib.hid (show vnB R n S m = false by simp [vnB, h0])
      have h0' : (R 0 != 0) = true := by simp [h0]
      go_enter Try.func5, Try.ntmps5
      go_wp2_with fail
      refine (within2_any _ _ _ _).mono ?_
      rintro e1 w1 ⟨rfl, hb⟩
      rw [QN.out]
      have b0 := kcb hb (b := w.heap.size) (o := 0) (v := .slice (some ⟨rb, ro, none⟩) n c) (by first | assumption | go_cell)
      have b1 := kcb hb (b := w.heap.size) (o := 1) (v := .slice B m d) (by first | assumption | go_cell)
      have l1 := ltb b0
      have HB1 := Lib.hid (show Bl w w1 from Bl.tr (by go_grown) hb)
      have hc0 := kcb HB1.out hc0
      have l0 := ltb hc0
      clear hb
      go_wp2_with fail
      go_ret
      exact ⟨ret_bool HF.out.symm, HB1.out⟩
    have h0' : (R 0 != 0) = false := by simp [h0]
    by_cases hm30 : 30 < m
    · have HF := Lib.hid (show vnB R n S m = false by simp [vnB]; omega)
      go_enter Try.func5, Try.ntmps5
      go_wp2_with fail
      refine (within2_any _ _ _ _).mono ?_
      rintro e1 w1 ⟨rfl, hb⟩
      rw [QN.out]
      have b0 := kcb hb (b := w.heap.size) (o := 0) (v := .slice (some ⟨rb, ro, none⟩) n c) (by first | assumption | go_cell)
      have b1 := kcb hb (b := w.heap.size) (o := 1) (v := .slice B m d) (by first | assumption | go_cell)
      have l1 := ltb b0
      have HB1 := Lib.hid (show Bl w w1 from Bl.tr (by go_grown) hb)
      have hc0 := kcb HB1.out hc0
      have l0 := ltb hc0
      clear hb
      go_wp2_with fail
      go_ret
      exact ⟨ret_bool HF.out.symm, HB1.out⟩
    have HV := Lib.hid (show vnB R n S m = (raTo R n && sgTo n S m) by simp only [vnB]; rw [decide_eq_true (show 2 ≤ n by omega), decide_eq_true (show n ≤ 8 by omega), decide_eq_true h0, decide_eq_true (show m ≤ 30 by omega)]; simp)
    go_enter Try.func5, Try.ntmps5
    go_wp2_with fail
    refine (within2_any _ _ _ _).mono ?_
    rintro e1 w1 ⟨rfl, hb⟩
    rw [QN.out]
    have b0 := kcb hb (b := w.heap.size) (o := 0) (v := .slice (some ⟨rb, ro, none⟩) n c) (by first | assumption | go_cell)
    have b1 := kcb hb (b := w.heap.size) (o := 1) (v := .slice B m d) (by first | assumption | go_cell)
    have l1 := ltb b0
    have HB1 := Lib.hid (show Bl w w1 from Bl.tr (by go_grown) hb)
    have hc0 := kcb HB1.out hc0
    have l0 := ltb hc0
    clear hb
    go_wp2_with fail
    have HC := Lib.hid (And.intro b0 b1)
    clear hc0 h0 h0'
    go_loopw [4, 28] (fun v i wr => ∃ (k : Nat) (y : Value), y = v ∧ k ≤ n ∧ i = .int .i64 k ∧ Hid (raTo R k = true) ∧ Hid (Bl w wr) ∧ wr.cell? ⟨w.heap.size, 0, none⟩ = some (.slice (some ⟨rb, ro, none⟩) n c) ∧ wr.cell? ⟨w.heap.size, 1, none⟩ = some (.slice B m d)) (fun _ i _ => n - (intOf i).toNat)
    case atStart => exact ⟨0, _, rfl, Nat.zero_le _, rfl, rfl, HB1, HC.out.1, HC.out.2⟩
    case round =>
      obtain ⟨k, y, rfl, hk, rfl, HO, HB, b0, b1⟩ := hrel
      have lb := ltb b0
      by_cases hlt : k < n
      · obtain ⟨b', off', e', hbb, hc⟩ := (HA.out.below HB.out) (by omega)
        cases e'
        have c1 := hc k hlt
        clear hc
        obtain ⟨z, hz⟩ : ∃ z, z = R k := ⟨_, rfl⟩
        rw [← hz] at c1
        have HZ := Lib.hid hz
        clear hz
        go_wp2_with fail
        refine (within2_any _ _ _ _).mono ?_
        rintro e2 w2 ⟨rfl, hb⟩
        have b0 := kcb hb b0
        have b1 := kcb hb b1
        have HB2 := Lib.hid (show Bl w w2 from HB.out.tr (Bl.tr (by go_grown) hb))
        clear hb
        cases q : inB z 0 1000000 with
        | true =>
          have HY := Lib.hid (show raTo R (k + 1) = true by rw [raTo, HO.out, ← HZ.out, q]; rfl)
          clear q
          go_wp2_with fail
          go_roundw
          case rel => exact ⟨k + 1, _, rfl, by omega, by go_num, HY.out, HB2, b0, b1⟩
          case measure => simp [intOf]; omega
        | false =>
          have HN := Lib.hid (show vnB R n S m = false by rw [HV.out, raTo_no hlt (by rw [← HZ.out]; exact q)]; rfl)
          clear q
          go_wp2_with fail
          go_ret
          exact ⟨ret_bool HN.out.symm, HB2.out⟩
      · obtain rfl : k = n := by omega
        have HR := Lib.hid HO.out
        have HVV := Lib.hid (show vnB R k S m = sgTo k S m by rw [HV.out, HR.out, Bool.true_and])
        have HB1 := HB
        go_wp2_with fail
        clear HO HB
        obtain ⟨w3, hw3⟩ : ∃ w3, w3 = wr := ⟨_, rfl⟩
        subst hw3
        go_loopw [6, 39] (fun p i wr => ∃ (j : Nat) (y : Value), y = p ∧ j ≤ m ∧ i = .int .i64 j ∧ Hid (sgTo k S j = true) ∧ Hid (Bl w wr) ∧ wr.cell? ⟨w.heap.size, 0, none⟩ = some (.slice (some ⟨rb, ro, none⟩) k c) ∧ wr.cell? ⟨w.heap.size, 1, none⟩ = some (.slice B m d)) (fun _ i _ => m - (intOf i).toNat)
        case atStart => exact ⟨0, _, rfl, Nat.zero_le _, rfl, rfl, HB1, b0, b1⟩
        case round =>
          obtain ⟨j, y, rfl, hj, rfl, HO, HB, b0, b1⟩ := hrel
          have lb := ltb b0
          by_cases hlt : j < m
          · obtain ⟨b', off', rfl, hbb, hc⟩ := (HB0.out.below HB.out) (by omega)
            obtain ⟨c0, c1, c2, c3, c4⟩ := hc j hlt
            clear hc
            obtain ⟨x, hx⟩ : ∃ x, x = S j := ⟨_, rfl⟩
            rw [← hx] at c0 c1 c2 c3 c4
            have HX := Lib.hid hx
            clear hx
            go_wp2_with fail
            refine (rvalidSight2_any x k _).mono ?_
            rintro e2 w2 ⟨rfl, hb⟩
            have b0 := kcb hb (b := w.heap.size) (o := 0) (v := .slice (some ⟨rb, ro, none⟩) k c) (by first | assumption | (refine cellUp ?_; assumption))
            have b1 := kcb hb (b := w.heap.size) (o := 1) (v := .slice (some ⟨b', off', none⟩) m d) (by first | assumption | (refine cellUp ?_; assumption))
            have HB2 := Lib.hid (show Bl w w2 from HB.out.tr (Bl.tr (by go_grown) hb))
            clear hb
            cases q : sgB k x with
            | true =>
              have HY := Lib.hid (show sgTo k S (j + 1) = true by rw [sgTo, HO.out, ← HX.out, q]; rfl)
              clear q
              go_wp2_with fail
              go_roundw
              case rel => exact ⟨j + 1, _, rfl, by omega, by go_num, HY.out, HB2, b0, b1⟩
              case measure => simp [intOf]; omega
            | false =>
              have HN := Lib.hid (show vnB R k S m = false by rw [HVV.out, sgTo_no hlt (by rw [← HX.out]; exact q)])
              clear q
              go_wp2_with fail
              go_ret
              exact ⟨ret_bool HN.out.symm, HB2.out⟩
          · obtain rfl : j = m := by omega
            go_wp2_with fail
            go_ret
            exact ⟨ret_bool (by rw [HVV.out, HO.out]), HB.out⟩
end Go.Proofs.Ytchikfegpoonjaa
