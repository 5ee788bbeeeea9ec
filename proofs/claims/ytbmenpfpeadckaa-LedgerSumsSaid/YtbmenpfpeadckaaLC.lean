/-
  Contracts of package ledger and of its reference: days, entries, Valid.
-/
import Derived.Test.YtbmenpfpeadckaaLA
namespace Go.Proofs.Ytbmenpfpeadckaa
open Go.RowKit
set_option linter.unusedSimpArgs false
set_option linter.unusedVariables false

set_option maxHeartbeats 400000 in
theorem isDay_any (d : Int) (w : World) : Calls Try.prog 64 #[.int .i64 d] w fun e w' => e = .returned (.bool (dayB d)) ∧ w = w' := by
  go_enter Try.func64, Try.ntmps64
  go_wp2
  all_goals (go_ret; exact ⟨ret_boolE (by simp [dayB]; try omega), rfl⟩)
set_option maxHeartbeats 400000 in
theorem rday_any (d : Int) (w : World) : Calls Try.prog 97 #[.int .i64 d] w fun e w' => e = .returned (.bool (dayB d)) ∧ w = w' := by
  go_enter Try.func97, Try.ntmps97
  go_wp2
  all_goals (go_ret; exact ⟨ret_boolE (by simp [dayB]; try omega), rfl⟩)
set_option maxRecDepth 100000 in
set_option maxHeartbeats 1600000 in
theorem isEntry_any (x : En) (w : World) : Calls Try.prog 124 #[encE x] w fun e w' => e = .returned (.bool (enB x)) ∧ Bl w w' := by
  cases hd : dayB x.day with
  | false =>
    have HD := Lib.hid hd
    have HR := Lib.hid (show enB x = false by simp [enB, hd])
    clear hd
    go_enter Try.func124, Try.ntmps124
    go_wp2_with fail
    refine (isDay_any _ _).mono ?_
    rintro q1 w1 ⟨rfl, rfl⟩
    rw [HD.out]
    go_wp2_with fail
    go_ret
    exact ⟨ret_boolE HR.out.symm, by go_grown⟩
  | true =>
    have HD := Lib.hid hd
    by_cases h1 : -86400000 ≤ x.er
    · have HR := Lib.hid (show enB x = decide (x.er ≤ 86400000) by simp [enB, hd, h1])
      clear hd
      go_enter Try.func124, Try.ntmps124
      go_wp2_with fail
      refine (isDay_any _ _).mono ?_
      rintro q1 w1 ⟨rfl, rfl⟩
      rw [HD.out]
      go_wp2_with fail
      go_ret
      exact ⟨ret_boolE HR.out.symm, by go_grown⟩
    · have HR := Lib.hid (show enB x = false by simp [enB, h1])
      clear hd
      go_enter Try.func124, Try.ntmps124
      go_wp2_with fail
      refine (isDay_any _ _).mono ?_
      rintro q1 w1 ⟨rfl, rfl⟩
      rw [HD.out]
      go_wp2_with fail
      go_ret
      exact ⟨ret_boolE HR.out.symm, by go_grown⟩
set_option maxRecDepth 100000 in
set_option maxHeartbeats 1600000 in
theorem rvalid1_any (x : En) (w : World) : Calls Try.prog 125 #[encE x] w fun e w' => e = .returned (.bool (enB x)) ∧ Bl w w' := by
  cases hd : dayB x.day with
  | false =>
    have HD := Lib.hid hd
    have HR := Lib.hid (show enB x = false by simp [enB, hd])
    clear hd
    go_enter Try.func125, Try.ntmps125
    go_wp2_with fail
    refine (rday_any _ _).mono ?_
    rintro q1 w1 ⟨rfl, rfl⟩
    rw [HD.out]
    go_wp2_with fail
    go_ret
    exact ⟨ret_boolE HR.out.symm, by go_grown⟩
  | true =>
    have HD := Lib.hid hd
    by_cases h1 : -86400000 ≤ x.er
    · have HR := Lib.hid (show enB x = decide (x.er ≤ 86400000) by simp [enB, hd, h1])
      clear hd
      go_enter Try.func125, Try.ntmps125
      go_wp2_with fail
      refine (rday_any _ _).mono ?_
      rintro q1 w1 ⟨rfl, rfl⟩
      rw [HD.out]
      go_wp2_with fail
      go_ret
      exact ⟨ret_boolE HR.out.symm, by go_grown⟩
    · have HR := Lib.hid (show enB x = false by simp [enB, h1])
      clear hd
      go_enter Try.func125, Try.ntmps125
      go_wp2_with fail
      refine (rday_any _ _).mono ?_
      rintro q1 w1 ⟨rfl, rfl⟩
      rw [HD.out]
      go_wp2_with fail
      go_ret
      exact ⟨ret_boolE HR.out.symm, by go_grown⟩
set_option maxRecDepth 100000 in
set_option maxHeartbeats 800000 in
theorem valid1_any (x : En) (w : World) : Calls Try.prog 123 #[encE x] w fun e w' => e = .returned (.bool (!enB x)) ∧ Bl w w' := by
  go_enter Try.func123, Try.ntmps123
  go_wp2_with fail
  refine (isEntry_any x _).mono ?_
  rintro q1 w1 ⟨rfl, hb⟩
  go_wp2_with fail
  go_ret
  exact ⟨rfl, Bl.tr (by go_grown) hb⟩
set_option maxRecDepth 100000 in
set_option maxHeartbeats 1600000 in
theorem idxE_any (A : Option Addr) (n c : Nat) (L : Nat → En) (w : World) (hA : El w A n L) (hn : n ≤ maxLen) :
    Calls Try.prog 139 #[.slice A n c, .func (.func 123) #[] #[]] w fun e w' => (∃ z : Int, e = .returned (.int .i64 z) ∧ decide (0 ≤ z) = !allE L n) ∧ Bl w w' := by
  have HA := Lib.hid hA
  clear hA
  unfold maxLen at hn
  go_enter Try.func139, Try.ntmps139
  go_wp2_with fail
  go_loopw [8] (fun i wr => ∃ k : Nat, k ≤ n ∧ i = .int .i64 k ∧ Hid (allE L k = true) ∧ Bl w wr) (fun i _ => n - (RowKit.intOf i).toNat)
  case atStart => exact ⟨0, Nat.zero_le _, rfl, rfl, Bl.rf _⟩
  case round =>
    obtain ⟨k, hk, rfl, HN, hB⟩ := hrel
    by_cases hlt : k < n
    · obtain ⟨b', off, rfl, hbb, hc⟩ := (HA.out.below hB) (by omega)
      obtain ⟨c0, c1, c2⟩ := hc k hlt
      clear hc
      have HT := Lib.hid (fun (q : enB (L k) = false) => all_no (L := L) hlt q)
      have HF := Lib.hid (fun (q : enB (L k) = true) => (show allE L (k + 1) = true by rw [allE, HN.out, q]; rfl))
      obtain ⟨y, hy⟩ : ∃ y, y = L k := ⟨_, rfl⟩
      rw [← hy] at c0 c1 c2 HT HF
      clear hy
      cases q : enB y with
      | false =>
        have HI := Lib.hid (HT.out q)
        go_wp2_with fail
        refine (valid1_any y _).mono ?_
        rintro e w1 ⟨rfl, hb⟩
        have B1 := Lib.hid (hB.tr hb)
        clear hb
        rw [q]
        go_wp2_with fail
        go_ret
        exact ⟨⟨_, rfl, by rw [HI.out]; simp⟩, B1.out⟩
      | true =>
        have HI := Lib.hid (HF.out q)
        go_wp2_with fail
        refine (valid1_any y _).mono ?_
        rintro e w1 ⟨rfl, hb⟩
        have B1 := Lib.hid (hB.tr hb)
        clear hb
        rw [q]
        go_wp2_with fail
        go_roundw
        case rel => exact ⟨k + 1, by omega, by go_num, HI.out, B1.out⟩
        case measure => simp [RowKit.intOf]; omega
    · obtain rfl : k = n := by omega
      go_wp2_with fail
      go_ret
      exact ⟨⟨_, rfl, by rw [HN.out]; rfl⟩, hB⟩
set_option maxRecDepth 100000 in
set_option maxHeartbeats 1600000 in
theorem conE_any (A : Option Addr) (n c : Nat) (L : Nat → En) (w : World) (hA : El w A n L) (hn : n ≤ maxLen) :
    Calls Try.prog 122 #[.slice A n c, .func (.func 123) #[] #[]] w fun e w' => e = .returned (.bool (!allE L n)) ∧ Bl w w' := by
  have HX := Lib.hid (idxE_any A n c L w hA hn)
  clear hA
  go_enter Try.func122, Try.ntmps122
  go_wp2_with fail
  refine (HX.out).mono ?_
  rintro e w1 ⟨⟨z, rfl, hz⟩, hb⟩
  go_wp2_with fail
  go_ret
  exact ⟨by first | rfl | exact ret_boolE hz, hb⟩
set_option maxRecDepth 100000 in
set_option maxHeartbeats 1600000 in
theorem validE_any (A : Option Addr) (n c : Nat) (L : Nat → En) (w : World) (hA : El w A n L) (hn : n ≤ maxLen) : Calls Try.prog 92 #[.slice A n c] w fun e w' => e = .returned (.bool (vlB L n)) ∧ Bl w w' := by
  have HX := Lib.hid (fun (X : World) (hb : Bl w X) => conE_any A n c L X (hA.below hb) hn)
  clear hA
  unfold maxLen at hn
  by_cases h : 1000 < n
  · have HR := Lib.hid (show vlB L n = false by simp [vlB]; omega)
    go_enter Try.func92, Try.ntmps92
    go_wp2_with fail
    go_ret
    exact ⟨ret_boolE HR.out.symm, Bl.rf _⟩
  · have HR := Lib.hid (show vlB L n = allE L n by unfold vlB; rw [decide_eq_true (show n ≤ 1000 by omega), Bool.true_and])
    go_enter Try.func92, Try.ntmps92
    go_wp2_with fail
    refine (HX.out _ (by first | exact Bl.rf _ | go_grown)).mono ?_
    rintro e1 w1 ⟨rfl, hb⟩
    go_wp2_with fail
    go_ret
    exact ⟨ret_boolE (by rw [HR.out]; try simp), by first | exact hb | exact Bl.tr (by go_grown) hb⟩
end Go.Proofs.Ytbmenpfpeadckaa
