/-
  Sets of flags as bits: the contracts of has, minus, plus, mayStand, meaning and the limits.
-/
import Derived.Test.YtdikflklkmfcfaaFA
namespace Go.Proofs.Ytdikflklkmfcfaa
open Go.RowKit
set_option linter.unusedSimpArgs false
set_option linter.unusedVariables false

theorem cases13 {f : Nat} (h : f < 13) : f = 0 ∨ f = 1 ∨ f = 2 ∨ f = 3 ∨ f = 4 ∨ f = 5 ∨ f = 6 ∨ f = 7 ∨ f = 8 ∨ f = 9 ∨ f = 10 ∨ f = 11 ∨ f = 12 := by omega
theorem has_val {L n : Nat} (f : Nat) (hn : n = 2 ^ f) (h : L < 8192) : (bits BinOp.and IntKind.i64 ((L : Int) / (n : Int)) 1 == 1) = hasB L f := by
  subst hn
  have e : (L : Int) / ((2 ^ f : Nat) : Int) = ((L / 2 ^ f : Nat) : Int) := (Int.natCast_ediv L (2 ^ f)).symm
  rw [e, bits_and1 _ (Nat.lt_of_le_of_lt (Nat.div_le_self _ _) h), hasB_div]
  have := Nat.mod_two_eq_zero_or_one (L / 2 ^ f)
  rw [Bool.eq_iff_iff, decide_eq_true_eq, beq_iff_eq]
  omega
set_option maxHeartbeats 1600000 in
theorem has_any (L f : Nat) (w : World) (hL : L < 8192) (hf : f < 13) :
    Calls Try.prog 29 #[.int .i64 (L : Int), .int .i64 (f : Int)] w fun e w' => e = .returned (.bool (hasB L f)) ∧ w = w' := by
  rcases cases13 hf with rfl | rfl | rfl | rfl | rfl | rfl | rfl | rfl | rfl | rfl | rfl | rfl | rfl
  · have h0 := has_val 0 (n := 1) rfl hL
    have H := Lib.hid h0
    clear h0
    go_enter Try.func29, Try.ntmps29
    go_wp2
    go_ret
    exact ⟨ret_bool (by have h := H.out; simpa using h), rfl⟩
  · have H := Lib.hid (has_val 1 (n := 2) rfl hL)
    go_enter Try.func29, Try.ntmps29
    go_wp2
    go_ret
    exact ⟨ret_bool (by have h := H.out; simpa using h), rfl⟩
  · have H := Lib.hid (has_val 2 (n := 4) rfl hL)
    go_enter Try.func29, Try.ntmps29
    go_wp2
    go_ret
    exact ⟨ret_bool (by have h := H.out; simpa using h), rfl⟩
  · have H := Lib.hid (has_val 3 (n := 8) rfl hL)
    go_enter Try.func29, Try.ntmps29
    go_wp2
    go_ret
    exact ⟨ret_bool (by have h := H.out; simpa using h), rfl⟩
  · have H := Lib.hid (has_val 4 (n := 16) rfl hL)
    go_enter Try.func29, Try.ntmps29
    go_wp2
    go_ret
    exact ⟨ret_bool (by have h := H.out; simpa using h), rfl⟩
  · have H := Lib.hid (has_val 5 (n := 32) rfl hL)
    go_enter Try.func29, Try.ntmps29
    go_wp2
    go_ret
    exact ⟨ret_bool (by have h := H.out; simpa using h), rfl⟩
  · have H := Lib.hid (has_val 6 (n := 64) rfl hL)
    go_enter Try.func29, Try.ntmps29
    go_wp2
    go_ret
    exact ⟨ret_bool (by have h := H.out; simpa using h), rfl⟩
  · have H := Lib.hid (has_val 7 (n := 128) rfl hL)
    go_enter Try.func29, Try.ntmps29
    go_wp2
    go_ret
    exact ⟨ret_bool (by have h := H.out; simpa using h), rfl⟩
  · have H := Lib.hid (has_val 8 (n := 256) rfl hL)
    go_enter Try.func29, Try.ntmps29
    go_wp2
    go_ret
    exact ⟨ret_bool (by have h := H.out; simpa using h), rfl⟩
  · have H := Lib.hid (has_val 9 (n := 512) rfl hL)
    go_enter Try.func29, Try.ntmps29
    go_wp2
    go_ret
    exact ⟨ret_bool (by have h := H.out; simpa using h), rfl⟩
  · have H := Lib.hid (has_val 10 (n := 1024) rfl hL)
    go_enter Try.func29, Try.ntmps29
    go_wp2
    go_ret
    exact ⟨ret_bool (by have h := H.out; simpa using h), rfl⟩
  · have H := Lib.hid (has_val 11 (n := 2048) rfl hL)
    go_enter Try.func29, Try.ntmps29
    go_wp2
    go_ret
    exact ⟨ret_bool (by have h := H.out; simpa using h), rfl⟩
  · have H := Lib.hid (has_val 12 (n := 4096) rfl hL)
    go_enter Try.func29, Try.ntmps29
    go_wp2
    go_ret
    exact ⟨ret_bool (by have h := H.out; simpa using h), rfl⟩
set_option maxHeartbeats 1600000 in
theorem minus_any (L f : Nat) (w : World) (hL : L < 8192) (hf : f < 13) :
    Calls Try.prog 31 #[.int .i64 (L : Int), .int .i64 (f : Int)] w fun e w' => e = .returned (.int .i64 (clr L f : Nat)) ∧ w = w' := by
  rcases cases13 hf with rfl | rfl | rfl | rfl | rfl | rfl | rfl | rfl | rfl | rfl | rfl | rfl | rfl
  · have H := Lib.hid (bits_andNot (f := 0) hL (by decide))
    go_enter Try.func31, Try.ntmps31
    go_wp2
    go_ret
    exact ⟨ret_int (by have h := H.out; simpa using h), rfl⟩
  · have H := Lib.hid (bits_andNot (f := 1) hL (by decide))
    go_enter Try.func31, Try.ntmps31
    go_wp2
    go_ret
    exact ⟨ret_int (by have h := H.out; simpa using h), rfl⟩
  · have H := Lib.hid (bits_andNot (f := 2) hL (by decide))
    go_enter Try.func31, Try.ntmps31
    go_wp2
    go_ret
    exact ⟨ret_int (by have h := H.out; simpa using h), rfl⟩
  · have H := Lib.hid (bits_andNot (f := 3) hL (by decide))
    go_enter Try.func31, Try.ntmps31
    go_wp2
    go_ret
    exact ⟨ret_int (by have h := H.out; simpa using h), rfl⟩
  · have H := Lib.hid (bits_andNot (f := 4) hL (by decide))
    go_enter Try.func31, Try.ntmps31
    go_wp2
    go_ret
    exact ⟨ret_int (by have h := H.out; simpa using h), rfl⟩
  · have H := Lib.hid (bits_andNot (f := 5) hL (by decide))
    go_enter Try.func31, Try.ntmps31
    go_wp2
    go_ret
    exact ⟨ret_int (by have h := H.out; simpa using h), rfl⟩
  · have H := Lib.hid (bits_andNot (f := 6) hL (by decide))
    go_enter Try.func31, Try.ntmps31
    go_wp2
    go_ret
    exact ⟨ret_int (by have h := H.out; simpa using h), rfl⟩
  · have H := Lib.hid (bits_andNot (f := 7) hL (by decide))
    go_enter Try.func31, Try.ntmps31
    go_wp2
    go_ret
    exact ⟨ret_int (by have h := H.out; simpa using h), rfl⟩
  · have H := Lib.hid (bits_andNot (f := 8) hL (by decide))
    go_enter Try.func31, Try.ntmps31
    go_wp2
    go_ret
    exact ⟨ret_int (by have h := H.out; simpa using h), rfl⟩
  · have H := Lib.hid (bits_andNot (f := 9) hL (by decide))
    go_enter Try.func31, Try.ntmps31
    go_wp2
    go_ret
    exact ⟨ret_int (by have h := H.out; simpa using h), rfl⟩
  · have H := Lib.hid (bits_andNot (f := 10) hL (by decide))
    go_enter Try.func31, Try.ntmps31
    go_wp2
    go_ret
    exact ⟨ret_int (by have h := H.out; simpa using h), rfl⟩
  · have H := Lib.hid (bits_andNot (f := 11) hL (by decide))
    go_enter Try.func31, Try.ntmps31
    go_wp2
    go_ret
    exact ⟨ret_int (by have h := H.out; simpa using h), rfl⟩
  · have H := Lib.hid (bits_andNot (f := 12) hL (by decide))
    go_enter Try.func31, Try.ntmps31
    go_wp2
    go_ret
    exact ⟨ret_int (by have h := H.out; simpa using h), rfl⟩
set_option maxHeartbeats 1600000 in
theorem plus_any (L f : Nat) (w : World) (hL : L < 8192) (hf : f < 13) :
    Calls Try.prog 27 #[.int .i64 (L : Int), .int .i64 (f : Int)] w fun e w' => e = .returned (.int .i64 (pls L f : Nat)) ∧ w = w' := by
  rcases cases13 hf with rfl | rfl | rfl | rfl | rfl | rfl | rfl | rfl | rfl | rfl | rfl | rfl | rfl
  · have H := Lib.hid (bits_or (f := 0) hL (by decide))
    go_enter Try.func27, Try.ntmps27
    go_wp2
    go_ret
    exact ⟨ret_int (by have h := H.out; simpa using h), rfl⟩
  · have H := Lib.hid (bits_or (f := 1) hL (by decide))
    go_enter Try.func27, Try.ntmps27
    go_wp2
    go_ret
    exact ⟨ret_int (by have h := H.out; simpa using h), rfl⟩
  · have H := Lib.hid (bits_or (f := 2) hL (by decide))
    go_enter Try.func27, Try.ntmps27
    go_wp2
    go_ret
    exact ⟨ret_int (by have h := H.out; simpa using h), rfl⟩
  · have H := Lib.hid (bits_or (f := 3) hL (by decide))
    go_enter Try.func27, Try.ntmps27
    go_wp2
    go_ret
    exact ⟨ret_int (by have h := H.out; simpa using h), rfl⟩
  · have H := Lib.hid (bits_or (f := 4) hL (by decide))
    go_enter Try.func27, Try.ntmps27
    go_wp2
    go_ret
    exact ⟨ret_int (by have h := H.out; simpa using h), rfl⟩
  · have H := Lib.hid (bits_or (f := 5) hL (by decide))
    go_enter Try.func27, Try.ntmps27
    go_wp2
    go_ret
    exact ⟨ret_int (by have h := H.out; simpa using h), rfl⟩
  · have H := Lib.hid (bits_or (f := 6) hL (by decide))
    go_enter Try.func27, Try.ntmps27
    go_wp2
    go_ret
    exact ⟨ret_int (by have h := H.out; simpa using h), rfl⟩
  · have H := Lib.hid (bits_or (f := 7) hL (by decide))
    go_enter Try.func27, Try.ntmps27
    go_wp2
    go_ret
    exact ⟨ret_int (by have h := H.out; simpa using h), rfl⟩
  · have H := Lib.hid (bits_or (f := 8) hL (by decide))
    go_enter Try.func27, Try.ntmps27
    go_wp2
    go_ret
    exact ⟨ret_int (by have h := H.out; simpa using h), rfl⟩
  · have H := Lib.hid (bits_or (f := 9) hL (by decide))
    go_enter Try.func27, Try.ntmps27
    go_wp2
    go_ret
    exact ⟨ret_int (by have h := H.out; simpa using h), rfl⟩
  · have H := Lib.hid (bits_or (f := 10) hL (by decide))
    go_enter Try.func27, Try.ntmps27
    go_wp2
    go_ret
    exact ⟨ret_int (by have h := H.out; simpa using h), rfl⟩
  · have H := Lib.hid (bits_or (f := 11) hL (by decide))
    go_enter Try.func27, Try.ntmps27
    go_wp2
    go_ret
    exact ⟨ret_int (by have h := H.out; simpa using h), rfl⟩
  · have H := Lib.hid (bits_or (f := 12) hL (by decide))
    go_enter Try.func27, Try.ntmps27
    go_wp2
    go_ret
    exact ⟨ret_int (by have h := H.out; simpa using h), rfl⟩
set_option maxHeartbeats 400000 in
theorem may_any (f p : Nat) (w : World) (hf : f < 13) (hp : p < 9) :
    Calls Try.prog 30 #[.int .i64 (f : Int), .int .i64 (p : Int)] w fun e w' => e = .returned (.bool (mayB f p)) ∧ w = w' := by
  go_enter Try.func30, Try.ntmps30
  go_wp2
  all_goals (go_ret; exact ⟨ret_bool (by unfold mayB; rw [Bool.eq_iff_iff]; simp; try omega), rfl⟩)
set_option maxHeartbeats 400000 in
theorem meaning_any (f : Nat) (d : List Nat) (A : Option Addr) (n c : Nat) (w : World) (hf : f < 13) (hn : n = d.length) (hA : Sl w A n (gI d)) (h : f < 10 + n) :
    Calls Try.prog 32 #[.int .i64 (f : Int), .slice A n c] w fun e w' => e = .returned (.int .i64 (digF f d : Nat)) ∧ w = w' := by
  by_cases h10 : f < 10
  · go_enter Try.func32, Try.ntmps32
    go_wp2
    all_goals first | omega | skip
    go_ret
    exact ⟨ret_int (by unfold digF; rw [if_pos h10]), rfl⟩
  · obtain ⟨b, off, rfl, hb, hc⟩ := hA (by omega)
    have c1 := hc (f - 10) (by omega)
    have e1 : (f : Int) - 10 = ((f - 10 : Nat) : Int) := by omega
    obtain ⟨g, hg⟩ : ∃ g, g = f - 10 := ⟨_, rfl⟩
    obtain rfl : f = g + 10 := by omega
    rw [← hg] at c1
    clear hc hg e1
    have H := Lib.hid hn
    clear hn
    have i1 : (((g + 10 : Nat) : Int) - 10).toNat = g := by omega
    have i2 : g < n := by omega
    have i3 : (0 : Int) ≤ ((g + 10 : Nat) : Int) - 10 := by omega
    have i4 : ((g + 10 : Nat) : Int) - 10 < (n : Int) := by omega
    go_enter Try.func32, Try.ntmps32
    go_wp2
    all_goals first | omega | skip
    go_ret
    exact ⟨ret_int (by unfold digF gI; rw [if_neg h10]; simp), rfl⟩
theorem isLength_any (n : Int) (w : World) : Calls Try.prog 28 #[.int .i64 n] w fun e w' => e = .returned (.bool (inB n 1 4)) ∧ w = w' := by
  go_enter Try.func28, Try.ntmps28
  go_wp2
  all_goals (go_ret; exact ⟨ret_bool (by unfold inB; rw [Bool.eq_iff_iff]; simp; try omega), rfl⟩)
theorem isSet_any (n : Int) (w : World) : Calls Try.prog 33 #[.int .i64 n] w fun e w' => e = .returned (.bool (inB n 0 8191)) ∧ w = w' := by
  go_enter Try.func33, Try.ntmps33
  go_wp2
  all_goals (go_ret; exact ⟨ret_bool (by unfold inB; rw [Bool.eq_iff_iff]; simp; try omega), rfl⟩)
end Go.Proofs.Ytdikflklkmfcfaa
