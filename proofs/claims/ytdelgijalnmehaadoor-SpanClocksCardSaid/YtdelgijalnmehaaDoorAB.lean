/-
  The reading of a time of the day.
-/
import Derived.Test.YtdelgijalnmehaaDoorAA
import Derived.Laws.StructEq
import Derived.MapKept
namespace Go.Proofs.YtdelgijalnmehaaDoor
open Go.RowKit Go.Sort
set_option linter.unusedSimpArgs false
set_option linter.unusedVariables false

/-- What two or three bytes make as digits. -/
def numS (s : ByteArray) : Int := match s.data.toList with
  | [a, b] => num2 a b
  | [a, b, c] => num3 a b c
  | _ => 0
theorem num2_bd (a b : UInt8) : -528 ≤ num2 a b ∧ num2 a b ≤ 2277 := by
  have := u8_lt a
  have := u8_lt b
  unfold num2; omega
theorem num3_bd (a b c : UInt8) : -5328 ≤ num3 a b c ∧ num3 a b c ≤ 22977 := by
  have := u8_lt a
  have := u8_lt b
  have := u8_lt c
  unfold num3; omega

set_option maxHeartbeats 1600000 in
theorem parse_other (s : ByteArray) (w : World) (h : s.size ≠ 12) (hl : s.size ≤ 9223372036854775807) :
    Calls Tryd.prog 14 #[.string s] w fun e w' => e = .returned (.tuple #[.int .i64 0, .int .i64 2]) ∧ w = w' := by
  have h' : ((s.size : Int) == 12) = false := by simp; omega
  have h2 : ((s.size : Int) != 12) = true := by simp; omega
  go_enter Tryd.func14, Tryd.ntmps14
  go_wp2
  go_ret2
  exact ⟨rfl, rfl⟩

set_option maxHeartbeats 1600000 in
theorem rparse_other (s : ByteArray) (w : World) (h : s.size ≠ 12) (hl : s.size ≤ 9223372036854775807) :
    Calls Tryd.prog 15 #[.string s] w fun e w' => e = .returned (.tuple #[.int .i64 0, .int .i64 2]) ∧ w = w' := by
  have h' : ((s.size : Int) == 12) = false := by simp; omega
  have h2 : ((s.size : Int) != 12) = true := by simp; omega
  go_enter Tryd.func15, Tryd.ntmps15
  go_wp2
  go_ret2
  exact ⟨rfl, rfl⟩

theorem numS_bd (s : ByteArray) : -5328 ≤ numS s ∧ numS s ≤ 22977 := by
  unfold numS
  split
  · rename_i a b _; have := num2_bd a b; omega
  · exact num3_bd _ _ _
  · omega
theorem number_any (s : ByteArray) (w : World) (h : s.size = 2 ∨ s.size = 3) :
    Calls Tryd.prog 31 #[.string s] w fun e w' => e = .returned (.int .i64 (numS s)) ∧ w' = w := by
  obtain ⟨⟨l⟩⟩ := s
  rcases h with h | h
  · match l, h with
    | [a, b], _ => exact (number2_any a b w).mono fun _ _ ⟨he, hw⟩ => ⟨he, hw.symm⟩
  · match l, h with
    | [a, b, c], _ => exact (number3_any a b c w).mono fun _ _ ⟨he, hw⟩ => ⟨he, hw.symm⟩

/-- What the twelve bytes of a text make. -/
def msC (s : ByteArray) : Int := numS (s.extract 0 2) * 3600000 + numS (s.extract 3 5) * 60000 + numS (s.extract 6 8) * 1000 + numS (s.extract 9 12)
theorem ext_size (s : ByteArray) (a b : Nat) (h : s.size = 12) (hb : b ≤ 12) : (s.extract a b).size = b - a := by
  rw [ByteArray.size_extract]; omega

theorem tl_ne {a b : ByteArray} (h : a ≠ b) : (a.toList == b.toList) = false := by
  rw [← beq_toListBytes]
  rw [Bool.eq_false_iff]
  exact fun e => h ((Go.MapKept.bytes_beq a b).1 e)
theorem tl_refl (a : ByteArray) : (a.toList == a.toList) = true := by simp

set_option maxHeartbeats 400000 in
theorem parse_no (s : ByteArray) (w : World) (hT : TP w) (h12 : s.size = 12) (h : ∀ n, n < 86400000 → (⟨(clk n).toArray⟩ : ByteArray) ≠ s) :
    Calls Tryd.prog 14 #[.string s] w fun e w' => e = .returned (.tuple #[.int .i64 0, .int .i64 2]) ∧ Bl w w' := by
  have HT := Lib.hid hT
  have HH := Lib.hid h
  have H12 := Lib.hid h12
  have k1 := Nat.le_of_eq H12.out.symm
  have k2 := Nat.le_of_eq H12.out
  have h' : ((s.size : Int) != 12) = false := by simp; omega
  clear hT h h12
  obtain ⟨x1, x2⟩ := numS_bd (s.extract 0 2)
  obtain ⟨y1, y2⟩ := numS_bd (s.extract 3 5)
  obtain ⟨z1, z2⟩ := numS_bd (s.extract 6 8)
  obtain ⟨v1, v2⟩ := numS_bd (s.extract 9 12)
  go_enter Tryd.func14, Tryd.ntmps14
  go_wp2
  go_quiet ((go_at_call 31; exact Calls.quiet_of_same (number_any _ _ (by rw [ext_size _ _ _ H12.out (by omega)]; omega))))
  go_wp2_with fail
  generalize numS (s.extract 0 2) * 3600000 + numS (s.extract 3 5) * 60000 + numS (s.extract 6 8) * 1000 + numS (s.extract 9 12) = m
  by_cases hm : 0 ≤ m ∧ m < 86400000
  · obtain ⟨m1, m2⟩ := hm
    refine (clock_ok _ _ m1 m2 (HT.out.below (Bl.dn _ _))).mono ?_
    rintro e w1 ⟨rfl, hb⟩
    have hne := tl_ne (HH.out m.toNat (by omega))
    have B1 : Bl w w1 := Bl.tr (Bl.dn _ _) hb
    generalize (⟨(clk m.toNat).toArray⟩ : ByteArray) = c at hne ⊢
    clear hb
    go_wp2
    go_ret2
    exact ⟨rfl, B1⟩
  · refine (clock_no _ _ (by omega)).mono ?_
    rintro e w1 ⟨rfl, rfl⟩
    have hne : ((⟨#[]⟩ : ByteArray).toList == s.toList) = false := tl_ne (fun e => by rw [← e] at k1; exact absurd k1 (by decide))
    generalize (⟨#[]⟩ : ByteArray) = c at hne ⊢
    go_wp2
    go_ret2
    exact ⟨rfl, Bl.dn _ _⟩

set_option maxHeartbeats 400000 in
theorem parse_yes (s : ByteArray) (m : Int) (w : World) (hT : TP w) (h12 : s.size = 12) (h : msC s = m) (m1 : 0 ≤ m) (m2 : m < 86400000) (hc : (⟨(clk m.toNat).toArray⟩ : ByteArray) = s) :
    Calls Tryd.prog 14 #[.string s] w fun e w' => e = .returned (.tuple #[.int .i64 m, .int .i64 0]) ∧ Bl w w' := by
  have HT := Lib.hid hT
  have HH := Lib.hid h
  have HC := Lib.hid hc
  have H12 := Lib.hid h12
  have k1 := Nat.le_of_eq H12.out.symm
  have k2 := Nat.le_of_eq H12.out
  have h' : ((s.size : Int) != 12) = false := by simp; omega
  clear hT h h12 hc
  obtain ⟨x1, x2⟩ := numS_bd (s.extract 0 2)
  obtain ⟨y1, y2⟩ := numS_bd (s.extract 3 5)
  obtain ⟨z1, z2⟩ := numS_bd (s.extract 6 8)
  obtain ⟨v1, v2⟩ := numS_bd (s.extract 9 12)
  go_enter Tryd.func14, Tryd.ntmps14
  go_wp2
  go_quiet ((go_at_call 31; exact Calls.quiet_of_same (number_any _ _ (by rw [ext_size _ _ _ H12.out (by omega)]; omega))))
  go_wp2_with fail
  rw [show numS (s.extract 0 2) * 3600000 + numS (s.extract 3 5) * 60000 + numS (s.extract 6 8) * 1000 + numS (s.extract 9 12) = m from HH.out]
  refine (clock_ok _ _ m1 m2 (HT.out.below (Bl.dn _ _))).mono ?_
  rintro e w1 ⟨rfl, hb⟩
  rw [HC.out]
  have B1 : Bl w w1 := Bl.tr (Bl.dn _ _) hb
  clear hb
  go_wp2
  go_ret2
  exact ⟨rfl, B1⟩

theorem tab0 (w : World) : (Instr.index 54 (.agg #[.int .i64 36000000, .int .i64 3600000, .int .i64 0, .int .i64 600000, .int .i64 60000, .int .i64 0, .int .i64 10000, .int .i64 1000, .int .i64 0, .int .i64 100, .int .i64 10, .int .i64 1]) (.int .i64 0)).run Tryd.prog w = .ok (.int .i64 36000000) w := by kernel_rfl
theorem tab1 (w : World) : (Instr.index 54 (.agg #[.int .i64 36000000, .int .i64 3600000, .int .i64 0, .int .i64 600000, .int .i64 60000, .int .i64 0, .int .i64 10000, .int .i64 1000, .int .i64 0, .int .i64 100, .int .i64 10, .int .i64 1]) (.int .i64 1)).run Tryd.prog w = .ok (.int .i64 3600000) w := by kernel_rfl
theorem tab2 (w : World) : (Instr.index 54 (.agg #[.int .i64 36000000, .int .i64 3600000, .int .i64 0, .int .i64 600000, .int .i64 60000, .int .i64 0, .int .i64 10000, .int .i64 1000, .int .i64 0, .int .i64 100, .int .i64 10, .int .i64 1]) (.int .i64 2)).run Tryd.prog w = .ok (.int .i64 0) w := by kernel_rfl
theorem tab3 (w : World) : (Instr.index 54 (.agg #[.int .i64 36000000, .int .i64 3600000, .int .i64 0, .int .i64 600000, .int .i64 60000, .int .i64 0, .int .i64 10000, .int .i64 1000, .int .i64 0, .int .i64 100, .int .i64 10, .int .i64 1]) (.int .i64 3)).run Tryd.prog w = .ok (.int .i64 600000) w := by kernel_rfl
theorem tab4 (w : World) : (Instr.index 54 (.agg #[.int .i64 36000000, .int .i64 3600000, .int .i64 0, .int .i64 600000, .int .i64 60000, .int .i64 0, .int .i64 10000, .int .i64 1000, .int .i64 0, .int .i64 100, .int .i64 10, .int .i64 1]) (.int .i64 4)).run Tryd.prog w = .ok (.int .i64 60000) w := by kernel_rfl
theorem tab5 (w : World) : (Instr.index 54 (.agg #[.int .i64 36000000, .int .i64 3600000, .int .i64 0, .int .i64 600000, .int .i64 60000, .int .i64 0, .int .i64 10000, .int .i64 1000, .int .i64 0, .int .i64 100, .int .i64 10, .int .i64 1]) (.int .i64 5)).run Tryd.prog w = .ok (.int .i64 0) w := by kernel_rfl
theorem tab6 (w : World) : (Instr.index 54 (.agg #[.int .i64 36000000, .int .i64 3600000, .int .i64 0, .int .i64 600000, .int .i64 60000, .int .i64 0, .int .i64 10000, .int .i64 1000, .int .i64 0, .int .i64 100, .int .i64 10, .int .i64 1]) (.int .i64 6)).run Tryd.prog w = .ok (.int .i64 10000) w := by kernel_rfl
theorem tab7 (w : World) : (Instr.index 54 (.agg #[.int .i64 36000000, .int .i64 3600000, .int .i64 0, .int .i64 600000, .int .i64 60000, .int .i64 0, .int .i64 10000, .int .i64 1000, .int .i64 0, .int .i64 100, .int .i64 10, .int .i64 1]) (.int .i64 7)).run Tryd.prog w = .ok (.int .i64 1000) w := by kernel_rfl
theorem tab8 (w : World) : (Instr.index 54 (.agg #[.int .i64 36000000, .int .i64 3600000, .int .i64 0, .int .i64 600000, .int .i64 60000, .int .i64 0, .int .i64 10000, .int .i64 1000, .int .i64 0, .int .i64 100, .int .i64 10, .int .i64 1]) (.int .i64 8)).run Tryd.prog w = .ok (.int .i64 0) w := by kernel_rfl
theorem tab9 (w : World) : (Instr.index 54 (.agg #[.int .i64 36000000, .int .i64 3600000, .int .i64 0, .int .i64 600000, .int .i64 60000, .int .i64 0, .int .i64 10000, .int .i64 1000, .int .i64 0, .int .i64 100, .int .i64 10, .int .i64 1]) (.int .i64 9)).run Tryd.prog w = .ok (.int .i64 100) w := by kernel_rfl
theorem tab10 (w : World) : (Instr.index 54 (.agg #[.int .i64 36000000, .int .i64 3600000, .int .i64 0, .int .i64 600000, .int .i64 60000, .int .i64 0, .int .i64 10000, .int .i64 1000, .int .i64 0, .int .i64 100, .int .i64 10, .int .i64 1]) (.int .i64 10)).run Tryd.prog w = .ok (.int .i64 10) w := by kernel_rfl
theorem tab11 (w : World) : (Instr.index 54 (.agg #[.int .i64 36000000, .int .i64 3600000, .int .i64 0, .int .i64 600000, .int .i64 60000, .int .i64 0, .int .i64 10000, .int .i64 1000, .int .i64 0, .int .i64 100, .int .i64 10, .int .i64 1]) (.int .i64 11)).run Tryd.prog w = .ok (.int .i64 1) w := by kernel_rfl
/-- A byte's worth as a digit, as the reference reads it. -/
def dR (s : ByteArray) (i : Nat) : Int := ((s.data.toList.getD i 0).toNat % 48 : Nat)
theorem dR_bd (s : ByteArray) (i : Nat) : 0 ≤ dR s i ∧ dR s i ≤ 47 := by unfold dR; omega
def msR (s : ByteArray) : Int := dR s 0 * 36000000 + dR s 1 * 3600000 + dR s 3 * 600000 + dR s 4 * 60000 + dR s 6 * 10000 + dR s 7 * 1000 + dR s 9 * 100 + dR s 10 * 10 + dR s 11
theorem dR_at (s : ByteArray) (i : Nat) (h : i < s.size) : (wrap64 ((s[i]'h).toNat : Int)).tmod 48 = dR s i := by
  have e : s.data.toList.getD i 0 = s[i]'h := by
    rw [List.getD_eq_getElem?_getD, Array.getElem?_toList, Array.getElem?_eq_getElem (by exact h)]; rfl
  have hb := u8_lt (s[i]'h)
  rw [IntWalk.wrap64_in _ (by omega), Int.tmod_eq_emod_of_nonneg hb.2]
  unfold dR
  rw [e]; rfl
theorem cR (s : ByteArray) (i : Nat) (W : Int) (h : i < s.size) (h0 : 0 ≤ W) (h1 : W ≤ 36000000) : wrap64 ((wrap64 ((s[i]'h).toNat : Int)).tmod 48 * W) = dR s i * W := by
  rw [dR_at s i h]
  have ⟨a, b⟩ := dR_bd s i
  have l : dR s i * W ≤ 47 * 36000000 := Int.mul_le_mul b h1 h0 (by omega)
  have l0 : 0 ≤ dR s i * W := Int.mul_nonneg a h0
  exact IntWalk.wrap64_in _ (by omega)
theorem cR1 (s : ByteArray) (i : Nat) (h : i < s.size) : wrap64 ((wrap64 ((s[i]'h).toNat : Int)).tmod 48) = dR s i := by
  rw [dR_at s i h]
  have ⟨a, b⟩ := dR_bd s i
  exact IntWalk.wrap64_in _ (by omega)

set_option maxHeartbeats 1600000 in
theorem rparse_no (s : ByteArray) (w : World) (h12 : s.size = 12) (h : ∀ n, n < 86400000 → (⟨(clk n).toArray⟩ : ByteArray) ≠ s) :
    Calls Tryd.prog 15 #[.string s] w fun e w' => e = .returned (.tuple #[.int .i64 0, .int .i64 2]) ∧ Bl w w' := by
  have HH := Lib.hid h
  have H12 := Lib.hid h12
  have k1 := Nat.le_of_eq H12.out.symm
  have k2 := Nat.le_of_eq H12.out
  have h' : ((s.size : Int) != 12) = false := by simp; omega
  clear h h12
  have t0 := tab0
  have t1 := tab1
  have t2 := tab2
  have t3 := tab3
  have t4 := tab4
  have t5 := tab5
  have t6 := tab6
  have t7 := tab7
  have t8 := tab8
  have t9 := tab9
  have t10 := tab10
  have t11 := tab11
  obtain ⟨c0, hc0, g0, l0, HC0⟩ : ∃ c, wrap64 ((wrap64 ((s[0]'(by omega)).toNat : Int)).tmod 48 * 36000000) = c ∧ 0 ≤ c ∧ c ≤ 1692000000 ∧ Hid (c = dR s 0 * 36000000) := ⟨_, rfl, by rw [cR s 0 36000000 (by omega) (by omega) (by omega)]; have := dR_bd s 0; omega, by rw [cR s 0 36000000 (by omega) (by omega) (by omega)]; have := dR_bd s 0; omega, cR s 0 36000000 (by omega) (by omega) (by omega)⟩
  obtain ⟨c1, hc1, g1, l1, HC1⟩ : ∃ c, wrap64 ((wrap64 ((s[1]'(by omega)).toNat : Int)).tmod 48 * 3600000) = c ∧ 0 ≤ c ∧ c ≤ 169200000 ∧ Hid (c = dR s 1 * 3600000) := ⟨_, rfl, by rw [cR s 1 3600000 (by omega) (by omega) (by omega)]; have := dR_bd s 1; omega, by rw [cR s 1 3600000 (by omega) (by omega) (by omega)]; have := dR_bd s 1; omega, cR s 1 3600000 (by omega) (by omega) (by omega)⟩
  obtain ⟨c3, hc3, g3, l3, HC3⟩ : ∃ c, wrap64 ((wrap64 ((s[3]'(by omega)).toNat : Int)).tmod 48 * 600000) = c ∧ 0 ≤ c ∧ c ≤ 28200000 ∧ Hid (c = dR s 3 * 600000) := ⟨_, rfl, by rw [cR s 3 600000 (by omega) (by omega) (by omega)]; have := dR_bd s 3; omega, by rw [cR s 3 600000 (by omega) (by omega) (by omega)]; have := dR_bd s 3; omega, cR s 3 600000 (by omega) (by omega) (by omega)⟩
  obtain ⟨c4, hc4, g4, l4, HC4⟩ : ∃ c, wrap64 ((wrap64 ((s[4]'(by omega)).toNat : Int)).tmod 48 * 60000) = c ∧ 0 ≤ c ∧ c ≤ 2820000 ∧ Hid (c = dR s 4 * 60000) := ⟨_, rfl, by rw [cR s 4 60000 (by omega) (by omega) (by omega)]; have := dR_bd s 4; omega, by rw [cR s 4 60000 (by omega) (by omega) (by omega)]; have := dR_bd s 4; omega, cR s 4 60000 (by omega) (by omega) (by omega)⟩
  obtain ⟨c6, hc6, g6, l6, HC6⟩ : ∃ c, wrap64 ((wrap64 ((s[6]'(by omega)).toNat : Int)).tmod 48 * 10000) = c ∧ 0 ≤ c ∧ c ≤ 470000 ∧ Hid (c = dR s 6 * 10000) := ⟨_, rfl, by rw [cR s 6 10000 (by omega) (by omega) (by omega)]; have := dR_bd s 6; omega, by rw [cR s 6 10000 (by omega) (by omega) (by omega)]; have := dR_bd s 6; omega, cR s 6 10000 (by omega) (by omega) (by omega)⟩
  obtain ⟨c7, hc7, g7, l7, HC7⟩ : ∃ c, wrap64 ((wrap64 ((s[7]'(by omega)).toNat : Int)).tmod 48 * 1000) = c ∧ 0 ≤ c ∧ c ≤ 47000 ∧ Hid (c = dR s 7 * 1000) := ⟨_, rfl, by rw [cR s 7 1000 (by omega) (by omega) (by omega)]; have := dR_bd s 7; omega, by rw [cR s 7 1000 (by omega) (by omega) (by omega)]; have := dR_bd s 7; omega, cR s 7 1000 (by omega) (by omega) (by omega)⟩
  obtain ⟨c9, hc9, g9, l9, HC9⟩ : ∃ c, wrap64 ((wrap64 ((s[9]'(by omega)).toNat : Int)).tmod 48 * 100) = c ∧ 0 ≤ c ∧ c ≤ 4700 ∧ Hid (c = dR s 9 * 100) := ⟨_, rfl, by rw [cR s 9 100 (by omega) (by omega) (by omega)]; have := dR_bd s 9; omega, by rw [cR s 9 100 (by omega) (by omega) (by omega)]; have := dR_bd s 9; omega, cR s 9 100 (by omega) (by omega) (by omega)⟩
  obtain ⟨c10, hc10, g10, l10, HC10⟩ : ∃ c, wrap64 ((wrap64 ((s[10]'(by omega)).toNat : Int)).tmod 48 * 10) = c ∧ 0 ≤ c ∧ c ≤ 470 ∧ Hid (c = dR s 10 * 10) := ⟨_, rfl, by rw [cR s 10 10 (by omega) (by omega) (by omega)]; have := dR_bd s 10; omega, by rw [cR s 10 10 (by omega) (by omega) (by omega)]; have := dR_bd s 10; omega, cR s 10 10 (by omega) (by omega) (by omega)⟩
  obtain ⟨c11, hc11, g11, l11, HC11⟩ : ∃ c, wrap64 ((wrap64 ((s[11]'(by omega)).toNat : Int)).tmod 48) = c ∧ 0 ≤ c ∧ c ≤ 47 ∧ Hid (c = dR s 11) := ⟨_, rfl, by rw [cR1 s 11 (by omega)]; have := dR_bd s 11; omega, by rw [cR1 s 11 (by omega)]; have := dR_bd s 11; omega, cR1 s 11 (by omega)⟩
  have HM : Hid (c0 + c1 + c3 + c4 + c6 + c7 + c9 + c10 + c11 = msR s) := by
    show _ = msR s
    unfold msR
    rw [HC0.out, HC1.out, HC3.out, HC4.out, HC6.out, HC7.out, HC9.out, HC10.out, HC11.out]
  go_enter Tryd.func15, Tryd.ntmps15
  go_wp2
  refine wp_loop_rounds 13 ?_
  rw [rounds_succ]
  go_wp2_with fail
  rw [rounds_succ]
  go_wp2_with fail
  rw [rounds_succ]
  go_wp2_with fail
  rw [rounds_succ]
  go_wp2_with fail
  rw [rounds_succ]
  go_wp2_with fail
  rw [rounds_succ]
  go_wp2_with fail
  rw [rounds_succ]
  go_wp2_with fail
  rw [rounds_succ]
  go_wp2_with fail
  rw [rounds_succ]
  go_wp2_with fail
  rw [rounds_succ]
  go_wp2_with fail
  rw [rounds_succ]
  go_wp2_with fail
  rw [rounds_succ]
  go_wp2_with fail
  rw [rounds_succ]
  go_wp2_with fail
  generalize c0 + c1 + c3 + c4 + c6 + c7 + c9 + c10 + c11 = m
  by_cases hm : 0 ≤ m ∧ m < 86400000
  · obtain ⟨m1, m2⟩ := hm
    refine (rclock_ok _ _ m1 m2).mono ?_
    rintro e w1 ⟨rfl, hb⟩
    have hne := tl_ne (HH.out m.toNat (by omega))
    generalize (⟨(clk m.toNat).toArray⟩ : ByteArray) = c at hne ⊢
    go_wp2
    go_ret2
    exact ⟨rfl, hb⟩
  · refine (rclock_no _ _ (by omega)).mono ?_
    rintro e w1 ⟨rfl, hb⟩
    have hne : ((⟨#[]⟩ : ByteArray).toList == s.toList) = false := tl_ne (fun e => by rw [← e] at k1; exact absurd k1 (by decide))
    generalize (⟨#[]⟩ : ByteArray) = c at hne ⊢
    go_wp2
    go_ret2
    exact ⟨rfl, hb⟩

set_option maxHeartbeats 1600000 in
theorem rparse_yes (s : ByteArray) (m : Int) (w : World) (h12 : s.size = 12) (h : msR s = m) (m1 : 0 ≤ m) (m2 : m < 86400000) (hc : (⟨(clk m.toNat).toArray⟩ : ByteArray) = s) :
    Calls Tryd.prog 15 #[.string s] w fun e w' => e = .returned (.tuple #[.int .i64 m, .int .i64 0]) ∧ Bl w w' := by
  have HH := Lib.hid h
  have HX := Lib.hid hc
  clear hc
  have H12 := Lib.hid h12
  have k1 := Nat.le_of_eq H12.out.symm
  have k2 := Nat.le_of_eq H12.out
  have h' : ((s.size : Int) != 12) = false := by simp; omega
  clear h h12
  have t0 := tab0
  have t1 := tab1
  have t2 := tab2
  have t3 := tab3
  have t4 := tab4
  have t5 := tab5
  have t6 := tab6
  have t7 := tab7
  have t8 := tab8
  have t9 := tab9
  have t10 := tab10
  have t11 := tab11
  obtain ⟨c0, hc0, g0, l0, HC0⟩ : ∃ c, wrap64 ((wrap64 ((s[0]'(by omega)).toNat : Int)).tmod 48 * 36000000) = c ∧ 0 ≤ c ∧ c ≤ 1692000000 ∧ Hid (c = dR s 0 * 36000000) := ⟨_, rfl, by rw [cR s 0 36000000 (by omega) (by omega) (by omega)]; have := dR_bd s 0; omega, by rw [cR s 0 36000000 (by omega) (by omega) (by omega)]; have := dR_bd s 0; omega, cR s 0 36000000 (by omega) (by omega) (by omega)⟩
  obtain ⟨c1, hc1, g1, l1, HC1⟩ : ∃ c, wrap64 ((wrap64 ((s[1]'(by omega)).toNat : Int)).tmod 48 * 3600000) = c ∧ 0 ≤ c ∧ c ≤ 169200000 ∧ Hid (c = dR s 1 * 3600000) := ⟨_, rfl, by rw [cR s 1 3600000 (by omega) (by omega) (by omega)]; have := dR_bd s 1; omega, by rw [cR s 1 3600000 (by omega) (by omega) (by omega)]; have := dR_bd s 1; omega, cR s 1 3600000 (by omega) (by omega) (by omega)⟩
  obtain ⟨c3, hc3, g3, l3, HC3⟩ : ∃ c, wrap64 ((wrap64 ((s[3]'(by omega)).toNat : Int)).tmod 48 * 600000) = c ∧ 0 ≤ c ∧ c ≤ 28200000 ∧ Hid (c = dR s 3 * 600000) := ⟨_, rfl, by rw [cR s 3 600000 (by omega) (by omega) (by omega)]; have := dR_bd s 3; omega, by rw [cR s 3 600000 (by omega) (by omega) (by omega)]; have := dR_bd s 3; omega, cR s 3 600000 (by omega) (by omega) (by omega)⟩
  obtain ⟨c4, hc4, g4, l4, HC4⟩ : ∃ c, wrap64 ((wrap64 ((s[4]'(by omega)).toNat : Int)).tmod 48 * 60000) = c ∧ 0 ≤ c ∧ c ≤ 2820000 ∧ Hid (c = dR s 4 * 60000) := ⟨_, rfl, by rw [cR s 4 60000 (by omega) (by omega) (by omega)]; have := dR_bd s 4; omega, by rw [cR s 4 60000 (by omega) (by omega) (by omega)]; have := dR_bd s 4; omega, cR s 4 60000 (by omega) (by omega) (by omega)⟩
  obtain ⟨c6, hc6, g6, l6, HC6⟩ : ∃ c, wrap64 ((wrap64 ((s[6]'(by omega)).toNat : Int)).tmod 48 * 10000) = c ∧ 0 ≤ c ∧ c ≤ 470000 ∧ Hid (c = dR s 6 * 10000) := ⟨_, rfl, by rw [cR s 6 10000 (by omega) (by omega) (by omega)]; have := dR_bd s 6; omega, by rw [cR s 6 10000 (by omega) (by omega) (by omega)]; have := dR_bd s 6; omega, cR s 6 10000 (by omega) (by omega) (by omega)⟩
  obtain ⟨c7, hc7, g7, l7, HC7⟩ : ∃ c, wrap64 ((wrap64 ((s[7]'(by omega)).toNat : Int)).tmod 48 * 1000) = c ∧ 0 ≤ c ∧ c ≤ 47000 ∧ Hid (c = dR s 7 * 1000) := ⟨_, rfl, by rw [cR s 7 1000 (by omega) (by omega) (by omega)]; have := dR_bd s 7; omega, by rw [cR s 7 1000 (by omega) (by omega) (by omega)]; have := dR_bd s 7; omega, cR s 7 1000 (by omega) (by omega) (by omega)⟩
  obtain ⟨c9, hc9, g9, l9, HC9⟩ : ∃ c, wrap64 ((wrap64 ((s[9]'(by omega)).toNat : Int)).tmod 48 * 100) = c ∧ 0 ≤ c ∧ c ≤ 4700 ∧ Hid (c = dR s 9 * 100) := ⟨_, rfl, by rw [cR s 9 100 (by omega) (by omega) (by omega)]; have := dR_bd s 9; omega, by rw [cR s 9 100 (by omega) (by omega) (by omega)]; have := dR_bd s 9; omega, cR s 9 100 (by omega) (by omega) (by omega)⟩
  obtain ⟨c10, hc10, g10, l10, HC10⟩ : ∃ c, wrap64 ((wrap64 ((s[10]'(by omega)).toNat : Int)).tmod 48 * 10) = c ∧ 0 ≤ c ∧ c ≤ 470 ∧ Hid (c = dR s 10 * 10) := ⟨_, rfl, by rw [cR s 10 10 (by omega) (by omega) (by omega)]; have := dR_bd s 10; omega, by rw [cR s 10 10 (by omega) (by omega) (by omega)]; have := dR_bd s 10; omega, cR s 10 10 (by omega) (by omega) (by omega)⟩
  obtain ⟨c11, hc11, g11, l11, HC11⟩ : ∃ c, wrap64 ((wrap64 ((s[11]'(by omega)).toNat : Int)).tmod 48) = c ∧ 0 ≤ c ∧ c ≤ 47 ∧ Hid (c = dR s 11) := ⟨_, rfl, by rw [cR1 s 11 (by omega)]; have := dR_bd s 11; omega, by rw [cR1 s 11 (by omega)]; have := dR_bd s 11; omega, cR1 s 11 (by omega)⟩
  have HM : Hid (c0 + c1 + c3 + c4 + c6 + c7 + c9 + c10 + c11 = msR s) := by
    show _ = msR s
    unfold msR
    rw [HC0.out, HC1.out, HC3.out, HC4.out, HC6.out, HC7.out, HC9.out, HC10.out, HC11.out]
  go_enter Tryd.func15, Tryd.ntmps15
  go_wp2
  refine wp_loop_rounds 13 ?_
  rw [rounds_succ]
  go_wp2_with fail
  rw [rounds_succ]
  go_wp2_with fail
  rw [rounds_succ]
  go_wp2_with fail
  rw [rounds_succ]
  go_wp2_with fail
  rw [rounds_succ]
  go_wp2_with fail
  rw [rounds_succ]
  go_wp2_with fail
  rw [rounds_succ]
  go_wp2_with fail
  rw [rounds_succ]
  go_wp2_with fail
  rw [rounds_succ]
  go_wp2_with fail
  rw [rounds_succ]
  go_wp2_with fail
  rw [rounds_succ]
  go_wp2_with fail
  rw [rounds_succ]
  go_wp2_with fail
  rw [rounds_succ]
  go_wp2_with fail
  rw [show c0 + c1 + c3 + c4 + c6 + c7 + c9 + c10 + c11 = m from HM.out.trans HH.out]
  refine (rclock_ok _ _ m1 m2).mono ?_
  rintro e w1 ⟨rfl, hb⟩
  rw [HX.out]
  go_wp2
  go_ret2
  exact ⟨rfl, hb⟩

theorem b_of (k : Nat) (h : k < 256) : ((UInt8.ofNat k).toNat : Int) = k := by rw [UInt8.toNat_ofNat']; omega
theorem b_of' (k : Nat) (h : k < 256) : (UInt8.ofNat k).toNat = k := by rw [UInt8.toNat_ofNat']; omega
theorem clk_size (n : Nat) : (⟨(clk n).toArray⟩ : ByteArray).size = 12 := rfl
theorem clk_msC (n : Nat) (h : n < 86400000) : msC ⟨(clk n).toArray⟩ = n := by
  have e : msC ⟨(clk n).toArray⟩ = num2 (UInt8.ofNat (48 + n / 3600000 / 10)) (UInt8.ofNat (48 + n / 3600000 % 10)) * 3600000 + num2 (UInt8.ofNat (48 + n / 60000 % 60 / 10)) (UInt8.ofNat (48 + n / 60000 % 60 % 10)) * 60000 + num2 (UInt8.ofNat (48 + n / 1000 % 60 / 10)) (UInt8.ofNat (48 + n / 1000 % 60 % 10)) * 1000 + num3 (UInt8.ofNat (48 + n % 1000 / 100)) (UInt8.ofNat (48 + n % 1000 / 10 % 10)) (UInt8.ofNat (48 + n % 1000 % 10)) := rfl
  rw [e]
  unfold num2 num3
  rw [b_of _ (by omega), b_of _ (by omega), b_of _ (by omega), b_of _ (by omega), b_of _ (by omega), b_of _ (by omega), b_of _ (by omega), b_of _ (by omega), b_of _ (by omega)]
  omega
theorem clk_msR (n : Nat) (h : n < 86400000) : msR ⟨(clk n).toArray⟩ = n := by
  have d : ∀ k, k < 10 → (UInt8.ofNat (48 + k)).toNat % 48 = k := fun k hk => by rw [b_of' _ (by omega)]; omega
  have e : msR ⟨(clk n).toArray⟩ = (((UInt8.ofNat (48 + n / 3600000 / 10)).toNat % 48 : Nat) : Int) * 36000000 + (((UInt8.ofNat (48 + n / 3600000 % 10)).toNat % 48 : Nat) : Int) * 3600000 + (((UInt8.ofNat (48 + n / 60000 % 60 / 10)).toNat % 48 : Nat) : Int) * 600000 + (((UInt8.ofNat (48 + n / 60000 % 60 % 10)).toNat % 48 : Nat) : Int) * 60000 + (((UInt8.ofNat (48 + n / 1000 % 60 / 10)).toNat % 48 : Nat) : Int) * 10000 + (((UInt8.ofNat (48 + n / 1000 % 60 % 10)).toNat % 48 : Nat) : Int) * 1000 + (((UInt8.ofNat (48 + n % 1000 / 100)).toNat % 48 : Nat) : Int) * 100 + (((UInt8.ofNat (48 + n % 1000 / 10 % 10)).toNat % 48 : Nat) : Int) * 10 + (((UInt8.ofNat (48 + n % 1000 % 10)).toNat % 48 : Nat) : Int) := rfl
  rw [e]
  rw [d _ (by omega), d _ (by omega), d _ (by omega), d _ (by omega), d _ (by omega), d _ (by omega), d _ (by omega), d _ (by omega), d _ (by omega)]
  omega
end Go.Proofs.YtdelgijalnmehaaDoor
