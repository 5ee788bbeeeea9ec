/-
  Contracts of the text of a time of the day: all times, and their reading.
-/
import Derived.Test.YtdelgijalnmehaaDoorS
import Derived.Lib.SmallJoins
import Derived.Sort.Grow
import Derived.IntWalk
namespace Go.Proofs.YtdelgijalnmehaaDoor
open Go.RowKit Go.Sort
set_option linter.unusedSimpArgs false
set_option linter.unusedVariables false

theorem Bl.gr (w : World) (k : Nat) (os : Array Obj) : Bl w (grow (w.drewN k) os) :=
  ⟨rfl, rfl, rfl, by simp, fun i hi => heap_grow_old (w.drewN k) os hi⟩
/-- The table of powers of ten lies as the library's text lays it. -/
def TP (w : World) : Prop := Lib.TabIs Tryd.prog w "internal/strconv.uint64pow10" .u64 Lib.pow10Tab
theorem gPow' : Tryd.prog.globalNamed "internal/strconv.uint64pow10" = some 3 := by kernel_rfl
theorem TP.below {w w' : World} (h : TP w) (hb : Bl w w') : TP w' := Go.Joins.var_stays gPow' h hb (Nat.le_refl _)

set_option maxHeartbeats 800000 in
theorem dig3_any (n : Nat) (w : World) (h : n < 1000) (hT : TP w) :
    Calls Tryd.prog 32 #[.int .i64 n, .int .i64 3] w fun e w' => e = .returned (.string ⟨(dig3 n).toArray⟩) ∧ Bl w w' := by
  by_cases h1 : n < 100
  · exact (dig3s_any n w h1).mono fun _ _ ⟨he, hw⟩ => ⟨he, by rw [hw]; exact Bl.rf _⟩
  · have hd := dec_all3 ⟨n, h⟩ (by show 100 ≤ n; omega)
    have HD : Hid (Lib.itoa (n : Int) = dig3 n) := hd
    have HT := Lib.hid hT
    clear hd hT
    go_enter Tryd.func32, Tryd.ntmps32
    go_wp2_with fail
    refine (Tryd.strconv_Itoa n (by omega) (by omega) _ HT.out).mono ?_
    rintro e w1 ⟨rfl, k, os, rfl⟩
    have B1 := Bl.gr w k os
    generalize grow (w.drewN k) os = w1 at B1 ⊢
    rw [HD.out]
    have HC : Hid (dig3 n = [UInt8.ofNat (48 + n / 100), UInt8.ofNat (48 + n / 10 % 10), UInt8.ofNat (48 + n % 10)]) := rfl
    rw [HC.out]
    generalize UInt8.ofNat (48 + n / 100) = a at HC ⊢
    generalize UInt8.ofNat (48 + n / 10 % 10) = d at HC ⊢
    generalize UInt8.ofNat (48 + n % 10) = c at HC ⊢
    clear HD
    go_wp2
    refine wp_loop_rounds 3 ?_
    repeat any_goals (rw [rounds_succ]; go_wp2)
    go_ret
    exact ⟨ret_str HC.out.symm, B1⟩

theorem dig2i_any (a : Int) (w : World) (h0 : 0 ≤ a) (h : a < 100) :
    Calls Tryd.prog 32 #[.int .i64 a, .int .i64 2] w fun e w' => e = .returned (.string ⟨(dig2 a.toNat).toArray⟩) ∧ w = w' := by
  obtain ⟨n, rfl⟩ := Int.eq_ofNat_of_zero_le h0
  exact dig2_any n w (by omega)
theorem dig3i_any (a : Int) (w : World) (h0 : 0 ≤ a) (h : a < 1000) (hT : TP w) :
    Calls Tryd.prog 32 #[.int .i64 a, .int .i64 3] w fun e w' => e = .returned (.string ⟨(dig3 a.toNat).toArray⟩) ∧ Bl w w' := by
  obtain ⟨n, rfl⟩ := Int.eq_ofNat_of_zero_le h0
  exact dig3_any n w (by omega) hT

theorem str_app (a b : List UInt8) : (⟨a.toArray⟩ : ByteArray) ++ ⟨b.toArray⟩ = ⟨(a ++ b).toArray⟩ := by
  apply ByteArray.ext
  simp
theorem str_app1 (a : List UInt8) (c : UInt8) : (⟨a.toArray⟩ : ByteArray) ++ ⟨#[c]⟩ = ⟨(a ++ [c]).toArray⟩ := str_app a [c]
theorem ret_s {a b : ByteArray} (h : a = b) : Ending.returned (.string a) = .returned (.string b) := by rw [h]
theorem tn_div (a : Int) (k : Nat) (h : 0 ≤ a) : (a / (k : Int)).toNat = a.toNat / k := by
  obtain ⟨n, rfl⟩ := Int.eq_ofNat_of_zero_le h
  rw [← Int.natCast_ediv, Int.toNat_natCast, Int.toNat_natCast]
theorem tn_mod (a : Int) (k : Nat) (h : 0 ≤ a) : (a % (k : Int)).toNat = a.toNat % k := by
  obtain ⟨n, rfl⟩ := Int.eq_ofNat_of_zero_le h
  rw [← Int.natCast_emod, Int.toNat_natCast, Int.toNat_natCast]
/-- The text of a time of the day. -/
def clk (n : Nat) : List UInt8 := dig2 (n / 3600000) ++ 58 :: (dig2 (n / 60000 % 60) ++ 58 :: (dig2 (n / 1000 % 60) ++ 46 :: dig3 (n % 1000)))
theorem clk_at (m : Int) (h : 0 ≤ m) : (⟨(dig2 (m / 3600000).toNat).toArray⟩ : ByteArray) ++ ⟨#[58]⟩ ++ ⟨(dig2 (m / 60000 % 60).toNat).toArray⟩ ++ ⟨#[58]⟩ ++ ⟨(dig2 (m / 1000 % 60).toNat).toArray⟩ ++ ⟨#[46]⟩ ++ ⟨(dig3 (m % 1000).toNat).toArray⟩ = ⟨(clk m.toNat).toArray⟩ := by
  have e1 := tn_div m 3600000 h
  have e2 := tn_mod (m / 60000) 60 (by omega)
  have e3 := tn_div m 60000 h
  have e4 := tn_mod (m / 1000) 60 (by omega)
  have e5 := tn_div m 1000 h
  have e6 := tn_mod m 1000 h
  simp only [Int.cast_ofNat_Int] at e1 e2 e3 e4 e5 e6
  rw [e1, e2, e3, e4, e5, e6]
  simp only [str_app, str_app1, clk, List.append_assoc, List.cons_append, List.nil_append]

set_option maxHeartbeats 800000 in
theorem clock_no (m : Int) (w : World) (h : m < 0 ∨ 86400000 ≤ m) :
    Calls Tryd.prog 16 #[.int .i64 m] w fun e w' => e = .returned (.string ⟨#[]⟩) ∧ w = w' := by
  rcases h with h | h
  · go_enter Tryd.func16, Tryd.ntmps16
    go_wp2
    go_ret
    exact ⟨rfl, rfl⟩
  · go_enter Tryd.func16, Tryd.ntmps16
    go_wp2
    go_ret
    exact ⟨rfl, rfl⟩

set_option maxHeartbeats 800000 in
theorem clock_ok (m : Int) (w : World) (h0 : 0 ≤ m) (h1 : m < 86400000) (hT : TP w) :
    Calls Tryd.prog 16 #[.int .i64 m] w fun e w' => e = .returned (.string ⟨(clk m.toNat).toArray⟩) ∧ Bl w w' := by
  have HT := Lib.hid hT
  clear hT
  go_enter Tryd.func16, Tryd.ntmps16
  go_wp2_with fail
  refine (dig2i_any _ _ (by omega) (by omega)).mono ?_
  rintro e w1 ⟨rfl, rfl⟩
  go_wp2_with fail
  refine (dig2i_any _ _ (by omega) (by omega)).mono ?_
  rintro e w1 ⟨rfl, rfl⟩
  go_wp2_with fail
  refine (dig2i_any _ _ (by omega) (by omega)).mono ?_
  rintro e w1 ⟨rfl, rfl⟩
  go_wp2_with fail
  refine (dig3i_any _ _ (by omega) (by omega) HT.out).mono ?_
  rintro e w1 ⟨rfl, hb⟩
  go_wp2
  go_ret
  exact ⟨ret_s (clk_at m h0), hb⟩

theorem cnv1 (W : World) (x : Int) (h0 : 0 ≤ x) (h1 : x < 256) : (convert 71 9 (.slice (some ⟨W.heap.size, 0, none⟩) 1 1)).run Tryd.prog (W.alloc (.cells #[.int .u8 x] 5)) = .ok (.string ⟨#[UInt8.ofNat x.toNat]⟩) (W.alloc (.cells #[.int .u8 x] 5)) :=
  run_convert_bytes_back (P := Tryd.prog) (W.alloc (.cells #[.int .u8 x] 5)) 71 9 5 ⟨W.heap.size, 0, none⟩ 1 [UInt8.ofNat x.toNat] Tryd.underlying71 Tryd.underlying5 Tryd.underlying9 (fun j hj => by
    obtain rfl : j = 0 := by simp at hj; omega
    have e : ((UInt8.ofNat x.toNat).toNat : Int) = x := by rw [UInt8.toNat_ofNat']; omega
    simp only [List.getElem_cons_zero, e]
    go_cell)

theorem rd2 (a : Int) (h0 : 0 ≤ a) (h : a < 100) : (⟨#[UInt8.ofNat (48 + a / 10 % 10).toNat]⟩ : ByteArray) ++ (⟨#[UInt8.ofNat (48 + a % 10).toNat]⟩ ++ ⟨#[]⟩) = ⟨(dig2 a.toNat).toArray⟩ := by
  have e1 : (48 + a / 10 % 10).toNat = 48 + a.toNat / 10 := by omega
  have e2 : (48 + a % 10).toNat = 48 + a.toNat % 10 := by omega
  rw [e1, e2]
  have := str_app [UInt8.ofNat (48 + a.toNat / 10)] ([UInt8.ofNat (48 + a.toNat % 10)] ++ [])
  rw [← str_app] at this
  exact this
theorem rd3 (a : Int) (h0 : 0 ≤ a) (h : a < 1000) : (⟨#[UInt8.ofNat (48 + a / 10 / 10 % 10).toNat]⟩ : ByteArray) ++ (⟨#[UInt8.ofNat (48 + a / 10 % 10).toNat]⟩ ++ (⟨#[UInt8.ofNat (48 + a % 10).toNat]⟩ ++ ⟨#[]⟩)) = ⟨(dig3 a.toNat).toArray⟩ := by
  have e0 : (48 + a / 10 / 10 % 10).toNat = 48 + a.toNat / 100 := by omega
  have e1 : (48 + a / 10 % 10).toNat = 48 + a.toNat / 10 % 10 := by omega
  have e2 : (48 + a % 10).toNat = 48 + a.toNat % 10 := by omega
  rw [e0, e1, e2]
  have := str_app [UInt8.ofNat (48 + a.toNat / 100)] ([UInt8.ofNat (48 + a.toNat / 10 % 10)] ++ ([UInt8.ofNat (48 + a.toNat % 10)] ++ []))
  rw [← str_app, ← str_app] at this
  exact this

set_option maxHeartbeats 800000 in
theorem rdig2_any (a : Int) (w : World) (h0 : 0 ≤ a) (h : a < 100) :
    Calls Tryd.prog 33 #[.int .i64 a, .int .i64 2] w fun e w' => e = .returned (.string ⟨(dig2 a.toNat).toArray⟩) ∧ Bl w w' := by
  have c1 := cnv1 w (48 + a % 10) (by omega) (by omega)
  have c2 := cnv1 (w.alloc (.cells #[.int .u8 (48 + a % 10)] 5)) (48 + a / 10 % 10) (by omega) (by omega)
  simp only [World.size_alloc] at c2
  go_enter Tryd.func33, Tryd.ntmps33
  go_wp2
  refine wp_loop_rounds 3 ?_
  rw [rounds_succ]
  go_wp2
  rw [rounds_succ]
  go_wp2
  rw [rounds_succ]
  go_wp2
  go_ret
  exact ⟨ret_s (rd2 a h0 h), by go_grown⟩

set_option maxHeartbeats 800000 in
theorem rdig3_any (a : Int) (w : World) (h0 : 0 ≤ a) (h : a < 1000) :
    Calls Tryd.prog 33 #[.int .i64 a, .int .i64 3] w fun e w' => e = .returned (.string ⟨(dig3 a.toNat).toArray⟩) ∧ Bl w w' := by
  have c1 := cnv1 w (48 + a % 10) (by omega) (by omega)
  have c2 := cnv1 (w.alloc (.cells #[.int .u8 (48 + a % 10)] 5)) (48 + a / 10 % 10) (by omega) (by omega)
  have c3 := cnv1 ((w.alloc (.cells #[.int .u8 (48 + a % 10)] 5)).alloc (.cells #[.int .u8 (48 + a / 10 % 10)] 5)) (48 + a / 10 / 10 % 10) (by omega) (by omega)
  simp only [World.size_alloc] at c2 c3
  go_enter Tryd.func33, Tryd.ntmps33
  go_wp2
  refine wp_loop_rounds 4 ?_
  rw [rounds_succ]
  go_wp2
  rw [rounds_succ]
  go_wp2
  rw [rounds_succ]
  go_wp2
  rw [rounds_succ]
  go_wp2
  go_ret
  exact ⟨ret_s (rd3 a h0 h), by go_grown⟩

set_option maxHeartbeats 800000 in
theorem rclock_no (m : Int) (w : World) (h : m < 0 ∨ 86400000 ≤ m) :
    Calls Tryd.prog 17 #[.int .i64 m] w fun e w' => e = .returned (.string ⟨#[]⟩) ∧ Bl w w' := by
  go_enter Tryd.func17, Tryd.ntmps17
  go_wp2_with fail
  refine (within_f _ _ _ _ (by omega)).mono ?_
  rintro e w1 ⟨rfl, rfl⟩
  go_wp2
  go_ret
  exact ⟨rfl, Bl.rf _⟩

set_option maxHeartbeats 800000 in
theorem rclock_ok (m : Int) (w : World) (h0 : 0 ≤ m) (h1 : m < 86400000) :
    Calls Tryd.prog 17 #[.int .i64 m] w fun e w' => e = .returned (.string ⟨(clk m.toNat).toArray⟩) ∧ Bl w w' := by
  go_enter Tryd.func17, Tryd.ntmps17
  go_wp2_with fail
  refine (within_t _ _ _ _ (by omega) (by omega)).mono ?_
  rintro e w0 ⟨rfl, rfl⟩
  go_wp2_with fail
  refine (rdig2_any _ _ (by omega) (by omega)).mono ?_
  rintro e w1 ⟨rfl, hb1⟩
  go_wp2_with fail
  refine (rdig2_any _ _ (by omega) (by omega)).mono ?_
  rintro e w2 ⟨rfl, hb2⟩
  go_wp2_with fail
  refine (rdig2_any _ _ (by omega) (by omega)).mono ?_
  rintro e w3 ⟨rfl, hb3⟩
  go_wp2_with fail
  refine (rdig3_any _ _ (by omega) (by omega)).mono ?_
  rintro e w4 ⟨rfl, hb4⟩
  go_wp2
  go_ret
  exact ⟨ret_s (clk_at m h0), ((hb1.tr hb2).tr hb3).tr hb4⟩

/-- What two and three bytes make as digits. -/
def num2 (a b : UInt8) : Int := (((a.toNat : Int)) - 48) * 10 + (b.toNat : Int) - 48
def num3 (a b c : UInt8) : Int := ((((a.toNat : Int)) - 48) * 10 + (b.toNat : Int) - 48) * 10 + (c.toNat : Int) - 48
theorem u8_lt (a : UInt8) : (a.toNat : Int) < 256 ∧ 0 ≤ (a.toNat : Int) := by have := a.toNat_lt; omega

theorem num2_eq (x y : Int) (hx : x < 256 ∧ 0 ≤ x) (hy : y < 256 ∧ 0 ≤ y) : wrap64 (wrap64 (wrap64 (wrap64 (wrap64 (wrap64 x) - 48) * 10) + wrap64 y) - 48) = (x - 48) * 10 + y - 48 := by
  rw [IntWalk.wrap64_in x (by omega), IntWalk.wrap64_in x (by omega), IntWalk.wrap64_in y (by omega), IntWalk.wrap64_in (x - 48) (by omega), IntWalk.wrap64_in ((x - 48) * 10) (by omega), IntWalk.wrap64_in ((x - 48) * 10 + y) (by omega), IntWalk.wrap64_in ((x - 48) * 10 + y - 48) (by omega)]
theorem num3_eq (x y z : Int) (hx : x < 256 ∧ 0 ≤ x) (hy : y < 256 ∧ 0 ≤ y) (hz : z < 256 ∧ 0 ≤ z) : wrap64 (wrap64 (wrap64 (wrap64 (wrap64 (wrap64 (wrap64 (wrap64 (wrap64 x) - 48) * 10) + wrap64 y) - 48) * 10) + wrap64 z) - 48) = ((x - 48) * 10 + y - 48) * 10 + z - 48 := by
  rw [num2_eq x y hx hy, IntWalk.wrap64_in z (by omega), IntWalk.wrap64_in (((x - 48) * 10 + y - 48) * 10) (by omega), IntWalk.wrap64_in (((x - 48) * 10 + y - 48) * 10 + z) (by omega), IntWalk.wrap64_in (((x - 48) * 10 + y - 48) * 10 + z - 48) (by omega)]

set_option maxHeartbeats 800000 in
theorem number2_any (a b : UInt8) (w : World) :
    Calls Tryd.prog 31 #[.string ⟨#[a, b]⟩] w fun e w' => e = .returned (.int .i64 (num2 a b)) ∧ w = w' := by
  go_enter Tryd.func31, Tryd.ntmps31
  go_wp2
  refine wp_loop_rounds 3 ?_
  rw [rounds_succ]
  go_wp2
  rw [rounds_succ]
  go_wp2
  rw [rounds_succ]
  go_wp2
  go_ret
  exact ⟨ret_int (num2_eq _ _ (u8_lt a) (u8_lt b)), rfl⟩

set_option maxHeartbeats 800000 in
theorem number3_any (a b c : UInt8) (w : World) :
    Calls Tryd.prog 31 #[.string ⟨#[a, b, c]⟩] w fun e w' => e = .returned (.int .i64 (num3 a b c)) ∧ w = w' := by
  go_enter Tryd.func31, Tryd.ntmps31
  go_wp2
  refine wp_loop_rounds 4 ?_
  rw [rounds_succ]
  go_wp2
  rw [rounds_succ]
  go_wp2
  rw [rounds_succ]
  go_wp2
  rw [rounds_succ]
  go_wp2
  go_ret
  exact ⟨ret_int (num3_eq _ _ _ (u8_lt a) (u8_lt b) (u8_lt c)), rfl⟩
end Go.Proofs.YtdelgijalnmehaaDoor
