/-
  Contracts of the sky's day: sidereal and mean time, and the text of a time of the day.
-/
import Derived.Test.YtdelgijalnmehaaDoorE
import Derived.Test.YtdelgijalnmehaaDoorShelf
namespace Go.Proofs.YtdelgijalnmehaaDoor
open Go.RowKit
set_option linter.unusedSimpArgs false
set_option linter.unusedVariables false

def dig2 (n : Nat) : List UInt8 := [UInt8.ofNat (48 + n / 10), UInt8.ofNat (48 + n % 10)]
def dig3 (n : Nat) : List UInt8 := [UInt8.ofNat (48 + n / 100), UInt8.ofNat (48 + n / 10 % 10), UInt8.ofNat (48 + n % 10)]
theorem dec_all : ∀ n : Fin 100, (n.val < 10 → Lib.decDigits n.val = [UInt8.ofNat (48 + n.val % 10)] ∧ dig2 n.val = [48, UInt8.ofNat (48 + n.val % 10)] ∧ dig3 n.val = [48, 48, UInt8.ofNat (48 + n.val % 10)]) ∧ (10 ≤ n.val → Lib.decDigits n.val = dig2 n.val ∧ dig3 n.val = 48 :: dig2 n.val) := by decide +kernel
theorem dec_all3 : ∀ n : Fin 1000, 100 ≤ n.val → Lib.itoa n.val = dig3 n.val := by decide +kernel
theorem ret_str {a b : List UInt8} (h : a = b) : Ending.returned (.string ⟨a.toArray⟩) = .returned (.string ⟨b.toArray⟩) := by rw [h]


set_option maxHeartbeats 800000 in
theorem dig2_any (n : Nat) (w : World) (h : n < 100) :
    Calls Tryd.prog 32 #[.int .i64 n, .int .i64 2] w fun e w' => e = .returned (.string ⟨(dig2 n).toArray⟩) ∧ w = w' := by
  by_cases h1 : n < 10
  · obtain ⟨hd, h2, h3⟩ := (dec_all ⟨n, h⟩).1 h1
    have HD := Lib.hid hd
    have HC : Hid (dig2 n = [48, UInt8.ofNat (48 + n % 10)]) := h2
    clear hd h2 h3
    go_enter Tryd.func32, Tryd.ntmps32
    go_wp2_with fail
    refine (Tryd.strconv_Itoa_small n h _).mono ?_
    rintro e w1 ⟨rfl, rfl⟩
    rw [HD.out]
    generalize UInt8.ofNat (48 + n % 10) = c at HC ⊢
    clear HD
    go_wp2
    refine wp_loop_rounds 3 ?_
    repeat any_goals (rw [rounds_succ]; go_wp2)
    go_ret
    exact ⟨ret_str HC.out.symm, rfl⟩
  · obtain ⟨hd, h3⟩ := (dec_all ⟨n, h⟩).2 (by show 10 ≤ n; omega)
    have HD := Lib.hid hd
    have HC : Hid (dig2 n = [UInt8.ofNat (48 + n / 10), UInt8.ofNat (48 + n % 10)]) := rfl
    clear hd h3
    go_enter Tryd.func32, Tryd.ntmps32
    go_wp2_with fail
    refine (Tryd.strconv_Itoa_small n h _).mono ?_
    rintro e w1 ⟨rfl, rfl⟩
    rw [HD.out]
    rw [show dig2 n = [UInt8.ofNat (48 + n / 10), UInt8.ofNat (48 + n % 10)] from rfl]
    generalize UInt8.ofNat (48 + n / 10) = d at HC ⊢
    generalize UInt8.ofNat (48 + n % 10) = c at HC ⊢
    clear HD
    go_wp2
    refine wp_loop_rounds 3 ?_
    repeat any_goals (rw [rounds_succ]; go_wp2)
    go_ret
    exact ⟨ret_str HC.out.symm, rfl⟩

set_option maxHeartbeats 800000 in
theorem dig3s_any (n : Nat) (w : World) (h : n < 100) :
    Calls Tryd.prog 32 #[.int .i64 n, .int .i64 3] w fun e w' => e = .returned (.string ⟨(dig3 n).toArray⟩) ∧ w = w' := by
  by_cases h1 : n < 10
  · obtain ⟨hd, h2, h3⟩ := (dec_all ⟨n, h⟩).1 h1
    have HD := Lib.hid hd
    have HC : Hid (dig3 n = [48, 48, UInt8.ofNat (48 + n % 10)]) := h3
    clear hd h2 h3
    go_enter Tryd.func32, Tryd.ntmps32
    go_wp2_with fail
    refine (Tryd.strconv_Itoa_small n h _).mono ?_
    rintro e w1 ⟨rfl, rfl⟩
    rw [HD.out]
    generalize UInt8.ofNat (48 + n % 10) = c at HC ⊢
    clear HD
    go_wp2
    refine wp_loop_rounds 3 ?_
    repeat any_goals (rw [rounds_succ]; go_wp2)
    go_ret
    exact ⟨ret_str HC.out.symm, rfl⟩
  · obtain ⟨hd, h3⟩ := (dec_all ⟨n, h⟩).2 (by show 10 ≤ n; omega)
    have HD := Lib.hid hd
    have HC : Hid (dig3 n = [48, UInt8.ofNat (48 + n / 10), UInt8.ofNat (48 + n % 10)]) := h3
    clear hd h3
    go_enter Tryd.func32, Tryd.ntmps32
    go_wp2_with fail
    refine (Tryd.strconv_Itoa_small n h _).mono ?_
    rintro e w1 ⟨rfl, rfl⟩
    rw [HD.out]
    rw [show dig2 n = [UInt8.ofNat (48 + n / 10), UInt8.ofNat (48 + n % 10)] from rfl]
    generalize UInt8.ofNat (48 + n / 10) = d at HC ⊢
    generalize UInt8.ofNat (48 + n % 10) = c at HC ⊢
    clear HD
    go_wp2
    refine wp_loop_rounds 3 ?_
    repeat any_goals (rw [rounds_succ]; go_wp2)
    go_ret
    exact ⟨ret_str HC.out.symm, rfl⟩

theorem within_t (n a b : Int) (w : World) (h1 : a ≤ n) (h2 : n ≤ b) :
    Calls Tryd.prog 18 #[.int .i64 n, .int .i64 a, .int .i64 b] w fun e w' => e = .returned (.bool true) ∧ w = w' :=
  (within_any n a b w).mono fun _ _ ⟨he, hw⟩ => ⟨he.trans (ret_bool (by simp [h1, h2])), hw⟩
theorem within_f (n a b : Int) (w : World) (h : n < a ∨ b < n) :
    Calls Tryd.prog 18 #[.int .i64 n, .int .i64 a, .int .i64 b] w fun e w' => e = .returned (.bool false) ∧ w = w' :=
  (within_any n a b w).mono fun _ _ ⟨he, hw⟩ => ⟨he.trans (ret_bool (by simp; omega)), hw⟩

def sidF (t : Int) : Int × Int := if t < 0 ∨ 1000000000000 < t then (0, 7) else (t * 3662422 / 3652422, 0)

set_option maxHeartbeats 800000 in
theorem sid_any (t : Int) (w : World) :
    Calls Tryd.prog 21 #[.int .i64 t] w fun e w' => e = .returned (.tuple #[.int .i64 (sidF t).1, .int .i64 (sidF t).2]) ∧ w = w' := by
  by_cases h : t < 0 ∨ 1000000000000 < t
  · have hs : sidF t = (0, 7) := by rw [sidF, if_pos h]
    rw [hs]
    clear hs
    rcases h with h | h
    · go_enter Tryd.func21, Tryd.ntmps21
      go_wp2_with fail
      go_ret2
      exact ⟨rfl, rfl⟩
    · go_enter Tryd.func21, Tryd.ntmps21
      go_wp2_with fail
      go_ret2
      exact ⟨rfl, rfl⟩
  · have hs : sidF t = (t * 3662422 / 3652422, 0) := by rw [sidF, if_neg h]
    rw [hs]
    clear hs
    have h1 : 0 ≤ t := by omega
    have h2 : t ≤ 1000000000000 := by omega
    clear h
    go_enter Tryd.func21, Tryd.ntmps21
    go_wp2_with fail
    go_ret2
    exact ⟨rfl, rfl⟩

def meanF (t : Int) : Int × Int := if t < 0 ∨ 1000000000000 < t then (0, 7) else (t * 3652422 / 3662422, 0)

set_option maxHeartbeats 800000 in
theorem clock0_any (w : World) :
    Calls Tryd.prog 16 #[.int .i64 45296007] w fun e w' => e = .returned (.string ⟨#[49, 50, 58, 51, 52, 58, 53, 54, 46, 48, 48, 55]⟩) ∧ w = w' := by
  go_enter Tryd.func16, Tryd.ntmps16
  go_wp2_with fail
  refine (dig2_any 12 _ (by omega)).mono ?_
  rintro e w1 ⟨rfl, rfl⟩
  go_wp2_with fail
  refine (dig2_any 34 _ (by omega)).mono ?_
  rintro e w1 ⟨rfl, rfl⟩
  go_wp2_with fail
  refine (dig2_any 56 _ (by omega)).mono ?_
  rintro e w1 ⟨rfl, rfl⟩
  go_wp2_with fail
  refine (dig3s_any 7 _ (by omega)).mono ?_
  rintro e w1 ⟨rfl, rfl⟩
  go_wp2
  go_ret
  exact ⟨rfl, rfl⟩
end Go.Proofs.YtdelgijalnmehaaDoor
