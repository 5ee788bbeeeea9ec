/-
  The product of a number and a fraction, rounded down: the code's and the reference's.
-/
import Derived.Test.YtdelgijalnmehaaDoorAC
import Derived.Lib.ItoaNum
import Derived.BigQuiet
import Derived.IntWalk
namespace Go.Proofs.YtdelgijalnmehaaDoor
open Go.RowKit
set_option linter.unusedSimpArgs false
set_option linter.unusedVariables false

theorem divAt (hi lo y : Nat) (h1 : 1 ≤ y) (h2 : y ≤ 1000000000) (hlt : hi < y) (h4 : lo < 18446744073709551616) : DivAt hi lo y ((hi * 18446744073709551616 + lo) / y) ((hi * 18446744073709551616 + lo) % y) := fun w => by
  rcases Nat.eq_zero_or_pos hi with rfl | h0
  · have e : 0 * 18446744073709551616 + lo = lo := by omega
    rw [e]
    exact div64_zero lo y w h1 h2 h4
  · obtain ⟨t1, t2, t3⟩ := Lib.bitLenAux_bounds 64 y (Nat.lt_of_le_of_lt h2 (by decide)) (by omega)
    have t1' : 1 ≤ Lib.bitLen y := t1
    have t2' : 2 ^ (Lib.bitLen y - 1) ≤ y := t2
    have t3' : y < 2 ^ Lib.bitLen y := t3
    have ht : Lib.bitLen y ≤ 30 := by
      rcases Nat.lt_or_ge 30 (Lib.bitLen y) with h | h
      · have : 2 ^ 30 ≤ 2 ^ (Lib.bitLen y - 1) := Nat.pow_le_pow_right (by omega) (by omega)
        have h30 : (2 : Nat) ^ 30 = 1073741824 := by decide
        omega
      · exact h
    refine div64_big hi lo y (Lib.bitLen y) (2 ^ (32 - Lib.bitLen y)) (2 ^ Lib.bitLen y) 4294967296 18446744073709551616 w rfl rfl (by decide) h0 hlt h2 h4 rfl ht t1' rfl t3' (Nat.pow_pos (by omega)) ?_ ?_
    · rw [← Nat.pow_add, show Lib.bitLen y + (32 - Lib.bitLen y) = 32 by omega]
    · rw [show 64 - Lib.bitLen y = (32 - Lib.bitLen y) + 32 by omega, Nat.pow_add]

set_option maxHeartbeats 800000 in
theorem rprod_zero (x d q qd rest : Int) (n : Int) (w : World) (x1 : -1000000000000 ≤ x) (x2 : x ≤ 1000000000000) (n1 : -1000000000 ≤ n) (n2 : n ≤ 1000000000) (d1 : 1 ≤ d) (d2 : d ≤ 1000000000)
    (hq : x / d = q) (hqd : wrap64 (q * d) = qd) (qd1 : -2000000000000 ≤ qd) (qd2 : qd ≤ 1000000000000) (hr : x - qd = rest) (r1 : 0 ≤ rest) (r2 : rest < d) (q1 : -1000000000000 ≤ q) (q2 : q ≤ 1000000000000) (hn : n = 0) :
    Calls Tryd.prog 30 #[.int .i64 x, .agg #[.int .i64 n, .int .i64 d]] w fun e w' => e = .returned (.int .i64 0) ∧ Bl w w' := by
  subst hn
  have HQ := Lib.hid hq
  clear hq
  go_enter Tryd.func30, Tryd.ntmps30
  go_wp2_with fail
  refine (down_any x d _ (by omega) (by omega) (by omega) (by omega)).mono ?_
  rintro e w1 ⟨rfl, rfl⟩
  rw [HQ.out]
  go_wp2_with fail
  go_quiet ((go_at_call 43; exact Calls.quiet_of_same ((down_any _ _ _ (by omega) (by omega) (by omega) (by omega)).mono fun _ _ ⟨he, hw⟩ => ⟨he, hw.symm⟩)))
  go_wp2
  go_ret
  exact ⟨ret_int (by simp), Bl.tr (by go_grown) (Bl.dn _ _)⟩

set_option maxHeartbeats 800000 in
theorem rprod_near (x n d q qd rest qn rn f : Int) (w : World) (x1 : -1000000000000 ≤ x) (x2 : x ≤ 1000000000000) (n1 : -1000000000 ≤ n) (n2 : n ≤ 1000000000) (d1 : 1 ≤ d) (d2 : d ≤ 1000000000)
    (hq : x / d = q) (hqd : wrap64 (q * d) = qd) (qd1 : -2000000000000 ≤ qd) (qd2 : qd ≤ 1000000000000) (hr : x - qd = rest) (r1 : 0 ≤ rest) (r2 : rest < d) (q1 : -1000000000000 ≤ q) (q2 : q ≤ 1000000000000)
    (hn : (n != 0) = true) (m : Int) (hm : max n (-n) = m) (m1 : 1 ≤ m) (m2 : m ≤ 1000000000) (hs : decide (4000000000000 / m < max q (-q)) = false)
    (hqn : wrap64 (q * n) = qn) (hrn : wrap64 (rest * n) = rn) (qn1 : -4000000000000 ≤ qn) (qn2 : qn ≤ 4000000000000) (rn1 : -1000000000000000000 ≤ rn) (rn2 : rn ≤ 1000000000000000000) (hf : rn / d = f) (f1 : -1000000000000000000 ≤ f) (f2 : f ≤ 1000000000000000000) :
    Calls Tryd.prog 30 #[.int .i64 x, .agg #[.int .i64 n, .int .i64 d]] w fun e w' => e = .returned (.int .i64 (qn + f)) ∧ Bl w w' := by
  have HF := Lib.hid hf
  clear hf
  have HQ := Lib.hid hq
  clear hq
  go_enter Tryd.func30, Tryd.ntmps30
  go_wp2_with fail
  refine (down_any x d _ (by omega) (by omega) (by omega) (by omega)).mono ?_
  rintro e w1 ⟨rfl, rfl⟩
  rw [HQ.out]
  go_wp2_with fail
  go_quiet ((go_at_call 43; exact Calls.quiet_of_same ((down_any _ _ _ (by omega) (by omega) (by omega) (by omega)).mono fun _ _ ⟨he, hw⟩ => ⟨he.trans (ret_int HF.out), hw.symm⟩)))
  go_wp2
  go_ret
  exact ⟨rfl, Bl.tr (by go_grown) (Bl.dn _ _)⟩

set_option maxHeartbeats 800000 in
theorem rprod_far (x n d q qd rest : Int) (b : Bool) (w : World) (x1 : -1000000000000 ≤ x) (x2 : x ≤ 1000000000000) (n1 : -1000000000 ≤ n) (n2 : n ≤ 1000000000) (d1 : 1 ≤ d) (d2 : d ≤ 1000000000)
    (hq : x / d = q) (hqd : wrap64 (q * d) = qd) (qd1 : -2000000000000 ≤ qd) (qd2 : qd ≤ 1000000000000) (hr : x - qd = rest) (r1 : 0 ≤ rest) (r2 : rest < d) (q1 : -1000000000000 ≤ q) (q2 : q ≤ 1000000000000)
    (hn : (n != 0) = true) (m : Int) (hm : max n (-n) = m) (m1 : 1 ≤ m) (m2 : m ≤ 1000000000) (hs : decide (4000000000000 / m < max q (-q)) = true) (hb : (decide (q < 0) == decide (n < 0)) = b) :
    Calls Tryd.prog 30 #[.int .i64 x, .agg #[.int .i64 n, .int .i64 d]] w fun e w' => e = .returned (.int .i64 (if b then 2000000000000 else -2000000000000)) ∧ Bl w w' := by
  cases b
  · rw [if_neg (by decide)]
    have HQ := Lib.hid hq
    clear hq
    go_enter Tryd.func30, Tryd.ntmps30
    go_wp2_with fail
    refine (down_any x d _ (by omega) (by omega) (by omega) (by omega)).mono ?_
    rintro e w1 ⟨rfl, rfl⟩
    rw [HQ.out]
    go_wp2_with fail
    all_goals (go_ret; exact ⟨rfl, (by go_grown)⟩)
  · rw [if_pos rfl]
    have HQ := Lib.hid hq
    clear hq
    go_enter Tryd.func30, Tryd.ntmps30
    go_wp2_with fail
    refine (down_any x d _ (by omega) (by omega) (by omega) (by omega)).mono ?_
    rintro e w1 ⟨rfl, rfl⟩
    rw [HQ.out]
    go_wp2_with fail
    all_goals (go_ret; exact ⟨rfl, (by go_grown)⟩)

/-- The reference's product: x times n / d rounded down, or something beyond. -/
def rprF (x n d : Int) : Int := if n = 0 then 0 else if 4000000000000 / max n (-n) < max (x / d) (-(x / d)) then (if decide (x / d < 0) == decide (n < 0) then 2000000000000 else -2000000000000) else x * n / d

theorem mulBd {a b A B : Int} (h1 : -A ≤ a) (h2 : a ≤ A) (h3 : -B ≤ b) (h4 : b ≤ B) : -(A * B) ≤ a * b ∧ a * b ≤ A * B := by
  have hA : 0 ≤ A := by omega
  have hB : 0 ≤ B := by omega
  have e : (a * b).natAbs ≤ (A * B).natAbs := by
    rw [Int.natAbs_mul, Int.natAbs_mul]
    exact Nat.mul_le_mul (by omega) (by omega)
  have := Int.mul_nonneg hA hB
  omega
theorem near_bd {q n : Int} (hn : n ≠ 0) (h : ¬ 4000000000000 / max n (-n) < max q (-q)) : -4000000000000 ≤ q * n ∧ q * n ≤ 4000000000000 := by
  have m1 : 1 ≤ max n (-n) := by omega
  have h1 : max q (-q) ≤ 4000000000000 / max n (-n) := by omega
  have h2 : max q (-q) * max n (-n) ≤ 4000000000000 := by
    have := Int.mul_le_mul_of_nonneg_right h1 (show 0 ≤ max n (-n) by omega)
    have := Int.ediv_mul_le 4000000000000 (show max n (-n) ≠ 0 by omega)
    omega
  have ⟨h3, h4⟩ := mulBd (a := q) (b := n) (A := max q (-q)) (B := max n (-n)) (by omega) (by omega) (by omega) (by omega)
  omega
theorem prod_split (x n d : Int) (d1 : 1 ≤ d) : x * n / d = x / d * n + (x - x / d * d) * n / d := by
  have e : x * n = (x - x / d * d) * n + d * (x / d * n) := by grind
  rw [e, Int.add_mul_ediv_left _ _ (by omega : d ≠ 0)]
  have e2 : (x - x / d * d) * n + d * (x / d * n) = x * n := by grind
  omega
theorem div_bd {r d B : Int} (hB : 0 ≤ B) (d1 : 1 ≤ d) (h1 : -B ≤ r) (h2 : r ≤ B) : -B ≤ r / d ∧ r / d ≤ B := by
  constructor
  · exact Int.le_ediv_of_mul_le (by omega) (by
      have := Int.mul_le_mul_of_nonneg_left d1 hB
      have e : -B * d = -(B * d) := Int.neg_mul _ _
      omega)
  · have : r / d ≤ B / d := Int.ediv_le_ediv (by omega) h2
    have : B / d ≤ B := Int.ediv_le_self _ hB
    omega
theorem rest_lt (x d : Int) (d1 : 1 ≤ d) : x - x / d * d < d := by
  have := Int.lt_ediv_add_one_mul_self x (show 0 < d by omega)
  have e : (x / d + 1) * d = x / d * d + d := by grind
  omega
theorem rprF_bd (x n d : Int) (x1 : -1000000000000 ≤ x) (x2 : x ≤ 1000000000000) (n1 : -1000000000 ≤ n) (n2 : n ≤ 1000000000) (d1 : 1 ≤ d) (d2 : d ≤ 1000000000) : -1000005000000000000 ≤ rprF x n d ∧ rprF x n d ≤ 1000005000000000000 := by
  unfold rprF
  by_cases hn : n = 0
  · rw [if_pos hn]; omega
  · rw [if_neg hn]
    by_cases hs : 4000000000000 / max n (-n) < max (x / d) (-(x / d))
    · rw [if_pos hs]; split <;> omega
    · rw [if_neg hs, prod_split x n d d1]
      have ⟨b1, b2⟩ := near_bd hn hs
      have r1 : 0 ≤ x - x / d * d := by have := Int.ediv_mul_le x (show d ≠ 0 by omega); omega
      have r2 := rest_lt x d d1
      have ⟨c1, c2⟩ := mulBd (a := x - x / d * d) (b := n) (A := 1000000000) (B := 1000000000) (by omega) (by omega) (by omega) (by omega)
      have ⟨e1, e2⟩ := div_bd (r := (x - x / d * d) * n) (d := d) (B := 1000000000000000000) (by omega) d1 (by omega) (by omega)
      omega

theorem rprod_any (x n d : Int) (w : World) (x1 : -1000000000000 ≤ x) (x2 : x ≤ 1000000000000) (n1 : -1000000000 ≤ n) (n2 : n ≤ 1000000000) (d1 : 1 ≤ d) (d2 : d ≤ 1000000000) :
    Calls Tryd.prog 30 #[.int .i64 x, .agg #[.int .i64 n, .int .i64 d]] w fun e w' => e = .returned (.int .i64 (rprF x n d)) ∧ Bl w w' := by
  have r1 : 0 ≤ x - x / d * d := by have := Int.ediv_mul_le x (show d ≠ 0 by omega); omega
  have r2 := rest_lt x d d1
  have ⟨q1, q2⟩ := div_bd (r := x) (d := d) (B := 1000000000000) (by omega) d1 (by omega) (by omega)
  have hqd := IntWalk.wrap64_in (x / d * d) (by omega)
  by_cases hn : n = 0
  · rw [rprF, if_pos hn]
    exact rprod_zero x d (x / d) (x / d * d) _ n w x1 x2 n1 n2 d1 d2 rfl hqd (by omega) (by omega) rfl r1 r2 q1 q2 hn
  · rw [rprF, if_neg hn]
    have hn' : (n != 0) = true := by simpa using hn
    by_cases hs : 4000000000000 / max n (-n) < max (x / d) (-(x / d))
    · rw [if_pos hs]
      exact rprod_far x n d (x / d) (x / d * d) _ _ w x1 x2 n1 n2 d1 d2 rfl hqd (by omega) (by omega) rfl r1 r2 q1 q2 hn' _ rfl (by omega) (by omega) (by simpa using hs) rfl
    · rw [if_neg hs, prod_split x n d d1]
      have ⟨b1, b2⟩ := near_bd hn hs
      have ⟨c1, c2⟩ := mulBd (a := x - x / d * d) (b := n) (A := 1000000000) (B := 1000000000) (by omega) (by omega) (by omega) (by omega)
      have ⟨e1, e2⟩ := div_bd (r := (x - x / d * d) * n) (d := d) (B := 1000000000000000000) (by omega) d1 (by omega) (by omega)
      exact rprod_near x n d (x / d) (x / d * d) _ _ _ _ w x1 x2 n1 n2 d1 d2 rfl hqd (by omega) (by omega) rfl r1 r2 q1 q2 hn' _ rfl (by omega) (by omega) (by simpa using hs) (IntWalk.wrap64_in _ (by omega)) (IntWalk.wrap64_in _ (by omega)) b1 b2 (by omega) (by omega) rfl (by omega) (by omega)
end Go.Proofs.YtdelgijalnmehaaDoor
