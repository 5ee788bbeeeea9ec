/-
  The division of two words by one, for divisors up to 10^9.
-/
import Derived.Test.YtdelgijalnmehaaDoorK
import Derived.Laws.BitsAllLaws
namespace Go.Proofs.YtdelgijalnmehaaDoor
open Go.RowKit
set_option linter.unusedSimpArgs false
set_option linter.unusedVariables false

set_option maxHeartbeats 1600000 in
set_option maxRecDepth 100000 in
theorem div64_core (hi lo y s Y yn1 A B U L un1 q1 r1 P1 R1 V M M2 N q0 P0 r0 R0 Q1 Q X Z R rem : Nat) (w : World) (h1 : 1 ≤ hi) (h2 : hi < y) (h3 : y ≤ 1000000000) (hs : 64 - (Lib.bitLen y : Int) = s) (hs1 : 34 ≤ s) (hs2 : s ≤ 63)
    (e1 : IntKind.u64.wrap ((y : Int) * 2 ^ s) = (Y : Int)) (e2 : (Y : Int) / 4294967296 = yn1) (e3 : bits BinOp.and IntKind.u64 (Y : Int) 4294967295 = 0)
    (e4 : IntKind.u64.wrap ((hi : Int) * 2 ^ s) = (A : Int)) (e5 : (lo : Int) / 2 ^ (64 - s) = B) (e6 : bits BinOp.or IntKind.u64 (A : Int) (B : Int) = U)
    (e7 : IntKind.u64.wrap ((lo : Int) * 2 ^ s) = (L : Int)) (e8 : (L : Int) / 4294967296 = un1) (e9 : bits BinOp.and IntKind.u64 (L : Int) 4294967295 = 0)
    (e10 : IntKind.u64.wrap ((U : Int) / yn1) = (q1 : Int)) (e11 : IntKind.u64.wrap ((q1 : Int) * yn1) = (P1 : Int)) (e12 : IntKind.u64.wrap ((U : Int) - P1) = (r1 : Int))
    (e13 : IntKind.u64.wrap (4294967296 * (r1 : Int)) = (R1 : Int)) (e14 : IntKind.u64.wrap ((R1 : Int) + un1) = (V : Int))
    (e15 : IntKind.u64.wrap ((U : Int) * 4294967296) = (M : Int)) (e16 : IntKind.u64.wrap ((M : Int) + un1) = (M2 : Int)) (e17 : IntKind.u64.wrap ((q1 : Int) * Y) = (N : Int)) (e18 : IntKind.u64.wrap ((M2 : Int) - N) = (V : Int))
    (e19 : IntKind.u64.wrap ((V : Int) / yn1) = (q0 : Int)) (e20 : IntKind.u64.wrap ((q0 : Int) * yn1) = (P0 : Int)) (e21 : IntKind.u64.wrap ((V : Int) - P0) = (r0 : Int))
    (e22 : IntKind.u64.wrap (4294967296 * (r0 : Int)) = (R0 : Int)) (e23 : IntKind.u64.wrap (R0 : Int) = (R0 : Int))
    (e24 : IntKind.u64.wrap ((q1 : Int) * 4294967296) = (Q1 : Int)) (e25 : IntKind.u64.wrap ((Q1 : Int) + q0) = (Q : Int)) (e26 : IntKind.u64.wrap ((V : Int) * 4294967296) = (X : Int)) (e27 : IntKind.u64.wrap (X : Int) = (X : Int))
    (e28 : IntKind.u64.wrap ((q0 : Int) * Y) = (Z : Int)) (e29 : IntKind.u64.wrap ((X : Int) - Z) = (R : Int)) (e30 : (R : Int) / 2 ^ s = rem)
    (n1 : 1 ≤ yn1) (n2 : decide ((4294967296 : Int) ≤ (q1 : Int)) = false) (n2' : decide (4294967296 ≤ q1) = false) (n3 : decide ((4294967296 : Int) ≤ (q0 : Int)) = false) (n3' : decide (4294967296 ≤ q0) = false) :
    Calls Tryd.prog 42 #[.int .u64 hi, .int .u64 lo, .int .u64 y] w fun e w' => e = .returned (.tuple #[.int .u64 (Q : Int), .int .u64 (rem : Int)]) ∧ Bl w w' := by
  have HS := Lib.hid hs
  clear hs
  go_enter Tryd.func42, Tryd.ntmps42
  go_wp2_with fail
  refine (Tryd.bits_LeadingZeros64 _ _ (by omega) (by omega)).mono ?_
  rintro e w1 ⟨rfl, rfl⟩
  rw [Int.toNat_natCast, HS.out]
  go_wp2_with fail
  refine wp_loop_rounds 1 ?_
  rw [rounds_succ]
  go_wp2_with fail
  refine wp_loop_rounds 1 ?_
  rw [rounds_succ]
  go_wp2_with fail
  go_ret2
  exact ⟨rfl, Bl.rf _⟩

theorem subw (P V C : Nat) (h : V < C) : ((((P + V) % C : Nat) : Int) - ((P % C : Nat) : Int)) % (C : Int) = (V : Int) := by
  rw [Int.natCast_emod, Int.natCast_emod, ← Int.sub_emod, Int.natCast_add, show (P : Int) + V - P = V by omega]
  exact Int.emod_eq_of_lt (by omega) (by omega)
/-- The first part: what is divided, brought to the left. -/
theorem d64a (hi lo y c K B : Nat) (hy : y < K) (h2 : hi < y) (hc : K * c = B) (c1 : 1 ≤ c) (hl : lo < B * B) :
    y * c < B ∧ 1 ≤ y * c ∧ lo / K < c * B ∧ lo % K * c < B ∧ hi * (c * B) + lo / K < y * c * B ∧ lo * (c * B) % (B * B) = lo % K * c * B ∧ (hi * (B * B) + lo) * c = (hi * (c * B) + lo / K) * B + lo % K * c := by
  have e := Nat.div_add_mod lo K
  have e2 : lo * c = (lo / K) * B + lo % K * c := by
    have e3 : lo * c = (K * (lo / K) + lo % K) * c := by rw [e]
    rw [e3, ← hc]; grind
  have m1 : lo % K < K := Nat.mod_lt _ (by omega)
  have a4 : lo % K * c < B := by rw [← hc]; exact Nat.mul_lt_mul_of_pos_right m1 c1
  have a3 : lo / K < c * B := Nat.div_lt_of_lt_mul (by rw [← Nat.mul_assoc, hc]; exact hl)
  refine ⟨by rw [← hc]; exact Nat.mul_lt_mul_of_pos_right hy c1, Nat.mul_pos (by omega) c1, a3, a4, ?_, ?_, ?_⟩
  · have : (hi + 1) * (c * B) ≤ y * (c * B) := Nat.mul_le_mul_right _ h2
    have e5 : y * c * B = y * (c * B) := Nat.mul_assoc _ _ _
    have e6 : (hi + 1) * (c * B) = hi * (c * B) + c * B := by grind
    omega
  · have e7 : lo * (c * B) = lo % K * c * B + (B * B) * (lo / K) := by
      rw [← Nat.mul_assoc, e2]; grind
    rw [e7, Nat.add_mul_mod_self_left, Nat.mod_eq_of_lt (Nat.mul_lt_mul_of_pos_right a4 (by rw [← hc]; exact Nat.mul_pos (by omega) c1))]
  · rw [Nat.add_mul, e2]; grind
/-- The second part: the two digits of the quotient. -/
theorem d64b (yn1 U un1 B : Nat) (hyn : yn1 < B) (hyn1 : 1 ≤ yn1) (hU : U < yn1 * B) (hun : un1 < B) :
    ∃ q1 r1 V q0 r0, U / yn1 = q1 ∧ U = yn1 * q1 + r1 ∧ r1 < yn1 ∧ r1 * B + un1 = V ∧ V < yn1 * B ∧ V / yn1 = q0 ∧ V = yn1 * q0 + r0 ∧ r0 < yn1 ∧ q1 < B ∧ q0 < B ∧ U * B + un1 = yn1 * q1 * B + V ∧ V * B = yn1 * q0 * B + r0 * B ∧ U * B + un1 = yn1 * (q1 * B + q0) + r0 := by
  have hdm1 := Nat.div_add_mod U yn1
  have hr1 : U % yn1 < yn1 := Nat.mod_lt _ hyn1
  have hq1 : U / yn1 < B := Nat.div_lt_of_lt_mul hU
  have hV : U % yn1 * B + un1 < yn1 * B := by
    have : (U % yn1 + 1) * B ≤ yn1 * B := Nat.mul_le_mul_right _ hr1
    have e : (U % yn1 + 1) * B = U % yn1 * B + B := by grind
    omega
  have hdm0 := Nat.div_add_mod (U % yn1 * B + un1) yn1
  have e1 : U * B + un1 = yn1 * (U / yn1) * B + (U % yn1 * B + un1) := by
    have : U * B = (yn1 * (U / yn1) + U % yn1) * B := by rw [hdm1]
    rw [this]; grind
  refine ⟨_, _, _, _, _, rfl, hdm1.symm, hr1, rfl, hV, rfl, hdm0.symm, Nat.mod_lt _ hyn1, hq1, Nat.div_lt_of_lt_mul hV, e1, ?_, ?_⟩
  · have : (U % yn1 * B + un1) * B = (yn1 * ((U % yn1 * B + un1) / yn1) + (U % yn1 * B + un1) % yn1) * B := by rw [hdm0]
    rw [this, Nat.add_mul]
  · rw [e1]
    generalize U % yn1 * B + un1 = V at hdm0 ⊢
    have : V = yn1 * (V / yn1) + V % yn1 := hdm0.symm
    have e2 : yn1 * (U / yn1 * B + V / yn1) + V % yn1 = yn1 * (U / yn1) * B + (yn1 * (V / yn1) + V % yn1) := by grind
    rw [e2, hdm0]

set_option maxHeartbeats 800000 in
theorem div64_big (hi lo y t c K B C : Nat) (w : World) (hBe : B = 4294967296) (hCe : C = 18446744073709551616) (hCB : C = B * B) (h1 : 1 ≤ hi) (h2 : hi < y) (h3 : y ≤ 1000000000) (h4 : lo < C) (hb : Lib.bitLen y = t) (ht : t ≤ 30) (ht1 : 1 ≤ t) (hK : 2 ^ t = K) (hy : y < K) (c1 : 1 ≤ c) (hc : K * c = B) (hp : 2 ^ (64 - t) = c * B) :
    Calls Tryd.prog 42 #[.int .u64 hi, .int .u64 lo, .int .u64 y] w fun e w' => e = .returned (.tuple #[.int .u64 (((hi * C + lo) / y : Nat) : Int), .int .u64 (((hi * C + lo) % y : Nat) : Int)]) ∧ Bl w w' := by
  have wN : ∀ n : Nat, IntKind.u64.wrap (n : Int) = ((n % C : Nat) : Int) := fun n => by rw [IntKind.wrap_u64, hCe]; omega
  have wI : ∀ n : Int, IntKind.u64.wrap n = n % (C : Int) := fun n => by rw [IntKind.wrap_u64, hCe]; rfl
  have wL : ∀ n : Nat, n < C → IntKind.u64.wrap (n : Int) = (n : Int) := fun n h => by rw [wN, Nat.mod_eq_of_lt h]
  have hBi : (4294967296 : Int) = (B : Int) := by rw [hBe]; rfl
  have hAnd : ∀ n : Nat, n * B < C → bits BinOp.and IntKind.u64 ((n * B : Nat) : Int) 4294967295 = 0 := fun n h => by
    have l1 : n * B < 18446744073709551616 := by rw [← hCe]; exact h
    have := u64_and_nat (n * B) 4294967295 l1 (by decide)
    have e := Nat.and_two_pow_sub_one_eq_mod (n * B) 32
    rw [show ((4294967295 : Nat) : Int) = 4294967295 from rfl] at this
    rw [this, show (4294967295 : Nat) = 2 ^ 32 - 1 from rfl, e, show (2 : Nat) ^ 32 = B by rw [hBe], Nat.mul_mod_left]; rfl
  have hOr : ∀ a b : Nat, a < C → b < C → a % 2 ^ (64 - t) = 0 → b < 2 ^ (64 - t) → bits BinOp.or IntKind.u64 (a : Int) (b : Int) = ((a + b : Nat) : Int) := fun a b ha hb h h' => by
    rw [hCe] at ha hb
    rw [u64_or_nat _ _ ha hb, nat_join (64 - t) _ _ h h']
  have hps : ((2 : Int) ^ (64 - t)) = ((c * B : Nat) : Int) := by rw [← hp]; simp
  have hKs : ((2 : Int) ^ (64 - (64 - t))) = (K : Int) := by rw [show 64 - (64 - t) = t by omega, ← hK]; simp
  have hd1 : ∀ n : Nat, n < B → decide ((4294967296 : Int) ≤ (n : Int)) = false := fun n h => by rw [hBi, decide_eq_false_iff_not]; omega
  have hd2 : ∀ n : Nat, n < B → decide (4294967296 ≤ n) = false := fun n h => by rw [← hBe, decide_eq_false_iff_not]; omega
  have hB0 : 0 < B := by rw [hBe]; decide
  clear hBe hCe
  obtain ⟨a1, a2, a3, a4, a5, a6, a7⟩ := d64a hi lo y c K B hy h2 hc c1 (by rw [← hCB]; exact h4)
  have hys : y * (c * B) = y * c * B := (Nat.mul_assoc _ _ _).symm
  rw [← hCB] at a6 a7
  have hyq := Nat.mul_div_mul_right (hi * C + lo) y c1
  have hym := Nat.mul_mod_mul_right c (hi * C + lo) y
  generalize hTe : hi * C + lo = T at a7 hyq hym ⊢
  generalize y * c = yn1 at a1 a2 a5 hys hyq hym
  have hl3 : ∀ n, n < B → n * B < C := fun n h => by rw [hCB]; exact Nat.mul_lt_mul_of_pos_right h hB0
  have hAl : hi * (c * B) < C := Nat.lt_of_le_of_lt (Nat.le_add_right _ _) (Nat.lt_trans a5 (hl3 _ a1))
  have hBl : lo / K < C := Nat.lt_of_le_of_lt (Nat.le_add_left _ _) (Nat.lt_trans a5 (hl3 _ a1))
  have hor := hOr (hi * (c * B)) (lo / K) hAl hBl (by rw [hp]; exact Nat.mul_mod_left _ _) (by rw [hp]; exact a3)
  generalize hi * (c * B) + lo / K = U at a5 a7 hor
  generalize lo % K * c = un1 at a4 a6 a7
  obtain ⟨q1, r1, V, q0, r0, g1, g2, g3, g4, g5, g6, g7, g8, g9, g10, g11, g12, g13⟩ := d64b yn1 U un1 B a1 a2 a5 a4
  have hQ : T / y = q1 * B + q0 := by
    rw [← hyq, a7, g13, Nat.mul_add_div a2, Nat.div_eq_of_lt g8, Nat.add_zero]
  have hR : T % y * c = r0 := by
    rw [← hym, a7, g13, Nat.mul_add_mod, Nat.mod_eq_of_lt g8]
  rw [hQ]
  generalize T % y = rem at hR
  have lV : V < C := Nat.lt_trans g5 (hl3 _ a1)
  have lU : U < C := Nat.lt_trans a5 (hl3 _ a1)
  have lr1 : r1 < B := Nat.lt_trans g3 a1
  have lr0 : r0 < B := Nat.lt_trans g8 a1
  have BC : B < C := by rw [hCB]; exact Nat.lt_of_lt_of_le (show B < B * 2 by omega) (Nat.mul_le_mul_left _ (by omega))
  refine div64_core hi lo y (64 - t) (yn1 * B) yn1 (hi * (c * B)) (lo / K) U (un1 * B) un1 q1 r1 (yn1 * q1) (r1 * B) V (U * B % C) ((U * B % C + un1) % C) (yn1 * q1 * B % C) q0 (yn1 * q0) r0 (r0 * B) (q1 * B) (q1 * B + q0) (V * B % C) (yn1 * q0 * B % C) (r0 * B) rem w h1 h2 h3 (by rw [hb]; omega) (by omega) (by omega) ?_ ?_ ?_ ?_ ?_ ?_ ?_ ?_ ?_ ?_ ?_ ?_ ?_ ?_ ?_ ?_ ?_ ?_ ?_ ?_ ?_ ?_ ?_ ?_ ?_ ?_ ?_ ?_ ?_ ?_ a2 (hd1 _ g9) (hd2 _ g9) (hd1 _ g10) (hd2 _ g10)
  · rw [hps, ← Int.natCast_mul, hys, wL _ (hl3 _ a1)]
  · rw [hBi, ← Int.natCast_ediv, Nat.mul_div_cancel _ hB0]
  · exact hAnd _ (hl3 _ a1)
  · rw [hps, ← Int.natCast_mul, wL _ hAl]
  · rw [hKs, ← Int.natCast_ediv]
  · exact hor
  · rw [hps, ← Int.natCast_mul, wN, a6]
  · rw [hBi, ← Int.natCast_ediv, Nat.mul_div_cancel _ hB0]
  · exact hAnd _ (hl3 _ a4)
  · rw [← Int.natCast_ediv, g1, wL _ (Nat.lt_trans g9 BC)]
  · rw [← Int.natCast_mul, Nat.mul_comm, wL _ (Nat.lt_of_le_of_lt (by omega) lU)]
  · rw [show (U : Int) - ((yn1 * q1 : Nat) : Int) = (r1 : Int) by omega, wL _ (Nat.lt_trans lr1 BC)]
  · rw [hBi, ← Int.natCast_mul, Nat.mul_comm, wL _ (hl3 _ lr1)]
  · rw [← Int.natCast_add, g4, wL _ lV]
  · rw [hBi, ← Int.natCast_mul, wN]
  · rw [← Int.natCast_add, wN]
  · rw [← Int.natCast_mul, show q1 * (yn1 * B) = yn1 * q1 * B by grind, wN]
  · rw [wI, Nat.mod_add_mod, g11]; exact subw _ _ _ lV
  · rw [← Int.natCast_ediv, g6, wL _ (Nat.lt_trans g10 BC)]
  · rw [← Int.natCast_mul, Nat.mul_comm, wL _ (Nat.lt_of_le_of_lt (by omega) lV)]
  · rw [show (V : Int) - ((yn1 * q0 : Nat) : Int) = (r0 : Int) by omega, wL _ (Nat.lt_trans lr0 BC)]
  · rw [hBi, ← Int.natCast_mul, Nat.mul_comm, wL _ (hl3 _ lr0)]
  · rw [wL _ (hl3 _ lr0)]
  · rw [hBi, ← Int.natCast_mul, wL _ (hl3 _ g9)]
  · rw [← Int.natCast_add, wL]
    have : (q1 + 1) * B ≤ B * B := Nat.mul_le_mul_right _ g9
    have e : (q1 + 1) * B = q1 * B + B := by grind
    omega
  · rw [hBi, ← Int.natCast_mul, wN]
  · rw [wN, Nat.mod_mod]
  · rw [← Int.natCast_mul, show q0 * (yn1 * B) = yn1 * q0 * B by grind, wN]
  · rw [wI, g12]; exact subw _ _ _ (hl3 _ lr0)
  · rw [hps, ← Int.natCast_ediv, ← hR, Nat.mul_assoc, Nat.mul_div_cancel _ (Nat.mul_pos c1 hB0)]
end Go.Proofs.YtdelgijalnmehaaDoor
