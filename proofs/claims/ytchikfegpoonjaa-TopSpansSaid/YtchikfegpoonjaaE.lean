/-
  Contracts of the two greatest common divisors.
-/
import Derived.Test.YtchikfegpoonjaaA
import Derived.Deep.QuietTactic
import Derived.BigQuiet
namespace Go.Proofs.Ytchikfegpoonjaa
open Go.RowKit
set_option linter.unusedSimpArgs false

theorem Bl.dn (w : World) (n : Nat) : Bl w (w.drewN n) := ⟨rfl, rfl, rfl, Nat.le_refl _, fun _ _ => rfl⟩
theorem gcd_step (a b : Int) : Int.gcd b (a.tmod b) = Int.gcd a b := by
  unfold Int.gcd
  rw [Int.natAbs_tmod, Nat.gcd_comm b.natAbs, ← Nat.gcd_rec, Nat.gcd_comm]
theorem tmod_small (a b : Int) (h : b ≠ 0) : (a.tmod b).natAbs < b.natAbs := by
  rw [Int.natAbs_tmod]; exact Nat.mod_lt _ (by omega)

set_option maxHeartbeats 400000 in
theorem cd_any (a b : Int) (w : World) (ha : -4000000000000000000 ≤ a) (ha' : a ≤ 4000000000000000000) (hb : -4000000000000000000 ≤ b) (hb' : b ≤ 4000000000000000000) :
    Calls Try.prog 39 #[.int .i64 a, .int .i64 b] w fun e w' => e = .returned (.int .i64 (Int.gcd a b)) ∧ Bl w w' := by
  go_enter Try.func39, Try.ntmps39
  go_wp2
  go_loopw [0, 1] (fun u v wr => ∃ x y : Int, u = .int .i64 x ∧ v = .int .i64 y ∧ -4000000000000000000 ≤ x ∧ x ≤ 4000000000000000000 ∧ -4000000000000000000 ≤ y ∧ y ≤ 4000000000000000000 ∧ Hid (Int.gcd x y = Int.gcd a b) ∧ Bl w wr) (fun _ v _ => (intOf v).natAbs)
  case atStart => exact ⟨a, b, rfl, rfl, ha, ha', hb, hb', rfl, Bl.rf _⟩
  case round =>
    obtain ⟨x, y, rfl, rfl, x1, x2, y1, y2, H, B⟩ := hrel
    by_cases hy : y = 0
    · have hy' : (y != 0) = false := by simp [hy]
      have Hy := Lib.hid hy
      clear hy
      by_cases hx : x < 0
      · go_wp2
        go_ret
        refine ⟨ret_int ?_, B⟩
        have := H.out; rw [Hy.out] at this; simp at this; omega
      · go_wp2
        go_ret
        refine ⟨ret_int ?_, B⟩
        have := H.out; rw [Hy.out] at this; simp at this; omega
    · have hy' : (y != 0) = true := by simp [hy]
      have hs := gcd_step x y
      have ht := tmod_small x y hy
      have Hs := Lib.hid hs
      have Ht := Lib.hid ht
      clear hs ht
      go_wp2
      go_quiet (fail)
      go_wp2
      go_roundw
      case rel =>
        have := Ht.out
        refine ⟨y, x.tmod y, rfl, rfl, y1, y2, by omega, by omega, Hs.out.trans H.out, B.tr (Bl.dn _ _)⟩
      case measure =>
        have := Ht.out
        simpa [intOf] using this

theorem gcd_step2 (a b : Int) (ha : 0 ≤ a) (hb : 0 ≤ b) (h : b ≠ 0) : Int.gcd b (a % b) = Int.gcd a b ∧ 0 ≤ a % b ∧ a % b < b ∧ (a % b).natAbs < b.natAbs := by
  have h1 := Int.emod_nonneg a h
  have h2 := Int.emod_lt_of_pos a (show 0 < b by omega)
  refine ⟨?_, h1, h2, by omega⟩
  rw [← gcd_step a b, Int.tmod_eq_emod_of_nonneg ha]

theorem gcd_abs (a b x y : Int) (h1 : x = a ∨ x = -a) (h2 : y = b ∨ y = -b) : Int.gcd x y = Int.gcd a b := by
  unfold Int.gcd
  rw [show x.natAbs = a.natAbs by omega, show y.natAbs = b.natAbs by omega]

def vR (n d : Int) : Bool := decide (1 ≤ d ∧ d ≤ 1000000000 ∧ -1000000000 ≤ n ∧ n ≤ 1000000000) && decide ((Int.gcd n d : Int) = 1)
theorem vR_iff {n d : Int} : vR n d = true ↔ (1 ≤ d ∧ d ≤ 1000000000 ∧ -1000000000 ≤ n ∧ n ≤ 1000000000) ∧ (Int.gcd n d : Int) = 1 := by simp [vR]
