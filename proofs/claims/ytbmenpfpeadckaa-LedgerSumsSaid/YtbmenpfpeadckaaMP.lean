/-
  Package ledger: sum.
-/
import Derived.Test.YtbmenpfpeadckaaMD
namespace Go.Proofs.Ytbmenpfpeadckaa
open Go.RowKit Go.Maps Go.Shelf
set_option linter.unusedSimpArgs false
set_option linter.unusedVariables false

def sumL (l : List Int) : Int := l.foldl (· + ·) 0
theorem sumL_snoc (l : List Int) (x : Int) : sumL (l ++ [x]) = sumL l + x := by simp [sumL, List.foldl_append]
theorem sumL_bd {l : List Int} {M : Int} (hM : 0 ≤ M) (h : ∀ x, x ∈ l → -M ≤ x ∧ x ≤ M) : ∀ k, k ≤ l.length → -(M * k) ≤ sumL (l.take k) ∧ sumL (l.take k) ≤ M * k
  | 0, _ => by simp [sumL]
  | k + 1, hk => by
    have ih := sumL_bd hM h k (by omega)
    have hx := h (l.getD k 0) (by simp [List.getD, show k < l.length by omega])
    rw [take_succ_getD l (by omega), sumL_snoc]
    have e : M * ((k + 1 : Nat) : Int) = M * (k : Int) + M := by rw [Int.natCast_succ, Int.mul_add, Int.mul_one]
    rw [e]
    omega
set_option maxRecDepth 100000 in
set_option maxHeartbeats 1600000 in
theorem sumN_any (A : Option Addr) (m c : Nat) (l : List Int) (w : World) (hml : m = l.length) (hm : m ≤ 1000) (hA : Sl w A m (fun j => l.getD j 0)) (hb : ∀ x, x ∈ l → -172800000 ≤ x ∧ x ≤ 172800000) :
    Calls Try.prog 57 #[.slice A m c] w fun e w' => e = .returned (.int .i64 (sumL l)) ∧ Bl w w' := by
  have HA := Lib.hid hA
  have HM := Lib.hid hml
  have HB := Lib.hid (fun k (hk : k ≤ l.length) => sumL_bd (M := 172800000) (by decide) hb k hk)
  have HX := Lib.hid hb
  clear hA hml hb
  go_enter Try.func57, Try.ntmps57
  go_wp2_with fail
  go_loopw [3, 8] (fun t i wr => ∃ (k : Nat) (s : Int), k ≤ m ∧ i = .int .i64 k ∧ t = .int .i64 s ∧ Hid (s = sumL (l.take k)) ∧ Hid (Bl w wr)) (fun _ i _ => m - (RowKit.intOf i).toNat)
  case atStart => exact ⟨0, 0, Nat.zero_le _, rfl, rfl, rfl, Bl.rf _⟩
  case round =>
    obtain ⟨k, s, hk, rfl, rfl, HS, HZ⟩ := hrel
    by_cases hlt : k < m
    · obtain ⟨b', off, rfl, hbb, hc⟩ := (HA.out.below HZ.out) (by omega)
      have c0 := hc k hlt
      clear hc
      have hx := HX.out (l.getD k 0) (by have : k < l.length := by rw [← HM.out]; exact hlt
                                         simp [List.getD, this])
      have hs := HB.out k (by rw [← HM.out]; exact hk)
      rw [← HS.out] at hs
      have HT := Lib.hid (show sumL (l.take (k + 1)) = s + l.getD k 0 by rw [take_succ_getD l (by rw [← HM.out]; exact hlt), sumL_snoc, ← HS.out])
      obtain ⟨x, hxx⟩ : ∃ x, x = l.getD k 0 := ⟨_, rfl⟩
      simp only [← hxx] at c0 hx HT
      clear hxx
      have e1 : wrap64 (s + x) = s + x := IntWalk.wrap64_in _ (by omega)
      have e2 : IntKind.i64.wrap (s + x) = s + x := IntWalk.i64_in _ (by omega)
      clear hs hx
      go_wp2_with fail
      go_roundw
      case rel => exact ⟨k + 1, s + x, by omega, by go_num, rfl, HT.out.symm, HZ.out⟩
      case measure => simp [RowKit.intOf]; omega
    · obtain rfl : k = m := by omega
      have HQ := Lib.hid (show sumL l = s by rw [HS.out, HM.out, List.take_length])
      go_wp2_with fail
      go_ret
      exact ⟨by rw [HQ.out]; rfl, HZ.out⟩
end Go.Proofs.Ytbmenpfpeadckaa
