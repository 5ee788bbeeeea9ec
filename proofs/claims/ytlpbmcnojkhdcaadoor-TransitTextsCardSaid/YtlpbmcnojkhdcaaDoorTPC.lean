/-
  Contracts of the texts of lists of stars: compared.
-/
import Derived.Test.YtlpbmcnojkhdcaaDoorTPB
namespace Go.Proofs.YtlpbmcnojkhdcaaDoor
open Go.RowKit Go.Lib
set_option linter.unusedSimpArgs false
set_option linter.unusedVariables false

set_option maxHeartbeats 1600000 in
theorem sameStars_any (A : Option Addr) (n c : Nat) (B : Option Addr) (d : Nat) (T : Nat → Sta) (w : World) (hn : n ≤ maxLen) (hA : Stl w A n T) (hB : Stl w B n T) :
    Calls Tryd.prog 9 #[.slice A n c, .slice B n d] w fun e w' => e = .returned (.bool true) ∧ ∃ N, w' = w.drewN N := by
  unfold maxLen at hn
  have HA := Lib.hid hA
  have HB := Lib.hid hB
  clear hA hB
  go_enter Tryd.func9, Tryd.ntmps9
  go_wp2_with fail
  go_loopw [13] (fun i wr => ∃ k N : Nat, k ≤ n ∧ i = .int .i64 k ∧ wr = w.drewN N) (fun i _ => n - (RowKit.intOf i).toNat)
  case atStart => exact ⟨0, 0, Nat.zero_le _, rfl, rfl⟩
  case round =>
    obtain ⟨k, N, hk, rfl, rfl⟩ := hrel
    by_cases hlt : k < n
    · obtain ⟨b, off, eA, hbb, hc⟩ := HA.out (by omega)
      obtain ⟨b', off', eB, hbb', hc'⟩ := HB.out (by omega)
      subst eA eB
      obtain ⟨c0, c1, c2, c3⟩ := hc k hlt
      obtain ⟨d0, d1, d2, d3⟩ := hc' k hlt
      clear hc hc'
      go_wp2_with fail
      go_quiet (fail)
      go_wp2_with fail
      go_roundw
      case rel => exact ⟨k + 1, _, by omega, by go_num, rfl⟩
      case measure => simp [RowKit.intOf]; omega
    · obtain rfl : k = n := by omega
      go_wp2_with fail
      go_ret
      exact ⟨rfl, _, rfl⟩
end Go.Proofs.YtlpbmcnojkhdcaaDoor
