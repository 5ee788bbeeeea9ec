/-
  Contracts of the references' comparisons of numbers and transits; what the crossing of a wired transit is.
-/
import Derived.Test.YtlpbmcnojkhdcaaTJ
import Derived.BigQuiet
import Derived.Deep.QuietTactic
namespace Go.Proofs.Ytlpbmcnojkhdcaa
open Go.RowKit
set_option linter.unusedSimpArgs false
set_option linter.unusedVariables false

def eqTo (f g : Nat → Int) : Nat → Bool
  | 0 => true
  | k + 1 => eqTo f g k && decide (f k = g k)
theorem eqTo_no (f g : Nat → Int) {k n : Nat} (hk : k < n) (h : f k ≠ g k) : eqTo f g n = false := by
  induction n with
  | zero => omega
  | succ n ih =>
    by_cases e : k = n
    · subst e; simp [eqTo, h]
    · simp [eqTo, ih (by omega)]
theorem eqTo_same (f : Nat → Int) (n : Nat) : eqTo f f n = true := by
  induction n with
  | zero => rfl
  | succ n ih => simp [eqTo, ih]
def sIB (n : Nat) (f : Nat → Int) (m : Nat) (g : Nat → Int) : Bool := decide (n = m) && eqTo f g n

set_option maxHeartbeats 1600000 in
theorem sameInts_any (A : Option Addr) (n c : Nat) (f : Nat → Int) (B : Option Addr) (m d : Nat) (g : Nat → Int) (w : World) (hn : n ≤ maxLen) (hm : m ≤ maxLen) (hA : Sl w A n f) (hB : Sl w B m g) :
    Calls Try.prog 39 #[.slice A n c, .slice B m d] w fun e w' => e = .returned (.bool (sIB n f m g)) ∧ ∃ N, w' = w.drewN N := by
  unfold maxLen at hn hm
  have HA := Lib.hid hA
  have HB := Lib.hid hB
  clear hA hB
  by_cases hnm : n = m
  · have q0 : ((n : Int) != (m : Int)) = false := by simp [hnm]
    have HS := Lib.hid (show sIB n f m g = eqTo f g n by simp [sIB, hnm])
    have k1 : n ≤ m := by omega
    clear hnm
    go_enter Try.func39, Try.ntmps39
    go_wp2_with fail
    clear q0
    go_loopw [13] (fun i wr => ∃ k N : Nat, k ≤ n ∧ i = .int .i64 k ∧ Hid (eqTo f g k = true) ∧ wr = w.drewN N) (fun i _ => n - (intOf i).toNat)
    case atStart => exact ⟨0, 0, Nat.zero_le _, rfl, rfl, rfl⟩
    case round =>
      obtain ⟨k, N, hk, rfl, HO, rfl⟩ := hrel
      by_cases hlt : k < n
      · obtain ⟨b, off, eA, hbb, hc⟩ := HA.out (by omega)
        obtain ⟨b', off', eB, hbb', hc'⟩ := HB.out (by omega)
        subst eA eB
        have c1 := hc k hlt
        have c2 := hc' k (by omega)
        clear hc hc'
        by_cases q : f k = g k
        · have q1 : (f k != g k) = false := by simp [q]
          have HY := Lib.hid (show eqTo f g (k + 1) = true by rw [eqTo, HO.out]; simp [q])
          clear q
          go_wp2_with fail
          go_quiet (fail)
          go_wp2_with fail
          go_roundw
          case rel => exact ⟨k + 1, _, by omega, by go_num, HY.out, rfl⟩
          case measure => simp [intOf]; omega
        · have q1 : (f k != g k) = true := by simpa using q
          have HN := Lib.hid (eqTo_no f g (k := k) (n := n) hlt q)
          clear q
          go_wp2_with fail
          go_quiet (fail)
          go_wp2_with fail
          go_ret
          exact ⟨ret_bool (by rw [HS.out, HN.out]), N + nq, by rw [World.drewN_drewN]⟩
      · obtain rfl : k = n := by omega
        go_wp2_with fail
        go_ret
        exact ⟨ret_bool (by rw [HS.out, HO.out]), _, rfl⟩
  · have q0 : ((n : Int) != (m : Int)) = true := by simp; omega
    have HS := Lib.hid (show sIB n f m g = false by simp [sIB, hnm])
    clear hnm
    go_enter Try.func39, Try.ntmps39
    go_wp2_with fail
    go_ret
    exact ⟨ret_bool HS.out.symm, 0, rfl⟩

set_option maxHeartbeats 1600000 in
theorem sameOne_any (b1 b2 : Nat) (s : ByteArray) (a h l : Int) (A : Option Addr) (n c : Nat) (f : Nat → Int) (B : Option Addr) (d : Nat) (w : World) (hn : n ≤ maxLen) (hA : Sl w A n f) (hB : Sl w B n f)
    (x0 : w.cell? ⟨b1, 0, none⟩ = some (.string s)) (x1 : w.cell? ⟨b1, 1, none⟩ = some (.int .i64 a)) (x2 : w.cell? ⟨b1, 2, none⟩ = some (.int .i64 h)) (x3 : w.cell? ⟨b1, 3, none⟩ = some (.int .i64 l)) (x4 : w.cell? ⟨b1, 4, none⟩ = some (.slice A n c))
    (y0 : w.cell? ⟨b2, 0, none⟩ = some (.string s)) (y1 : w.cell? ⟨b2, 1, none⟩ = some (.int .i64 a)) (y2 : w.cell? ⟨b2, 2, none⟩ = some (.int .i64 h)) (y3 : w.cell? ⟨b2, 3, none⟩ = some (.int .i64 l)) (y4 : w.cell? ⟨b2, 4, none⟩ = some (.slice B n d)) :
    Calls Try.prog 46 #[.slice (some ⟨b1, 0, none⟩) 1 1, .slice (some ⟨b2, 0, none⟩) 1 1] w fun e w' => e = .returned (.bool true) ∧ Bl w w' := by
  have HA := Lib.hid hA
  have HB := Lib.hid hB
  have HN := Lib.hid hn
  clear hA hB hn
  have HS := Lib.hid (show sIB n f n f = true by simp [sIB, eqTo_same])
  have HC := Lib.hid (fun k : Nat => (sameInts_any A n c f B n d f (w.drewN k) HN.out HN.out HA.out HB.out).mono (fun (e : Ending) w' ⟨he, N, hw⟩ => (⟨by rw [he, HS.out], N, hw⟩ : e = Ending.returned (.bool true) ∧ ∃ m, w' = (w.drewN k).drewN m)))
  go_enter Try.func46, Try.ntmps46
  go_wp2_with fail
  refine wp_loop_rounds 2 ?_
  rw [rounds_succ]
  go_wp2_with fail
  go_quiet ((go_at_call 39; exact Calls.quiet_of (HC.out _)))
  go_wp2_with fail
  rw [rounds_succ]
  go_wp2_with fail
  go_ret
  exact ⟨rfl, Bl.dq _ _⟩
end Go.Proofs.Ytlpbmcnojkhdcaa
