/-
  Slices of numbers as functions; the references' comparison of lists of numbers.
-/
import Derived.Test.YtoigbppnfjmojaaA
import Derived.BigQuiet
import Derived.Deep.QuietTactic
import Derived.Deep.OwnRows
import Derived.Deep.AppendLies
namespace Go.Proofs.Ytoigbppnfjmojaa
open Go.RowKit
set_option linter.unusedSimpArgs false
set_option linter.unusedVariables false

/-- What a slice of numbers holds. -/
def Sn (w : World) (A : Option Addr) (n : Nat) (f : Nat → Int) : Prop :=
  0 < n → ∃ b off, A = some ⟨b, off, none⟩ ∧ b < w.heap.size ∧ ∀ j, j < n → w.cell? ⟨b, off + j, none⟩ = some (.int .i64 (f j))
theorem Sn.keep {w w' : World} {A : Option Addr} {n : Nat} {f : Nat → Int} (h : Sn w A n f) (hs : w.heap.size ≤ w'.heap.size) (hk : ∀ p : Addr, p.block < w.heap.size → w'.cell? p = w.cell? p) : Sn w' A n f := fun hn => by
  obtain ⟨b, off, e, hb, hc⟩ := h hn
  exact ⟨b, off, e, Nat.lt_of_lt_of_le hb hs, fun j hj => (hk _ hb).trans (hc j hj)⟩
theorem Sn.below {w w' : World} {A : Option Addr} {n : Nat} {f : Nat → Int} (h : Sn w A n f) (hb : Bl w w') : Sn w' A n f := h.keep hb.size fun _ hp => hb.cell hp
/-- The cells of a list of numbers. -/
def intC (l : List Int) : List Value := l.map (Value.int .i64)
theorem intC_len (l : List Int) : (intC l).length = l.length := by simp [intC]
theorem intC_snoc (l : List Int) (x : Int) : intC (l ++ [x]) = intC l ++ [.int .i64 x] := by simp [intC]
theorem sn_of_own {w : World} {base : Nat} {e : TypeId} {A : Option Addr} {c : Nat} {l : List Int} (h : w.ownsRow base e 1 (.slice A l.length c) l.length (intC l)) : Sn w A l.length (fun j => l.getD j 0) := fun hn => by
  obtain ⟨g, cap, hv, hg, hlt⟩ := h.form hn
  obtain rfl : A = some ⟨g, 0, none⟩ := by injection hv
  exact ⟨g, 0, rfl, hlt, fun j hj => by
    rw [Nat.zero_add, h.cellAt j (by omega)]
    simp [intC, hj]⟩
def eqN (f g : Nat → Int) : Nat → Bool
  | 0 => true
  | k + 1 => eqN f g k && decide (f k = g k)
theorem eqN_no (f g : Nat → Int) {k n : Nat} (hk : k < n) (h : f k ≠ g k) : eqN f g n = false := by
  induction n with
  | zero => omega
  | succ n ih =>
    by_cases e : k = n
    · subst e; simp [eqN, h]
    · simp [eqN, ih (by omega)]
theorem eqN_same (f : Nat → Int) (n : Nat) : eqN f f n = true := by
  induction n with
  | zero => rfl
  | succ n ih => simp [eqN, ih]
def sNB (n : Nat) (f : Nat → Int) (m : Nat) (g : Nat → Int) : Bool := decide (n = m) && eqN f g n

set_option maxHeartbeats 1600000 in
theorem sameN_any (A : Option Addr) (n c : Nat) (f : Nat → Int) (B : Option Addr) (m d : Nat) (g : Nat → Int) (w : World) (hn : n ≤ maxLen) (hm : m ≤ maxLen) (hA : Sn w A n f) (hB : Sn w B m g) :
    Calls Try.prog 17 #[.slice A n c, .slice B m d] w fun e w' => e = .returned (.bool (sNB n f m g)) ∧ ∃ N, w' = w.drewN N := by
  unfold maxLen at hn hm
  have HA := Lib.hid hA
  have HB := Lib.hid hB
  clear hA hB
  by_cases hnm : n = m
  · have q0 : ((n : Int) != (m : Int)) = false := by simp [hnm]
    have HS := Lib.hid (show sNB n f m g = eqN f g n by simp [sNB, hnm])
    have k1 : n ≤ m := by omega
    clear hnm
    go_enter Try.func17, Try.ntmps17
    go_wp2_with fail
    clear q0
    go_loopw [13] (fun i wr => ∃ k N : Nat, k ≤ n ∧ i = .int .i64 k ∧ Hid (eqN f g k = true) ∧ wr = w.drewN N) (fun i _ => n - (intOf i).toNat)
    case atStart => exact ⟨0, 0, Nat.zero_le _, rfl, rfl, rfl⟩
    case round =>
      obtain ⟨k, N, hk, rfl, HO, rfl⟩ := hrel
      by_cases hlt : k < n
      · obtain ⟨b, off, eA, hbb, hc⟩ := HA.out (by omega)
        obtain ⟨b', off', eB, hbb', hc'⟩ := HB.out (by omega)
        subst eA eB
        have c1 := hc k hlt
        have c2 := hc' k (by omega)
        clear hc hc'
        by_cases q : f k = g k
        · have q1 : (f k != g k) = false := by simp [q]
          have HY := Lib.hid (show eqN f g (k + 1) = true by rw [eqN, HO.out]; simp [q])
          clear q
          go_wp2_with fail
          go_quiet (fail)
          go_wp2_with fail
          go_roundw
          case rel => exact ⟨k + 1, _, by omega, by go_num, HY.out, rfl⟩
          case measure => simp [intOf]; omega
        · have q1 : (f k != g k) = true := by simpa using q
          have HN := Lib.hid (eqN_no f g (k := k) (n := n) hlt q)
          clear q
          go_wp2_with fail
          go_quiet (fail)
          go_wp2_with fail
          go_ret
          exact ⟨ret_bool (by rw [HS.out, HN.out]), N + nq, by rw [World.drewN_drewN]⟩
      · obtain rfl : k = n := by omega
        go_wp2_with fail
        go_ret
        exact ⟨ret_bool (by rw [HS.out, HO.out]), _, rfl⟩
  · have q0 : ((n : Int) != (m : Int)) = true := by simp; omega
    have HS := Lib.hid (show sNB n f m g = false by simp [sNB, hnm])
    clear hnm
    go_enter Try.func17, Try.ntmps17
    go_wp2_with fail
    go_ret
    exact ⟨ret_bool HS.out.symm, 0, rfl⟩

end Go.Proofs.Ytoigbppnfjmojaa
