/-
  Contracts of package transit and of its reference: times and tubes.
-/
import Derived.Test.YtlpbmcnojkhdcaaDoorTC
namespace Go.Proofs.YtlpbmcnojkhdcaaDoor
open Go.RowKit
set_option linter.unusedSimpArgs false
set_option linter.unusedVariables false

/-- A slice of numbers reads as a function. -/
def Sl (w : World) (A : Option Addr) (n : Nat) (f : Nat → Int) : Prop :=
  0 < n → ∃ b off, A = some ⟨b, off, none⟩ ∧ b < w.heap.size ∧ ∀ j, j < n → w.cell? ⟨b, off + j, none⟩ = some (.int .i64 (f j))
theorem Sl.keep {w w' : World} {A : Option Addr} {n : Nat} {f : Nat → Int} (h : Sl w A n f) (hs : w.heap.size ≤ w'.heap.size) (hk : ∀ p : Addr, p.block < w.heap.size → w'.cell? p = w.cell? p) : Sl w' A n f := fun hn => by
  obtain ⟨b, off, e, hb, hc⟩ := h hn
  exact ⟨b, off, e, Nat.lt_of_lt_of_le hb hs, fun j hj => (hk _ hb).trans (hc j hj)⟩
theorem Sl.below {w w' : World} {A : Option Addr} {n : Nat} {f : Nat → Int} (h : Sl w A n f) (hb : Bl w w') : Sl w' A n f := h.keep hb.size fun _ hp => hb.cell hp

def tmTo (f : Nat → Int) : Nat → Bool
  | 0 => true
  | k + 1 => tmTo f k && inB (f k) (-1) 86399999
theorem tmTo_no (f : Nat → Int) {k n : Nat} (hk : k < n) (h : inB (f k) (-1) 86399999 = false) : tmTo f n = false := by
  induction n with
  | zero => omega
  | succ n ih =>
    by_cases e : k = n
    · subst e; simp [tmTo, h]
    · simp [tmTo, ih (by omega)]
theorem tmTo_at {f : Nat → Int} {k n : Nat} (h : tmTo f n = true) (hk : k < n) : -1 ≤ f k ∧ f k ≤ 86399999 := by
  induction n with
  | zero => omega
  | succ n ih =>
    simp only [tmTo, Bool.and_eq_true, inB_iff] at h
    by_cases e : k = n
    · subst e; exact h.2
    · exact ih h.1 (by omega)
def wOk (f : Nat → Int) (k : Nat) : Bool := inB (f k) (-100000) 100000 && (decide (k = 0) || decide (f (k - 1) < f k))
def tuTo (f : Nat → Int) : Nat → Bool
  | 0 => true
  | k + 1 => tuTo f k && wOk f k
theorem tuTo_no (f : Nat → Int) {k n : Nat} (hk : k < n) (h : wOk f k = false) : tuTo f n = false := by
  induction n with
  | zero => omega
  | succ n ih =>
    by_cases e : k = n
    · subst e; simp [tuTo, h]
    · simp [tuTo, ih (by omega)]
theorem tuTo_at {f : Nat → Int} {k n : Nat} (h : tuTo f n = true) (hk : k < n) : -100000 ≤ f k ∧ f k ≤ 100000 := by
  induction n with
  | zero => omega
  | succ n ih =>
    simp only [tuTo, wOk, Bool.and_eq_true, inB_iff] at h
    by_cases e : k = n
    · subst e; exact h.2.1
    · exact ih h.1 (by omega)
def tuB (n : Nat) (f : Nat → Int) (e : Int) : Bool := decide (1 ≤ n) && decide (n ≤ 7) && inB e 0 10000 && tuTo f n

set_option maxHeartbeats 1000000 in
theorem areTimes_any (A : Option Addr) (n c : Nat) (f : Nat → Int) (w : World) (hn : n ≤ maxLen) (h : Sl w A n f) :
    Calls Tryd.prog 37 #[.slice A n c] w fun e w' => e = .returned (.bool (tmTo f n)) ∧ w = w' := by
  unfold maxLen at hn
  go_enter Tryd.func37, Tryd.ntmps37
  go_wp2_with fail
  go_loop [7] (fun i => ∃ k : Nat, k ≤ n ∧ i = .int .i64 k ∧ tmTo f k = true) (fun i => n - (intOf i).toNat)
  case atStart => exact ⟨0, Nat.zero_le _, rfl, rfl⟩
  case round =>
    obtain ⟨k, hk, rfl, ho⟩ := hrel
    have HO := Lib.hid ho
    clear ho
    by_cases hlt : k < n
    · obtain ⟨b, off, rfl, hb, hc⟩ := h (by omega)
      have c1 := hc k hlt
      clear hc
      have HF := Lib.hid (fun q => tmTo_no f (k := k) (n := n) hlt q)
      by_cases q1 : f k < -1
      · have H2 := Lib.hid (HF.out (inB_no.2 (by omega)))
        go_wp2_with fail
        go_ret
        exact ⟨ret_bool H2.out.symm, rfl⟩
      · by_cases q2 : f k ≤ 86399999
        · have H2 := Lib.hid (show inB (f k) (-1) 86399999 = true from inB_iff.2 ⟨by omega, q2⟩)
          have q1' : -1 ≤ f k := by omega
          clear q1
          go_wp2_with fail
          go_round
          case rel => exact ⟨k + 1, by omega, by go_num, by rw [tmTo, HO.out, H2.out]; rfl⟩
          case measure => simp [intOf]; omega
        · have H2 := Lib.hid (HF.out (inB_no.2 (by omega)))
          have q1' : -1 ≤ f k := by omega
          have q2' : 86400000 ≤ f k := by omega
          clear q1 q2
          go_wp2_with fail
          go_ret
          exact ⟨ret_bool H2.out.symm, rfl⟩
    · go_wp2_with fail
      go_ret
      obtain rfl : k = n := by omega
      exact ⟨ret_bool HO.out.symm, rfl⟩

set_option maxHeartbeats 1000000 in
theorem validTube_any (A : Option Addr) (n c : Nat) (f : Nat → Int) (e : Int) (w : World) (hn : n ≤ maxLen) (h : Sl w A n f) :
    Calls Tryd.prog 36 #[.agg #[.slice A n c, .int .i64 e]] w fun e' w' => e' = .returned (.bool (tuB n f e)) ∧ Bl w w' := by
  unfold maxLen at hn
  by_cases hv : (1 ≤ n ∧ n ≤ 7) ∧ 0 ≤ e ∧ e ≤ 10000
  · obtain ⟨⟨h1, h2⟩, h3, h4⟩ := hv
    have HT := Lib.hid (show tuB n f e = tuTo f n by simp [tuB, inB, h1, h2, h3, h4])
    go_enter Tryd.func36, Tryd.ntmps36
    go_wp2_with fail
    go_loop [28] (fun i => ∃ k : Nat, k ≤ n ∧ i = .int .i64 k ∧ tuTo f k = true) (fun i => n - (intOf i).toNat)
    case atStart => exact ⟨0, Nat.zero_le _, rfl, rfl⟩
    case round =>
      obtain ⟨k, hk, rfl, ho⟩ := hrel
      have HO := Lib.hid ho
      clear ho
      by_cases hlt : k < n
      · obtain ⟨b, off, rfl, hb, hc⟩ := h (by omega)
        have c1 := hc k hlt
        have c2 := hc (k - 1) (by omega)
        clear hc
        have HF := Lib.hid (fun q => tuTo_no f (k := k) (n := n) hlt q)
        by_cases q1 : f k < -100000
        · have H2 := Lib.hid (HF.out (by simp [wOk, inB]; omega))
          go_wp2_with fail
          go_ret
          exact ⟨ret_bool (by rw [HT.out, H2.out]), by go_grown⟩
        · have q1' : -100000 ≤ f k := by omega
          clear q1
          by_cases q2 : f k ≤ 100000
          · by_cases q3 : k = 0
            · subst q3
              rw [Nat.add_zero] at c1
              clear c2
              have H2 := Lib.hid (show wOk f 0 = true by simp [wOk, inB, q1', q2])
              go_wp2_with fail
              go_round
              case rel => exact ⟨0 + 1, by omega, by go_num, by rw [tuTo, HO.out, H2.out]; rfl⟩
              case measure => simp [intOf]; omega
            · have q3' : 0 < k := by omega
              have W := Lib.hid (show wOk f k = decide (f (k - 1) < f k) by simp [wOk, inB, q1', q2, q3])
              clear q3
              by_cases q4 : f (k - 1) < f k
              · have H2 := Lib.hid (show wOk f k = true by rw [W.out]; simpa using q4)
                go_wp2_with fail
                go_round
                case rel => exact ⟨k + 1, by omega, by go_num, by rw [tuTo, HO.out, H2.out]; rfl⟩
                case measure => simp [intOf]; omega
              · have q4' : f k ≤ f (k - 1) := by omega
                have H2 := Lib.hid (HF.out (by rw [W.out]; simpa using q4))
                clear q4
                go_wp2_with fail
                go_ret
                exact ⟨ret_bool (by rw [HT.out, H2.out]), by go_grown⟩
          · have q2' : 100000 < f k := by omega
            have H2 := Lib.hid (HF.out (by simp [wOk, inB]; omega))
            clear q2
            go_wp2_with fail
            go_ret
            exact ⟨ret_bool (by rw [HT.out, H2.out]), by go_grown⟩
      · go_wp2_with fail
        go_ret
        obtain rfl : k = n := by omega
        exact ⟨ret_bool (by rw [HT.out, HO.out]), by go_grown⟩
  · have HT := Lib.hid (show tuB n f e = false by rw [Bool.eq_false_iff]; intro q; simp only [tuB, Bool.and_eq_true, decide_eq_true_eq, inB_iff] at q; exact hv ⟨q.1.1, q.1.2⟩)
    have HV := Lib.hid hv
    clear hv
    go_enter Tryd.func36, Tryd.ntmps36
    go_wp2_with fail
    all_goals first
      | (go_ret; exact ⟨ret_bool HT.out.symm, by go_grown⟩)
      | (exfalso; have := HV.out; simp at *; omega)
