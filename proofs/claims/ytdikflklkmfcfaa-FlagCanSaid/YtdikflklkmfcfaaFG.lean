/-
  Validity of digits and hoists; SameInts.
-/
import Derived.Test.YtdikflklkmfcfaaFC
namespace Go.Proofs.Ytdikflklkmfcfaa
open Go.RowKit
set_option linter.unusedSimpArgs false
set_option linter.unusedVariables false

/-- The first k are digits. -/
def dgTo (D : Nat → Int) : Nat → Bool
  | 0 => true
  | k + 1 => dgTo D k && inB (D k) 0 9
theorem dgTo_no (D : Nat → Int) {k n : Nat} (hk : k < n) (h : inB (D k) 0 9 = false) : dgTo D n = false := by
  induction n with
  | zero => omega
  | succ n ih =>
    by_cases e : k = n
    · subst e; simp [dgTo, h]
    · simp [dgTo, ih (by omega)]
theorem dgTo_at {D : Nat → Int} {k n : Nat} (h : dgTo D n = true) (hk : k < n) : 0 ≤ D k ∧ D k ≤ 9 := by
  induction n with
  | zero => omega
  | succ n ih =>
    simp only [dgTo, Bool.and_eq_true, inB_iff] at h
    by_cases e : k = n
    · subst e; exact h.2
    · exact ih h.1 (by omega)
theorem dgTo_of {D : Nat → Int} {n : Nat} (h : ∀ k, k < n → 0 ≤ D k ∧ D k ≤ 9) : dgTo D n = true := by
  induction n with
  | zero => rfl
  | succ n ih => simp only [dgTo, Bool.and_eq_true, inB_iff]; exact ⟨ih (fun k hk => h k (by omega)), h n (by omega)⟩
/-- Digits are valid. -/
def vdB (n : Nat) (D : Nat → Int) : Bool := inB n 1 4 && dgTo D n
theorem vdB_iff {n : Nat} {D : Nat → Int} : vdB n D = true ↔ (1 ≤ n ∧ n ≤ 4) ∧ dgTo D n = true := by
  unfold vdB; rw [Bool.and_eq_true, inB_iff]; constructor <;> (intro ⟨a, b⟩; exact ⟨by omega, b⟩)
/-- A flag differs from the first k. -/
def newTo (H : Nat → Int) (x : Int) : Nat → Bool
  | 0 => true
  | k + 1 => newTo H x k && decide (x ≠ H k)
theorem newTo_no (H : Nat → Int) (x : Int) {k n : Nat} (hk : k < n) (h : x = H k) : newTo H x n = false := by
  induction n with
  | zero => omega
  | succ n ih =>
    by_cases e : k = n
    · subst e; simp [newTo, h]
    · simp [newTo, ih (by omega)]
theorem newTo_iff {H : Nat → Int} {x : Int} {n : Nat} : newTo H x n = true ↔ ∀ k, k < n → x ≠ H k := by
  induction n with
  | zero => simp [newTo]
  | succ n ih =>
    rw [newTo, Bool.and_eq_true, ih, decide_eq_true_eq]
    constructor
    · intro ⟨a, b⟩ k hk; by_cases e : k = n; (subst e; exact b); exact a k (by omega)
    · intro h; exact ⟨fun k hk => h k (by omega), h n (by omega)⟩
/-- The flag at place k may hang there. -/
def okF (H : Nat → Int) (k : Nat) : Bool := inB (H k) 0 12 && decide (H k - 10 < k) && newTo H (H k) k
def hoTo (H : Nat → Int) : Nat → Bool
  | 0 => true
  | k + 1 => hoTo H k && okF H k
theorem hoTo_no (H : Nat → Int) {k n : Nat} (hk : k < n) (h : okF H k = false) : hoTo H n = false := by
  induction n with
  | zero => omega
  | succ n ih =>
    by_cases e : k = n
    · subst e; simp [hoTo, h]
    · simp [hoTo, ih (by omega)]
theorem hoTo_at {H : Nat → Int} {k n : Nat} (h : hoTo H n = true) (hk : k < n) : okF H k = true := by
  induction n with
  | zero => omega
  | succ n ih =>
    simp only [hoTo, Bool.and_eq_true] at h
    by_cases e : k = n
    · subst e; exact h.2
    · exact ih h.1 (by omega)
/-- A hoist is valid. -/
def vhB (n : Nat) (H : Nat → Int) : Bool := inB n 1 4 && hoTo H n
/-- The flags that are left behind the first k. -/
def lftF (H : Nat → Int) : Nat → Nat
  | 0 => 8191
  | k + 1 => clr (lftF H k) (H k).toNat
theorem lftF_lt (H : Nat → Int) (k : Nat) : lftF H k < 8192 := by
  induction k with
  | zero => show 8191 < 8192; omega
  | succ k ih => exact clr_lt ih
theorem all_has (f : Nat) (h : f < 13) : hasB 8191 f = true := by
  rcases cases13 h with rfl | rfl | rfl | rfl | rfl | rfl | rfl | rfl | rfl | rfl | rfl | rfl | rfl <;> decide
theorem lftF_has {H : Nat → Int} {k : Nat} (h : ∀ j, j < k → 0 ≤ H j) {f : Nat} (hf : f < 13) : hasB (lftF H k) f = newTo H (f : Int) k := by
  induction k with
  | zero => exact all_has f hf
  | succ k ih =>
    rw [lftF, hasB_clr, ih (fun j hj => h j (by omega)), newTo]
    congr 1
    have := h k (by omega)
    rw [Bool.eq_iff_iff, decide_eq_true_eq, decide_eq_true_eq]
    constructor <;> (intro a b; omega)

set_option maxHeartbeats 1600000 in
theorem sameInts7_any (A : Option Addr) (n c : Nat) (f : Nat → Int) (B : Option Addr) (m d : Nat) (g : Nat → Int) (w : World) (hn : n ≤ maxLen) (hm : m ≤ maxLen) (hA : Sl w A n f) (hB : Sl w B m g) :
    Calls Try.prog 13 #[.slice A n c, .slice B m d] w fun e w' => e = .returned (.bool (sIB n f m g)) ∧ ∃ N, w' = w.drewN N := by
  unfold maxLen at hn hm
  have HA := Lib.hid hA
  have HB := Lib.hid hB
  clear hA hB
  by_cases hnm : n = m
  · have q0 : ((n : Int) != (m : Int)) = false := by simp [hnm]
    have HS := Lib.hid (show sIB n f m g = eqTo f g n by simp [sIB, hnm])
    have k1 : n ≤ m := by omega
    clear hnm
    go_enter Try.func13, Try.ntmps13
    go_wp2_with fail
    clear q0
    go_loopw [13] (fun i wr => ∃ k N : Nat, k ≤ n ∧ i = .int .i64 k ∧ Hid (eqTo f g k = true) ∧ wr = w.drewN N) (fun i _ => n - (intOf i).toNat)
    case atStart => exact ⟨0, 0, Nat.zero_le _, rfl, rfl, rfl⟩
    case round =>
      obtain ⟨k, N, hk, rfl, HO, rfl⟩ := hrel
      by_cases hlt : k < n
      · obtain ⟨b, off, eA, hbb, hc⟩ := HA.out (by omega)
        obtain ⟨b', off', eB, hbb', hc'⟩ := HB.out (by omega)
        subst eA eB
        have c1 := hc k hlt
        have c2 := hc' k (by omega)
        clear hc hc'
        by_cases q : f k = g k
        · have q1 : (f k != g k) = false := by simp [q]
          have HY := Lib.hid (show eqTo f g (k + 1) = true by rw [eqTo, HO.out]; simp [q])
          clear q
          go_wp2_with fail
          go_quiet (fail)
          go_wp2_with fail
          go_roundw
          case rel => exact ⟨k + 1, _, by omega, by go_num, HY.out, rfl⟩
          case measure => simp [intOf]; omega
        · have q1 : (f k != g k) = true := by simpa using q
          have HN := Lib.hid (eqTo_no f g (k := k) (n := n) hlt q)
          clear q
          go_wp2_with fail
          go_quiet (fail)
          go_wp2_with fail
          go_ret
          exact ⟨ret_bool (by rw [HS.out, HN.out]), N + nq, by rw [World.drewN_drewN]⟩
      · obtain rfl : k = n := by omega
        go_wp2_with fail
        go_ret
        exact ⟨ret_bool (by rw [HS.out, HO.out]), _, rfl⟩
  · have q0 : ((n : Int) != (m : Int)) = true := by simp; omega
    have HS := Lib.hid (show sIB n f m g = false by simp [sIB, hnm])
    clear hnm
    go_enter Try.func13, Try.ntmps13
    go_wp2_with fail
    go_ret
    exact ⟨ret_bool HS.out.symm, 0, rfl⟩

set_option maxHeartbeats 1600000 in
theorem validDigits_any (A : Option Addr) (n c : Nat) (D : Nat → Int) (w : World) (hn : n ≤ maxLen) (hA : Sl w A n D) :
    Calls Try.prog 39 #[.slice A n c] w fun e w' => e = .returned (.bool (vdB n D)) ∧ w = w' := by
  unfold maxLen at hn
  have HA := Lib.hid hA
  clear hA
  cases hl : inB n 1 4 with
  | false =>
    have HL := Lib.hid hl
    clear hl
    go_enter Try.func39, Try.ntmps39
    go_wp2_with fail
    refine (isLength_any _ _).mono ?_
    rintro e w1 ⟨rfl, rfl⟩
    rw [HL.out]
    go_wp2_with fail
    go_ret
    exact ⟨ret_bool (by rw [vdB, HL.out]; rfl), rfl⟩
  | true =>
    have HL := Lib.hid hl
    have HV := Lib.hid (show vdB n D = dgTo D n by rw [vdB, hl]; rfl)
    clear hl
    go_enter Try.func39, Try.ntmps39
    go_wp2_with fail
    refine (isLength_any _ _).mono ?_
    rintro e w1 ⟨rfl, rfl⟩
    rw [HL.out]
    go_wp2_with fail
    go_loop [11] (fun i => ∃ k : Nat, k ≤ n ∧ i = .int .i64 k ∧ dgTo D k = true) (fun i => n - (intOf i).toNat)
    case atStart => exact ⟨0, Nat.zero_le _, rfl, rfl⟩
    case round =>
      obtain ⟨k, hk, rfl, ho⟩ := hrel
      have HO := Lib.hid ho
      clear ho
      by_cases hlt : k < n
      · obtain ⟨b, off, rfl, hb, hc⟩ := HA.out (by omega)
        have c1 := hc k hlt
        clear hc
        by_cases q1 : D k < 0
        · have HN := Lib.hid (dgTo_no D (k := k) (n := n) hlt (by rw [inB_no]; omega))
          go_wp2_with fail
          go_ret
          exact ⟨ret_bool (by rw [HV.out, HN.out]), rfl⟩
        · have q1' : 0 ≤ D k := by omega
          clear q1
          by_cases q2 : D k < 10
          · have HY := Lib.hid (show dgTo D (k + 1) = true by rw [dgTo, HO.out, inB_iff.2 ⟨q1', by omega⟩]; rfl)
            go_wp2_with fail
            go_round
            case rel => exact ⟨k + 1, by omega, by go_num, HY.out⟩
            case measure => simp [intOf]; omega
          · have q2' : 10 ≤ D k := by omega
            have HN := Lib.hid (dgTo_no D (k := k) (n := n) hlt (by rw [inB_no]; omega))
            clear q2
            go_wp2_with fail
            go_ret
            exact ⟨ret_bool (by rw [HV.out, HN.out]), rfl⟩
      · obtain rfl : k = n := by omega
        go_wp2_with fail
        go_ret
        exact ⟨ret_bool (by rw [HV.out, HO.out]), rfl⟩

set_option maxHeartbeats 1600000 in
theorem rvalidDigits_any (A : Option Addr) (n c : Nat) (D : Nat → Int) (w : World) (hn : n ≤ maxLen) (hA : Sl w A n D) :
    Calls Try.prog 23 #[.slice A n c] w fun e w' => e = .returned (.bool (vdB n D)) ∧ w = w' := by
  unfold maxLen at hn
  have HA := Lib.hid hA
  clear hA
  go_enter Try.func23, Try.ntmps23
  go_wp2_with fail
  go_loop [7] (fun i => ∃ k : Nat, k ≤ n ∧ i = .int .i64 k ∧ dgTo D k = true) (fun i => n - (intOf i).toNat)
  case atStart => exact ⟨0, Nat.zero_le _, rfl, rfl⟩
  case round =>
    obtain ⟨k, hk, rfl, ho⟩ := hrel
    have HO := Lib.hid ho
    clear ho
    by_cases hlt : k < n
    · obtain ⟨b, off, rfl, hb, hc⟩ := HA.out (by omega)
      have c1 := hc k hlt
      clear hc
      by_cases q1 : D k < 0
      · have HN := Lib.hid (dgTo_no D (k := k) (n := n) hlt (by rw [inB_no]; omega))
        go_wp2_with fail
        go_ret
        exact ⟨ret_bool (by rw [vdB, HN.out, Bool.and_false]), rfl⟩
      · have q1' : 0 ≤ D k := by omega
        clear q1
        by_cases q2 : D k ≤ 9
        · have HY := Lib.hid (show dgTo D (k + 1) = true by rw [dgTo, HO.out, inB_iff.2 ⟨q1', q2⟩]; rfl)
          go_wp2_with fail
          go_round
          case rel => exact ⟨k + 1, by omega, by go_num, HY.out⟩
          case measure => simp [intOf]; omega
        · have q2' : 9 < D k := by omega
          have HN := Lib.hid (dgTo_no D (k := k) (n := n) hlt (by rw [inB_no]; omega))
          clear q2
          go_wp2_with fail
          go_ret
          exact ⟨ret_bool (by rw [vdB, HN.out, Bool.and_false]), rfl⟩
    · obtain rfl : k = n := by omega
      by_cases g1 : 1 ≤ k
      · by_cases g2 : k ≤ 4
        · go_wp2_with fail
          go_ret
          exact ⟨ret_bool (by rw [vdB, HO.out]; simp [inB]; omega), rfl⟩
        · have g2' : 4 < k := by omega
          clear g2
          go_wp2_with fail
          go_ret
          exact ⟨ret_bool (by rw [vdB, HO.out]; simp [inB]; omega), rfl⟩
      · have g1' : k < 1 := by omega
        clear g1
        go_wp2_with fail
        go_ret
        exact ⟨ret_bool (by rw [vdB, HO.out]; simp [inB]; omega), rfl⟩
set_option maxHeartbeats 4000000 in
theorem validHoist_any (A : Option Addr) (n c : Nat) (H : Nat → Int) (w : World) (hn : n ≤ maxLen) (hA : Sl w A n H) :
    Calls Try.prog 14 #[.slice A n c] w fun e w' => e = .returned (.bool (vhB n H)) ∧ w = w' := by
  unfold maxLen at hn
  have HA := Lib.hid hA
  clear hA
  cases hl : inB n 1 4 with
  | false =>
    have HL := Lib.hid hl
    clear hl
    go_enter Try.func14, Try.ntmps14
    go_wp2_with fail
    refine (isLength_any _ _).mono ?_
    rintro e w1 ⟨rfl, rfl⟩
    rw [HL.out]
    go_wp2_with fail
    go_ret
    exact ⟨ret_bool (by rw [vhB, HL.out]; rfl), rfl⟩
  | true =>
    have HL := Lib.hid hl
    have HV := Lib.hid (show vhB n H = hoTo H n by rw [vhB, hl]; rfl)
    have hn4 : n ≤ 4 := by have := inB_iff.1 hl; omega
    clear hl
    go_enter Try.func14, Try.ntmps14
    go_wp2_with fail
    refine (isLength_any _ _).mono ?_
    rintro e w1 ⟨rfl, rfl⟩
    rw [HL.out]
    go_wp2_with fail
    go_loop [3, 12] (fun l i => ∃ k : Nat, k ≤ n ∧ i = .int .i64 k ∧ l = .int .i64 ((lftF H k : Nat) : Int) ∧ hoTo H k = true) (fun _ i => n - (intOf i).toNat)
    case atStart => exact ⟨0, Nat.zero_le _, rfl, rfl, rfl⟩
    case round =>
      obtain ⟨k, hk, rfl, rfl, ho⟩ := hrel
      have HO := Lib.hid ho
      clear ho
      by_cases hlt : k < n
      · obtain ⟨b, off, rfl, hb, hc⟩ := HA.out (by omega)
        have c1 := hc k hlt
        clear hc
        have hlft := lftF_lt H k
        have HPOS := Lib.hid (show ∀ j, j < k → 0 ≤ H j from fun j hj => by
          have h := hoTo_at HO.out hj
          simp only [okF, Bool.and_eq_true, inB_iff] at h
          exact h.1.1.1)
        have HNX := Lib.hid (show ∀ (f : Nat), H k = f → f < 13 → hasB (lftF H k) f = newTo H (H k) k from fun f e hf => by rw [lftF_has HPOS.out hf, e])
        have HSU := Lib.hid (show ∀ (f : Nat), H k = f → lftF H (k + 1) = clr (lftF H k) f from fun f e => by rw [lftF, e]; simp)
        obtain ⟨L, hL⟩ : ∃ L, L = lftF H k := ⟨_, rfl⟩
        rw [← hL] at hlft HNX HSU ⊢
        clear hL
        by_cases q1 : H k < 0
        · have HN := Lib.hid (hoTo_no H (k := k) (n := n) hlt (by rw [okF, (inB_no.2 (by omega))]; rfl))
          go_wp2_with fail
          go_ret
          exact ⟨ret_bool (by rw [HV.out, HN.out]), rfl⟩
        · by_cases q2 : 13 ≤ H k
          · have q1' : 0 ≤ H k := by omega
            clear q1
            have HN := Lib.hid (hoTo_no H (k := k) (n := n) hlt (by rw [okF, (inB_no.2 (by omega))]; rfl))
            go_wp2_with fail
            go_ret
            exact ⟨ret_bool (by rw [HV.out, HN.out]), rfl⟩
          · obtain ⟨f, hf⟩ : ∃ f : Nat, H k = f := ⟨(H k).toNat, by omega⟩
            have hf13 : f < 13 := by omega
            have HF := Lib.hid hf
            have HIN := Lib.hid (show inB (H k) 0 12 = true from inB_iff.2 ⟨by omega, by omega⟩)
            rw [hf] at c1
            clear q1 q2 hf
            cases hh : hasB L f with
            | false =>
              have HH := Lib.hid hh
              clear hh
              have HN := Lib.hid (hoTo_no H (k := k) (n := n) hlt (by rw [okF, ← HNX.out f HF.out hf13, HH.out, Bool.and_false]))
              go_wp2_with fail
              refine (has_any L f _ hlft hf13).mono ?_
              rintro e w1 ⟨rfl, rfl⟩
              rw [HH.out]
              go_wp2_with fail
              go_ret
              exact ⟨ret_bool (by rw [HV.out, HN.out]), rfl⟩
            | true =>
              have HH := Lib.hid hh
              clear hh
              cases hm : mayB f k with
              | false =>
                have HM := Lib.hid hm
                have HN := Lib.hid (hoTo_no H (k := k) (n := n) hlt (by rw [okF, show decide (H k - 10 < k) = false by (have h := hm; simp only [mayB, decide_eq_false_iff_not] at h; exact decide_eq_false (by rw [HF.out]; omega))]; simp))
                clear hm
                go_wp2_with fail
                refine (has_any L f _ hlft hf13).mono ?_
                rintro e w1 ⟨rfl, rfl⟩
                rw [HH.out]
                go_wp2_with fail
                refine (may_any f k _ hf13 (by omega)).mono ?_
                rintro e w1 ⟨rfl, rfl⟩
                rw [HM.out]
                go_wp2_with fail
                go_ret
                exact ⟨ret_bool (by rw [HV.out, HN.out]), rfl⟩
              | true =>
                have HM := Lib.hid hm
                have HY := Lib.hid (show hoTo H (k + 1) = true by
                  rw [hoTo, HO.out, okF, HIN.out, ← HNX.out f HF.out hf13, HH.out, show decide (H k - 10 < k) = true by (have h := hm; simp only [mayB, decide_eq_true_eq] at h; exact decide_eq_true (by rw [HF.out]; omega))]; rfl)
                clear hm
                go_wp2_with fail
                refine (has_any L f _ hlft hf13).mono ?_
                rintro e w1 ⟨rfl, rfl⟩
                rw [HH.out]
                go_wp2_with fail
                refine (may_any f k _ hf13 (by omega)).mono ?_
                rintro e w1 ⟨rfl, rfl⟩
                rw [HM.out]
                go_wp2_with fail
                refine (minus_any L f _ hlft hf13).mono ?_
                rintro e w1 ⟨rfl, rfl⟩
                go_wp2_with fail
                go_round
                case rel => exact ⟨k + 1, by omega, by go_num, by rw [HSU.out f HF.out], HY.out⟩
                case measure => simp [intOf]; omega
      · obtain rfl : k = n := by omega
        go_wp2_with fail
        go_ret
        exact ⟨ret_bool (by rw [HV.out, HO.out]), rfl⟩

set_option maxHeartbeats 4000000 in
theorem rvalidHoist_any (A : Option Addr) (n c : Nat) (H : Nat → Int) (w : World) (hn : n ≤ c ∧ c ≤ maxLen) (hA : Sl w A n H) :
    Calls Try.prog 36 #[.slice A n c] w fun e w' => e = .returned (.bool (vhB n H)) ∧ w = w' := by
  obtain ⟨hnc, hcm⟩ := hn
  unfold maxLen at hcm
  have HA := Lib.hid hA
  clear hA
  go_enter Try.func36, Try.ntmps36
  go_wp2_with fail
  go_loop [9] (fun i => ∃ k : Nat, k ≤ n ∧ i = .int .i64 k ∧ hoTo H k = true) (fun i => n - (intOf i).toNat)
  case atStart => exact ⟨0, Nat.zero_le _, rfl, rfl⟩
  case round =>
    obtain ⟨k, hk, rfl, ho⟩ := hrel
    have HO := Lib.hid ho
    clear ho
    by_cases hlt : k < n
    · obtain ⟨b, off, rfl, hb, hc⟩ := HA.out (by omega)
      have c1 := hc k hlt
      have HC := Lib.hid hc
      clear hc
      by_cases q1 : H k < 0
      · have HN := Lib.hid (hoTo_no H (k := k) (n := n) hlt (by rw [okF, (inB_no.2 (by omega))]; rfl))
        go_wp2_with fail
        go_ret
        exact ⟨ret_bool (by rw [vhB, HN.out, Bool.and_false]), rfl⟩
      · have q1' : 0 ≤ H k := by omega
        clear q1
        by_cases q2 : 13 ≤ H k
        · have HN := Lib.hid (hoTo_no H (k := k) (n := n) hlt (by rw [okF, (inB_no.2 (by omega))]; rfl))
          go_wp2_with fail
          go_ret
          exact ⟨ret_bool (by rw [vhB, HN.out, Bool.and_false]), rfl⟩
        · have q2' : H k < 13 := by omega
          clear q2
          by_cases q3 : (k : Int) ≤ H k - 10
          · have HN := Lib.hid (hoTo_no H (k := k) (n := n) hlt (by rw [okF, show decide (H k - 10 < (k : Int)) = false from decide_eq_false (by omega)]; simp))
            go_wp2_with fail
            go_ret
            exact ⟨ret_bool (by rw [vhB, HN.out, Bool.and_false]), rfl⟩
          · have q3' : H k - 10 < (k : Int) := by omega
            have HG := Lib.hid (show okF H k = newTo H (H k) k by rw [okF, inB_iff.2 ⟨q1', by omega⟩, decide_eq_true q3']; simp)
            clear q3
            go_wp2_with fail
            go_loop [30] (fun i => ∃ j : Nat, j ≤ k ∧ i = .int .i64 j ∧ newTo H (H k) j = true) (fun i => k - (intOf i).toNat)
            case atStart => exact ⟨0, Nat.zero_le _, rfl, rfl⟩
            case round =>
              obtain ⟨j, hj, rfl, hno⟩ := hrel
              have HNO := Lib.hid hno
              clear hno
              by_cases hlj : j < k
              · have c2 := HC.out j (by omega)
                by_cases q : H k = H j
                · have q4 : (H k == H j) = true := by simpa using q
                  have HN := Lib.hid (hoTo_no H (k := k) (n := n) hlt (by rw [HG.out]; exact newTo_no H _ hlj q))
                  clear q
                  go_wp2_with fail
                  go_ret
                  exact ⟨ret_bool (by rw [vhB, HN.out, Bool.and_false]), rfl⟩
                · have q4 : (H k == H j) = false := by simpa using q
                  have HY := Lib.hid (show newTo H (H k) (j + 1) = true by rw [newTo, HNO.out]; simpa using q)
                  clear q
                  go_wp2_with fail
                  go_round
                  case rel => exact ⟨j + 1, by omega, by go_num, HY.out⟩
                  case measure => simp [intOf]; omega
              · obtain rfl : j = k := by omega
                have HY := Lib.hid (show hoTo H (j + 1) = true by rw [hoTo, HO.out, HG.out, HNO.out]; rfl)
                go_wp2_with fail
                go_round
                case rel => exact ⟨j + 1, by omega, by go_num, HY.out⟩
                case measure => simp [intOf]; omega
    · obtain rfl : k = n := by omega
      by_cases g1 : 1 ≤ k
      · by_cases g2 : k ≤ 4
        · go_wp2_with fail
          go_ret
          exact ⟨ret_bool (by rw [vhB, HO.out]; simp [inB]; omega), rfl⟩
        · have g2' : 4 < k := by omega
          clear g2
          go_wp2_with fail
          go_ret
          exact ⟨ret_bool (by rw [vhB, HO.out]; simp [inB]; omega), rfl⟩
      · have g1' : k < 1 := by omega
        clear g1
        go_wp2_with fail
        go_ret
        exact ⟨ret_bool (by rw [vhB, HO.out]; simp [inB]; omega), rfl⟩
end Go.Proofs.Ytdikflklkmfcfaa
