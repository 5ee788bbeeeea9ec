/-
  Contracts of package rate and of its reference: numbers, names, boxes.
-/
import Derived.Test.YtbhdoafcjfcgfaaKB
namespace Go.Proofs.Ytbhdoafcjfcgfaa
open Go.RowKit
set_option linter.unusedSimpArgs false
set_option linter.unusedVariables false

abbrev encB (s : ByteArray) (A : Option Addr) (n c : Nat) : Value := .agg #[.string s, .slice A n c]
set_option maxHeartbeats 400000 in
theorem small_any (n : Nat) (w : World) :
    Calls Try.prog 68 #[.int .u8 (n : Int)] w fun e w' => e = .returned (.bool (smN n)) ∧ w = w' := by
  go_enter Try.func68, Try.ntmps68
  go_wp2
  all_goals (go_ret; exact ⟨ret_bool (by rw [smN]; first | (simp; omega) | (rw [Bool.eq_iff_iff]; simp; omega)), rfl⟩)

set_option maxHeartbeats 1000000 in
theorem isName_any (s : ByteArray) (w : World) (hs : s.size ≤ maxLen) :
    Calls Try.prog 42 #[.string s] w fun e w' => e = .returned (.bool (nmB s)) ∧ w = w' := by
  unfold maxLen at hs
  by_cases h0 : s.size = 0
  · have e1 : s.toList = [] := by
      rw [ByteArray.toList_eq]; exact List.eq_nil_of_length_eq_zero (by simpa using h0)
    have hn : nmB s = false := by simp [nmB, h0]
    have Hn := Lib.hid hn
    clear hn h0
    go_enter Try.func42, Try.ntmps42
    go_wp2_with fail
    go_ret
    exact ⟨ret_bool Hn.out.symm, rfl⟩
  · have hp : 0 < s.size := by omega
    have e1 : s.toList.isEmpty = false := by
      rw [ByteArray.toList_eq]
      cases h : s.data.toList with
      | nil => have h2 : s.data.toList.length = 0 := by rw [h]; rfl
               have h3 : s.data.toList.length = s.size := by simp
               omega
      | cons a l => rfl
    clear h0
    by_cases h16 : 16 < s.size
    · have hn : nmB s = false := by simp [nmB]; omega
      have Hn := Lib.hid hn
      clear hn
      go_enter Try.func42, Try.ntmps42
      go_wp2_with fail
      go_ret
      exact ⟨ret_bool Hn.out.symm, rfl⟩
    · have h16' : s.size ≤ 16 := by omega
      clear h16
      have B0 := Lib.hid (byt_eq s 0 hp)
      by_cases hsm : smN (byt s 0) = true
      · have HS := Lib.hid hsm
        clear hsm
        go_enter Try.func42, Try.ntmps42
        go_wp2_with fail
        rw [B0.out]
        refine (small_any _ _).mono ?_
        rintro e w1 ⟨rfl, rfl⟩
        rw [HS.out]
        go_wp2_with fail
        go_loop [19] (fun i => ∃ k : Nat, k ≤ s.size ∧ i = .int .i64 k ∧ okTo s k = true) (fun i => s.size - (intOf i).toNat)
        case atStart => exact ⟨0, Nat.zero_le _, rfl, rfl⟩
        case round =>
          obtain ⟨k, hk, rfl, ho⟩ := hrel
          have HO := Lib.hid ho
          clear ho
          by_cases hlt : k < s.size
          · have Bk := Lib.hid (byt_eq s k hlt)
            by_cases hc : smN (byt s k) = true
            · have HC := Lib.hid hc
              clear hc
              go_wp2_with fail
              rw [Bk.out]
              refine (small_any _ _).mono ?_
              rintro e w1 ⟨rfl, rfl⟩
              rw [HC.out]
              go_wp2_with fail
              go_round
              case rel => exact ⟨k + 1, by omega, by go_num, by rw [okTo, HO.out, okN, HC.out]; rfl⟩
              case measure => simp [intOf]; omega
            · have HC := Lib.hid (show smN (byt s k) = false by simpa using hc)
              clear hc
              have hk0 : k ≠ 0 := by
                rintro rfl
                have h1 := HC.out
                rw [HS.out] at h1
                cases h1
              have HK := Lib.hid hk0
              clear hk0
              have hT : tlN (byt s k) = true → okN k (byt s k) = true := fun h => by simp [okN, h, HK.out]
              have hF : tlN (byt s k) = false → nmB s = false := fun h => by
                have := okTo_no s (k := k) (n := s.size) hlt (by simp [okN, h, HC.out])
                simp [nmB, this]
              have HT := Lib.hid hT
              have HF := Lib.hid hF
              clear hT hF
              have hb : (s[k].toNat : Int) = byt s k := by rw [Bk.out]
              have HB := Lib.hid hb
              clear hb
              by_cases c1 : 48 ≤ (s[k].toNat : Int)
              · by_cases c2 : (s[k].toNat : Int) ≤ 57
                · have H2 := Lib.hid (HT.out (by have := HB.out; simp [tlN]; left; omega))
                  go_wp2_with fail
                  rw [Bk.out]
                  refine (small_any _ _).mono ?_
                  rintro e w1 ⟨rfl, rfl⟩
                  rw [HC.out]
                  go_wp2_with fail
                  go_round
                  case rel => exact ⟨k + 1, by omega, by go_num, by rw [okTo, HO.out, H2.out]; rfl⟩
                  case measure => simp [intOf]; omega
                · have c2' : 57 < (s[k].toNat : Int) := by omega
                  clear c2
                  by_cases c3 : (s[k].toNat : Int) = 95
                  · have H2 := Lib.hid (HT.out (by have := HB.out; simp [tlN]; right; omega))
                    have c4 : ((s[k].toNat : Int) != 95) = false := by simpa using c3
                    clear c3
                    go_wp2_with fail
                    rw [Bk.out]
                    refine (small_any _ _).mono ?_
                    rintro e w1 ⟨rfl, rfl⟩
                    rw [HC.out]
                    go_wp2_with fail
                    go_round
                    case rel => exact ⟨k + 1, by omega, by go_num, by rw [okTo, HO.out, H2.out]; rfl⟩
                    case measure => simp [intOf]; omega
                  · have H2 := Lib.hid (HF.out (by have := HB.out; simp [tlN]; constructor <;> omega))
                    have c4 : ((s[k].toNat : Int) != 95) = true := by simpa using c3
                    clear c3
                    go_wp2_with fail
                    rw [Bk.out]
                    refine (small_any _ _).mono ?_
                    rintro e w1 ⟨rfl, rfl⟩
                    rw [HC.out]
                    go_wp2_with fail
                    go_ret
                    exact ⟨ret_bool H2.out.symm, rfl⟩
              · have c1' : (s[k].toNat : Int) < 48 := by omega
                clear c1
                have H2 := Lib.hid (HF.out (by have := HB.out; simp [tlN]; constructor <;> omega))
                have c4 : ((s[k].toNat : Int) != 95) = true := by simp; omega
                go_wp2_with fail
                rw [Bk.out]
                refine (small_any _ _).mono ?_
                rintro e w1 ⟨rfl, rfl⟩
                rw [HC.out]
                go_wp2_with fail
                go_ret
                exact ⟨ret_bool H2.out.symm, rfl⟩
          · go_wp2_with fail
            go_ret
            obtain rfl : k = s.size := by omega
            exact ⟨ret_bool (by rw [nmB, HO.out]; simp; omega), rfl⟩
      · have hn : nmB s = false := by
          have := okTo_no s (k := 0) (n := s.size) hp (by simp [okN]; simpa using hsm)
          simp [nmB, this]
        have Hn := Lib.hid hn
        clear hn
        have HS := Lib.hid (show smN (byt s 0) = false by simpa using hsm)
        clear hsm
        go_enter Try.func42, Try.ntmps42
        go_wp2_with fail
        rw [B0.out]
        refine (small_any _ _).mono ?_
        rintro e w1 ⟨rfl, rfl⟩
        rw [HS.out]
        go_wp2_with fail
        go_ret
        exact ⟨ret_bool Hn.out.symm, rfl⟩

set_option maxHeartbeats 1600000 in
theorem sameInts_any (A : Option Addr) (n c : Nat) (f : Nat → Int) (B : Option Addr) (m d : Nat) (g : Nat → Int) (w : World) (hn : n ≤ maxLen) (hm : m ≤ maxLen) (hA : Sl w A n f) (hB : Sl w B m g) :
    Calls Try.prog 17 #[.slice A n c, .slice B m d] w fun e w' => e = .returned (.bool (sIB n f m g)) ∧ ∃ N, w' = w.drewN N := by
  unfold maxLen at hn hm
  have HA := Lib.hid hA
  have HB := Lib.hid hB
  clear hA hB
  by_cases hnm : n = m
  · have q0 : ((n : Int) != (m : Int)) = false := by simp [hnm]
    have HS := Lib.hid (show sIB n f m g = eqTo f g n by simp [sIB, hnm])
    have k1 : n ≤ m := by omega
    clear hnm
    go_enter Try.func17, Try.ntmps17
    go_wp2_with fail
    clear q0
    go_loopw [13] (fun i wr => ∃ k N : Nat, k ≤ n ∧ i = .int .i64 k ∧ Hid (eqTo f g k = true) ∧ wr = w.drewN N) (fun i _ => n - (intOf i).toNat)
    case atStart => exact ⟨0, 0, Nat.zero_le _, rfl, rfl, rfl⟩
    case round =>
      obtain ⟨k, N, hk, rfl, HO, rfl⟩ := hrel
      by_cases hlt : k < n
      · obtain ⟨b, off, eA, hbb, hc⟩ := HA.out (by omega)
        obtain ⟨b', off', eB, hbb', hc'⟩ := HB.out (by omega)
        subst eA eB
        have c1 := hc k hlt
        have c2 := hc' k (by omega)
        clear hc hc'
        by_cases q : f k = g k
        · have q1 : (f k != g k) = false := by simp [q]
          have HY := Lib.hid (show eqTo f g (k + 1) = true by rw [eqTo, HO.out]; simp [q])
          clear q
          go_wp2_with fail
          go_quiet (fail)
          go_wp2_with fail
          go_roundw
          case rel => exact ⟨k + 1, _, by omega, by go_num, HY.out, rfl⟩
          case measure => simp [intOf]; omega
        · have q1 : (f k != g k) = true := by simpa using q
          have HN := Lib.hid (eqTo_no f g (k := k) (n := n) hlt q)
          clear q
          go_wp2_with fail
          go_quiet (fail)
          go_wp2_with fail
          go_ret
          exact ⟨ret_bool (by rw [HS.out, HN.out]), N + nq, by rw [World.drewN_drewN]⟩
      · obtain rfl : k = n := by omega
        go_wp2_with fail
        go_ret
        exact ⟨ret_bool (by rw [HS.out, HO.out]), _, rfl⟩
  · have q0 : ((n : Int) != (m : Int)) = true := by simp; omega
    have HS := Lib.hid (show sIB n f m g = false by simp [sIB, hnm])
    clear hnm
    go_enter Try.func17, Try.ntmps17
    go_wp2_with fail
    go_ret
    exact ⟨ret_bool HS.out.symm, 0, rfl⟩


set_option maxHeartbeats 400000 in
theorem withinR_any (n m : Int) (w : World) (h0 : 0 ≤ m) (h1 : m ≤ 4000000000000000000) :
    Calls Try.prog 43 #[.int .i64 n, .int .i64 m] w fun e w' => e = .returned (.bool (inB n (-m) m)) ∧ w = w' := by
  go_enter Try.func43, Try.ntmps43
  go_wp2
  all_goals (go_ret; exact ⟨ret_bool (by simp [inB]; try omega), rfl⟩)
set_option maxHeartbeats 400000 in
theorem sizeR_any (n : Int) (w : World) (h0 : -4000000000000000000 ≤ n) (h1 : n ≤ 4000000000000000000) :
    Calls Try.prog 48 #[.int .i64 n] w fun e w' => e = .returned (.int .i64 (n.natAbs : Int)) ∧ w = w' := by
  go_enter Try.func48, Try.ntmps48
  go_wp2
  all_goals (go_ret; exact ⟨ret_int (by omega), rfl⟩)
set_option maxHeartbeats 400000 in
theorem absR_any (n : Int) (w : World) (h0 : -4000000000000000000 ≤ n) (h1 : n ≤ 4000000000000000000) :
    Calls Try.prog 51 #[.int .i64 n] w fun e w' => e = .returned (.int .i64 (n.natAbs : Int)) ∧ w = w' := by
  go_enter Try.func51, Try.ntmps51
  go_wp2
  all_goals (go_ret; exact ⟨ret_int (by omega), rfl⟩)

/-- The errors of the first k days are within a day. -/
def dyTo (E : Nat → Int) : Nat → Bool
  | 0 => true
  | k + 1 => dyTo E k && inB (E k) (-86400000) 86400000
theorem dyTo_no (E : Nat → Int) {k n : Nat} (hk : k < n) (h : inB (E k) (-86400000) 86400000 = false) : dyTo E n = false := by
  induction n with
  | zero => omega
  | succ n ih =>
    by_cases e : k = n
    · subst e; simp [dyTo, h]
    · simp [dyTo, ih (by omega)]
theorem dyTo_at {E : Nat → Int} {k n : Nat} (h : dyTo E n = true) (hk : k < n) : -86400000 ≤ E k ∧ E k ≤ 86400000 := by
  induction n with
  | zero => omega
  | succ n ih =>
    simp only [dyTo, Bool.and_eq_true, inB_iff] at h
    by_cases e : k = n
    · subst e; exact h.2
    · exact ih h.1 (by omega)
theorem dyTo_of {E : Nat → Int} {n : Nat} (h : ∀ k, k < n → -86400000 ≤ E k ∧ E k ≤ 86400000) : dyTo E n = true := by
  induction n with
  | zero => rfl
  | succ n ih => simp only [dyTo, Bool.and_eq_true, inB_iff]; exact ⟨ih (fun k hk => h k (by omega)), h n (by omega)⟩
theorem dyTo_congr {E G : Nat → Int} {n : Nat} (h : ∀ k, k < n → E k = G k) : dyTo E n = dyTo G n := by
  induction n with
  | zero => rfl
  | succ n ih => rw [dyTo, dyTo, ih (fun k hk => h k (by omega)), h n (by omega)]
/-- A box is valid. -/
def vbB (s : ByteArray) (n : Nat) (E : Nat → Int) : Bool := nmB s && decide (2 ≤ n) && decide (n ≤ 400) && dyTo E n
theorem vbB_iff {s : ByteArray} {n : Nat} {E : Nat → Int} : vbB s n E = true ↔ nmB s = true ∧ 2 ≤ n ∧ n ≤ 400 ∧ dyTo E n = true := by simp [vbB, and_assoc]

set_option maxHeartbeats 3200000 in
theorem validBox_any (s : ByteArray) (A : Option Addr) (n c : Nat) (E : Nat → Int) (w : World) (hs : s.size ≤ maxLen) (hn : n ≤ maxLen) (h : Sl w A n E) :
    Calls Try.prog 15 #[encB s A n c] w fun e' w' => e' = .returned (.bool (vbB s n E)) ∧ Bl w w' := by
  unfold maxLen at hn
  by_cases hm : nmB s = true
  · have HN := Lib.hid hm
    clear hm
    by_cases h2 : 2 ≤ n
    · by_cases h4 : n ≤ 400
      · have HT := Lib.hid (show vbB s n E = dyTo E n by simp [vbB, HN.out, h2, h4])
        go_enter Try.func15, Try.ntmps15
        go_wp2_with fail
        refine (isName_any _ _ hs).mono ?_
        rintro e w1 ⟨rfl, rfl⟩
        rw [HN.out]
        go_wp2_with fail
        obtain ⟨W, hW⟩ : ∃ W, W = w.alloc (.cells #[.string s, .slice A n c] 24) := ⟨_, rfl⟩
        have BW : Bl w W := by rw [hW]; go_grown
        have hS := h.below BW
        rw [← hW]
        clear hW
        go_loop [24] (fun i => ∃ k : Nat, k ≤ n ∧ i = .int .i64 k ∧ dyTo E k = true) (fun i => n - (intOf i).toNat)
        case atStart => exact ⟨0, Nat.zero_le _, rfl, rfl⟩
        case round =>
          obtain ⟨k, hk, rfl, ho⟩ := hrel
          have HO := Lib.hid ho
          clear ho
          by_cases hlt : k < n
          · obtain ⟨b, off, rfl, hb, hc⟩ := hS (by omega)
            have c1 := hc k hlt
            clear hc
            have HF := Lib.hid (fun q => dyTo_no E (k := k) (n := n) hlt q)
            by_cases q : inB (E k) (-86400000) 86400000 = true
            · have HQ := Lib.hid q
              clear q
              go_wp2_with fail
              refine (withinR_any _ _ _ (by omega) (by omega)).mono ?_
              rintro e w1 ⟨rfl, rfl⟩
              rw [HQ.out]
              go_wp2_with fail
              go_round
              case rel => exact ⟨k + 1, by omega, by go_num, by rw [dyTo, HO.out, HQ.out]; rfl⟩
              case measure => simp [intOf]; omega
            · have HQ := Lib.hid (show inB (E k) (-86400000) 86400000 = false by simpa using q)
              clear q
              go_wp2_with fail
              refine (withinR_any _ _ _ (by omega) (by omega)).mono ?_
              rintro e w1 ⟨rfl, rfl⟩
              rw [HQ.out]
              go_wp2_with fail
              go_ret
              exact ⟨ret_bool (by rw [HT.out, HF.out HQ.out]), BW⟩
          · go_wp2_with fail
            go_ret
            obtain rfl : k = n := by omega
            exact ⟨ret_bool (by rw [HT.out, HO.out]), BW⟩
      · have HT := Lib.hid (show vbB s n E = false by simp [vbB]; omega)
        have h4' : 400 < n := by omega
        clear h4
        go_enter Try.func15, Try.ntmps15
        go_wp2_with fail
        refine (isName_any _ _ hs).mono ?_
        rintro e w1 ⟨rfl, rfl⟩
        rw [HN.out]
        go_wp2_with fail
        go_ret
        exact ⟨ret_bool HT.out.symm, by go_grown⟩
    · have HT := Lib.hid (show vbB s n E = false by simp [vbB]; omega)
      have h4' : n < 2 := by omega
      clear h2
      go_enter Try.func15, Try.ntmps15
      go_wp2_with fail
      refine (isName_any _ _ hs).mono ?_
      rintro e w1 ⟨rfl, rfl⟩
      rw [HN.out]
      go_wp2_with fail
      go_ret
      exact ⟨ret_bool HT.out.symm, by go_grown⟩
  · have HN := Lib.hid (show nmB s = false by simpa using hm)
    have HT := Lib.hid (show vbB s n E = false by simp [vbB, hm])
    clear hm
    go_enter Try.func15, Try.ntmps15
    go_wp2_with fail
    refine (isName_any _ _ hs).mono ?_
    rintro e w1 ⟨rfl, rfl⟩
    rw [HN.out]
    go_wp2_with fail
    go_ret
    exact ⟨ret_bool HT.out.symm, by go_grown⟩
end Go.Proofs.Ytbhdoafcjfcgfaa
