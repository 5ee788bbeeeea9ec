/-
  Contracts of package transit and of its reference: names and stars.
-/
import Derived.Test.YtlpbmcnojkhdcaaDoorTA
namespace Go.Proofs.YtlpbmcnojkhdcaaDoor
open Go.RowKit
set_option linter.unusedSimpArgs false
set_option linter.unusedVariables false

def byt (s : ByteArray) (k : Nat) : Nat := (s.data.toList.getD k 0).toNat
theorem byt_eq (s : ByteArray) (k : Nat) (h : k < s.size) : s[k].toNat = byt s k := by
  have h' : k < s.data.toList.length := by simpa using h
  unfold byt
  rw [List.getD_eq_getElem?_getD, List.getElem?_eq_getElem h']
  rfl
def smN (n : Nat) : Bool := decide (97 ≤ n) && decide (n ≤ 122)
def tlN (n : Nat) : Bool := decide (48 ≤ n ∧ n ≤ 57) || decide (n = 95)
def okN (k n : Nat) : Bool := smN n || (decide (k ≠ 0) && tlN n)
def okTo (s : ByteArray) : Nat → Bool
  | 0 => true
  | k + 1 => okTo s k && okN k (byt s k)
def nmB (s : ByteArray) : Bool := decide (1 ≤ s.size) && decide (s.size ≤ 16) && okTo s s.size
theorem okTo_no (s : ByteArray) {k n : Nat} (hk : k < n) (h : okN k (byt s k) = false) : okTo s n = false := by
  induction n with
  | zero => omega
  | succ n ih =>
    by_cases e : k = n
    · subst e; simp [okTo, h]
    · simp [okTo, ih (by omega)]

set_option maxHeartbeats 400000 in
theorem small_any (n : Nat) (w : World) :
    Calls Tryd.prog 49 #[.int .u8 (n : Int)] w fun e w' => e = .returned (.bool (smN n)) ∧ w = w' := by
  go_enter Tryd.func49, Tryd.ntmps49
  go_wp2
  all_goals (go_ret; exact ⟨ret_bool (by rw [smN]; first | (simp; omega) | (rw [Bool.eq_iff_iff]; simp; omega)), rfl⟩)

set_option maxHeartbeats 1000000 in
theorem isName_any (s : ByteArray) (w : World) (hs : s.size ≤ maxLen) :
    Calls Tryd.prog 33 #[.string s] w fun e w' => e = .returned (.bool (nmB s)) ∧ w = w' := by
  unfold maxLen at hs
  by_cases h0 : s.size = 0
  · have e1 : s.toList = [] := by
      rw [ByteArray.toList_eq]; exact List.eq_nil_of_length_eq_zero (by simpa using h0)
    have hn : nmB s = false := by simp [nmB, h0]
    have Hn := Lib.hid hn
    clear hn h0
    go_enter Tryd.func33, Tryd.ntmps33
    go_wp2_with fail
    go_ret
    exact ⟨ret_bool Hn.out.symm, rfl⟩
  · have hp : 0 < s.size := by omega
    have e1 : s.toList.isEmpty = false := by
      rw [ByteArray.toList_eq]
      cases h : s.data.toList with
      | nil => have h2 : s.data.toList.length = 0 := by rw [h]; rfl
               have h3 : s.data.toList.length = s.size := by simp
               omega
      | cons a l => rfl
    clear h0
    by_cases h16 : 16 < s.size
    · have hn : nmB s = false := by simp [nmB]; omega
      have Hn := Lib.hid hn
      clear hn
      go_enter Tryd.func33, Tryd.ntmps33
      go_wp2_with fail
      go_ret
      exact ⟨ret_bool Hn.out.symm, rfl⟩
    · have h16' : s.size ≤ 16 := by omega
      clear h16
      have B0 := Lib.hid (byt_eq s 0 hp)
      by_cases hsm : smN (byt s 0) = true
      · have HS := Lib.hid hsm
        clear hsm
        go_enter Tryd.func33, Tryd.ntmps33
        go_wp2_with fail
        rw [B0.out]
        refine (small_any _ _).mono ?_
        rintro e w1 ⟨rfl, rfl⟩
        rw [HS.out]
        go_wp2_with fail
        go_loop [19] (fun i => ∃ k : Nat, k ≤ s.size ∧ i = .int .i64 k ∧ okTo s k = true) (fun i => s.size - (intOf i).toNat)
        case atStart => exact ⟨0, Nat.zero_le _, rfl, rfl⟩
        case round =>
          obtain ⟨k, hk, rfl, ho⟩ := hrel
          have HO := Lib.hid ho
          clear ho
          by_cases hlt : k < s.size
          · have Bk := Lib.hid (byt_eq s k hlt)
            by_cases hc : smN (byt s k) = true
            · have HC := Lib.hid hc
              clear hc
              go_wp2_with fail
              rw [Bk.out]
              refine (small_any _ _).mono ?_
              rintro e w1 ⟨rfl, rfl⟩
              rw [HC.out]
              go_wp2_with fail
              go_round
              case rel => exact ⟨k + 1, by omega, by go_num, by rw [okTo, HO.out, okN, HC.out]; rfl⟩
              case measure => simp [intOf]; omega
            · have HC := Lib.hid (show smN (byt s k) = false by simpa using hc)
              clear hc
              have hk0 : k ≠ 0 := by
                rintro rfl
                have h1 := HC.out
                rw [HS.out] at h1
                cases h1
              have HK := Lib.hid hk0
              clear hk0
              have hT : tlN (byt s k) = true → okN k (byt s k) = true := fun h => by simp [okN, h, HK.out]
              have hF : tlN (byt s k) = false → nmB s = false := fun h => by
                have := okTo_no s (k := k) (n := s.size) hlt (by simp [okN, h, HC.out])
                simp [nmB, this]
              have HT := Lib.hid hT
              have HF := Lib.hid hF
              clear hT hF
              have hb : (s[k].toNat : Int) = byt s k := by rw [Bk.out]
              have HB := Lib.hid hb
              clear hb
              by_cases c1 : 48 ≤ (s[k].toNat : Int)
              · by_cases c2 : (s[k].toNat : Int) ≤ 57
                · have H2 := Lib.hid (HT.out (by have := HB.out; simp [tlN]; left; omega))
                  go_wp2_with fail
                  rw [Bk.out]
                  refine (small_any _ _).mono ?_
                  rintro e w1 ⟨rfl, rfl⟩
                  rw [HC.out]
                  go_wp2_with fail
                  go_round
                  case rel => exact ⟨k + 1, by omega, by go_num, by rw [okTo, HO.out, H2.out]; rfl⟩
                  case measure => simp [intOf]; omega
                · have c2' : 57 < (s[k].toNat : Int) := by omega
                  clear c2
                  by_cases c3 : (s[k].toNat : Int) = 95
                  · have H2 := Lib.hid (HT.out (by have := HB.out; simp [tlN]; right; omega))
                    have c4 : ((s[k].toNat : Int) != 95) = false := by simpa using c3
                    clear c3
                    go_wp2_with fail
                    rw [Bk.out]
                    refine (small_any _ _).mono ?_
                    rintro e w1 ⟨rfl, rfl⟩
                    rw [HC.out]
                    go_wp2_with fail
                    go_round
                    case rel => exact ⟨k + 1, by omega, by go_num, by rw [okTo, HO.out, H2.out]; rfl⟩
                    case measure => simp [intOf]; omega
                  · have H2 := Lib.hid (HF.out (by have := HB.out; simp [tlN]; constructor <;> omega))
                    have c4 : ((s[k].toNat : Int) != 95) = true := by simpa using c3
                    clear c3
                    go_wp2_with fail
                    rw [Bk.out]
                    refine (small_any _ _).mono ?_
                    rintro e w1 ⟨rfl, rfl⟩
                    rw [HC.out]
                    go_wp2_with fail
                    go_ret
                    exact ⟨ret_bool H2.out.symm, rfl⟩
              · have c1' : (s[k].toNat : Int) < 48 := by omega
                clear c1
                have H2 := Lib.hid (HF.out (by have := HB.out; simp [tlN]; constructor <;> omega))
                have c4 : ((s[k].toNat : Int) != 95) = true := by simp; omega
                go_wp2_with fail
                rw [Bk.out]
                refine (small_any _ _).mono ?_
                rintro e w1 ⟨rfl, rfl⟩
                rw [HC.out]
                go_wp2_with fail
                go_ret
                exact ⟨ret_bool H2.out.symm, rfl⟩
          · go_wp2_with fail
            go_ret
            obtain rfl : k = s.size := by omega
            exact ⟨ret_bool (by rw [nmB, HO.out]; simp; omega), rfl⟩
      · have hn : nmB s = false := by
          have := okTo_no s (k := 0) (n := s.size) hp (by simp [okN]; simpa using hsm)
          simp [nmB, this]
        have Hn := Lib.hid hn
        clear hn
        have HS := Lib.hid (show smN (byt s 0) = false by simpa using hsm)
        clear hsm
        go_enter Tryd.func33, Tryd.ntmps33
        go_wp2_with fail
        rw [B0.out]
        refine (small_any _ _).mono ?_
        rintro e w1 ⟨rfl, rfl⟩
        rw [HS.out]
        go_wp2_with fail
        go_ret
        exact ⟨ret_bool Hn.out.symm, rfl⟩

set_option maxHeartbeats 1000000 in
theorem name3_any (s : ByteArray) (w : World) (hs : s.size ≤ maxLen) :
    Calls Tryd.prog 30 #[.string s] w fun e w' => e = .returned (.bool (nmB s)) ∧ w = w' := by
  unfold maxLen at hs
  go_enter Tryd.func30, Tryd.ntmps30
  go_wp2_with fail
  go_loop [3] (fun i => ∃ k : Nat, k ≤ s.size ∧ i = .int .i64 k ∧ okTo s k = true) (fun i => s.size - (intOf i).toNat)
  case atStart => exact ⟨0, Nat.zero_le _, rfl, rfl⟩
  case round =>
    obtain ⟨k, hk, rfl, ho⟩ := hrel
    have HO := Lib.hid ho
    clear ho
    by_cases hlt : k < s.size
    · have Bk := Lib.hid (show (s[k].toNat : Int) = byt s k by rw [byt_eq s k hlt])
      have hF : okN k (byt s k) = false → nmB s = false := fun h => by
        have := okTo_no s (k := k) (n := s.size) hlt h
        simp [nmB, this]
      have HF := Lib.hid hF
      clear hF
      by_cases q1 : 122 < (s[k].toNat : Int)
      · have d1 : decide ((s[k].toNat : Int) ≤ 122) = false := by simp; omega
        by_cases q2 : k = 0
        · subst q2
          have H2 := Lib.hid (HF.out (by have := Bk.out; simp [okN, smN, tlN]; omega))
          go_wp2_with fail
          go_ret
          exact ⟨ret_bool H2.out.symm, rfl⟩
        · have H2 := Lib.hid (HF.out (by have := Bk.out; simp [okN, smN, tlN]; omega))
          have c9 : ((s[k].toNat : Int) != 95) = true := by simp; omega
          have e0 : ((k : Int) == 0) = false := by simp; omega
          have c8 : 57 < (s[k].toNat : Int) := by omega
          have d2 : decide ((s[k].toNat : Int) ≤ 57) = false := by simp; omega
          clear q2
          go_wp2_with fail
          go_ret
          exact ⟨ret_bool H2.out.symm, rfl⟩
      · have q1' : (s[k].toNat : Int) ≤ 122 := by omega
        clear q1
        by_cases q3 : 97 ≤ (s[k].toNat : Int)
        · have H2 := Lib.hid (show okN k (byt s k) = true by have := Bk.out; simp [okN, smN, tlN]; omega)
          go_wp2_with fail
          go_round
          case rel => exact ⟨k + 1, by omega, by go_num, by rw [okTo, HO.out, H2.out]; rfl⟩
          case measure => simp [intOf]; omega
        · have q3' : (s[k].toNat : Int) < 97 := by omega
          clear q3
          by_cases q2 : k = 0
          · subst q2
            have H2 := Lib.hid (HF.out (by have := Bk.out; simp [okN, smN, tlN]; omega))
            go_wp2_with fail
            go_ret
            exact ⟨ret_bool H2.out.symm, rfl⟩
          · by_cases q4 : 48 ≤ (s[k].toNat : Int)
            · by_cases q5 : (s[k].toNat : Int) ≤ 57
              · have H2 := Lib.hid (show okN k (byt s k) = true by have := Bk.out; simp [okN, smN, tlN]; omega)
                have e0 : ((k : Int) == 0) = false := by simp; omega
                clear q2
                go_wp2_with fail
                go_round
                case rel => exact ⟨k + 1, by omega, by go_num, by rw [okTo, HO.out, H2.out]; rfl⟩
                case measure => simp [intOf]; omega
              · have q5' : 57 < (s[k].toNat : Int) := by omega
                have d2 : decide ((s[k].toNat : Int) ≤ 57) = false := by simp; omega
                clear q5
                by_cases q6 : (s[k].toNat : Int) = 95
                · have H2 := Lib.hid (show okN k (byt s k) = true by have := Bk.out; simp [okN, smN, tlN]; omega)
                  have c9 : ((s[k].toNat : Int) != 95) = false := by simp; omega
                  have e0 : ((k : Int) == 0) = false := by simp; omega
                  clear q2 q6
                  go_wp2_with fail
                  go_round
                  case rel => exact ⟨k + 1, by omega, by go_num, by rw [okTo, HO.out, H2.out]; rfl⟩
                  case measure => simp [intOf]; omega
                · have H2 := Lib.hid (HF.out (by have := Bk.out; simp [okN, smN, tlN]; omega))
                  have c9 : ((s[k].toNat : Int) != 95) = true := by simp; omega
                  have e0 : ((k : Int) == 0) = false := by simp; omega
                  clear q2 q6
                  go_wp2_with fail
                  go_ret
                  exact ⟨ret_bool H2.out.symm, rfl⟩
            · have q4' : (s[k].toNat : Int) < 48 := by omega
              clear q4
              have H2 := Lib.hid (HF.out (by have := Bk.out; simp [okN, smN, tlN]; omega))
              have c9 : ((s[k].toNat : Int) != 95) = true := by simp; omega
              have e0 : ((k : Int) == 0) = false := by simp; omega
              clear q2
              go_wp2_with fail
              go_ret
              exact ⟨ret_bool H2.out.symm, rfl⟩
    · go_wp2_with fail
      refine (within3_any _ _ _ _).mono ?_
      rintro e w1 ⟨rfl, rfl⟩
      go_wp2_with fail
      go_ret
      obtain rfl : k = s.size := by omega
      exact ⟨ret_bool (by rw [nmB, HO.out, inB, Bool.eq_iff_iff]; simp; omega), rfl⟩
end Go.Proofs.YtlpbmcnojkhdcaaDoor
