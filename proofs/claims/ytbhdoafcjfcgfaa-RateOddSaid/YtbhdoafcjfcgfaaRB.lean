/-
  Contracts of the reference of package rate: names, boxes.
-/
import Derived.Test.YtbhdoafcjfcgfaaRA
namespace Go.Proofs.Ytbhdoafcjfcgfaa
open Go.RowKit
set_option linter.unusedSimpArgs false
set_option linter.unusedVariables false

set_option maxHeartbeats 2000000 in
theorem name6_any (s : ByteArray) (w : World) (hs : s.size ≤ maxLen) :
    Calls Try.prog 44 #[.string s] w fun e w' => e = .returned (.bool (nmB s)) ∧ w = w' := by
  unfold maxLen at hs
  go_enter Try.func44, Try.ntmps44
  go_wp2_with fail
  go_loop [7] (fun i => ∃ k : Nat, k ≤ s.size ∧ i = .int .i64 k ∧ okTo s k = true) (fun i => s.size - (intOf i).toNat)
  case atStart => exact ⟨0, Nat.zero_le _, rfl, rfl⟩
  case round =>
    obtain ⟨k, hk, rfl, ho⟩ := hrel
    have HO := Lib.hid ho
    clear ho
    by_cases hlt : k < s.size
    · have Bk := Lib.hid (show (s[k].toNat : Int) = byt s k by rw [byt_eq s k hlt])
      have hF : okN k (byt s k) = false → nmB s = false := fun h => by
        have := okTo_no s (k := k) (n := s.size) hlt h
        simp [nmB, this]
      have HF := Lib.hid hF
      clear hF
      by_cases q1 : (s[k].toNat : Int) < 97
      · by_cases q2 : k = 0
        · subst q2
          have H2 := Lib.hid (HF.out (by have := Bk.out; simp [okN, smN, tlN]; omega))
          go_wp2_with fail
          go_ret
          exact ⟨ret_bool H2.out.symm, rfl⟩
        · have e0 : ((k : Int) == 0) = false := by simp; omega
          by_cases q3 : (s[k].toNat : Int) = 95
          · have c9 : ((s[k].toNat : Int) != 95) = false := by simp; omega
            have H2 := Lib.hid (show okN k (byt s k) = true by have := Bk.out; simp [okN, smN, tlN]; omega)
            clear q2 q3
            go_wp2_with fail
            go_round
            case rel => exact ⟨k + 1, by omega, by go_num, by rw [okTo, HO.out, H2.out]; rfl⟩
            case measure => simp [intOf]; omega
          · have c9 : ((s[k].toNat : Int) != 95) = true := by simp; omega
            by_cases q4 : (s[k].toNat : Int) < 48
            · have H2 := Lib.hid (HF.out (by have := Bk.out; simp [okN, smN, tlN]; omega))
              clear q2 q3
              go_wp2_with fail
              go_ret
              exact ⟨ret_bool H2.out.symm, rfl⟩
            · by_cases q5 : 57 < (s[k].toNat : Int)
              · have H2 := Lib.hid (HF.out (by have := Bk.out; simp [okN, smN, tlN]; omega))
                have q4' : 48 ≤ (s[k].toNat : Int) := by omega
                clear q2 q3 q4
                go_wp2_with fail
                go_ret
                exact ⟨ret_bool H2.out.symm, rfl⟩
              · have H2 := Lib.hid (show okN k (byt s k) = true by have := Bk.out; simp [okN, smN, tlN]; omega)
                have q4' : 48 ≤ (s[k].toNat : Int) := by omega
                have q5' : (s[k].toNat : Int) ≤ 57 := by omega
                clear q2 q3 q4 q5
                go_wp2_with fail
                go_round
                case rel => exact ⟨k + 1, by omega, by go_num, by rw [okTo, HO.out, H2.out]; rfl⟩
                case measure => simp [intOf]; omega
      · have q1' : 97 ≤ (s[k].toNat : Int) := by omega
        by_cases q6 : 122 < (s[k].toNat : Int)
        · by_cases q2 : k = 0
          · subst q2
            have H2 := Lib.hid (HF.out (by have := Bk.out; simp [okN, smN, tlN]; omega))
            clear q1
            go_wp2_with fail
            go_ret
            exact ⟨ret_bool H2.out.symm, rfl⟩
          · have e0 : ((k : Int) == 0) = false := by simp; omega
            have c9 : ((s[k].toNat : Int) != 95) = true := by simp; omega
            have H2 := Lib.hid (HF.out (by have := Bk.out; simp [okN, smN, tlN]; omega))
            clear q1 q2
            go_wp2_with fail
            go_ret
            exact ⟨ret_bool H2.out.symm, rfl⟩
        · have H2 := Lib.hid (show okN k (byt s k) = true by have := Bk.out; simp [okN, smN, tlN]; omega)
          have q6' : (s[k].toNat : Int) ≤ 122 := by omega
          clear q1 q6
          go_wp2_with fail
          go_round
          case rel => exact ⟨k + 1, by omega, by go_num, by rw [okTo, HO.out, H2.out]; rfl⟩
          case measure => simp [intOf]; omega
    · obtain rfl : k = s.size := by omega
      by_cases h1 : 1 ≤ s.size
      · by_cases h16 : s.size ≤ 16
        · have H2 := Lib.hid (show nmB s = true by simp [nmB, HO.out, h1, h16])
          go_wp2_with fail
          go_ret
          exact ⟨ret_bool (by rw [H2.out]; try (simp; try omega)), rfl⟩
        · have H2 := Lib.hid (show nmB s = false by simp [nmB, h16])
          have h16' : 16 < s.size := by omega
          clear h16
          go_wp2_with fail
          go_ret
          exact ⟨ret_bool (by rw [H2.out]; try (simp; try omega)), rfl⟩
      · have H2 := Lib.hid (show nmB s = false by simp [nmB]; omega)
        have h1' : s.size = 0 := by omega
        go_wp2_with fail
        go_ret
        exact ⟨ret_bool (by rw [H2.out]; try (simp; try omega)), rfl⟩

set_option maxHeartbeats 3200000 in
theorem rvalidBox_any (s : ByteArray) (A : Option Addr) (n c : Nat) (E : Nat → Int) (w : World) (hs : s.size ≤ maxLen) (hn : n ≤ maxLen) (h : Sl w A n E) :
    Calls Try.prog 16 #[encB s A n c] w fun e' w' => e' = .returned (.bool (vbB s n E)) ∧ Bl w w' := by
  unfold maxLen at hn
  go_enter Try.func16, Try.ntmps16
  go_wp2_with fail
  obtain ⟨W, hW⟩ : ∃ W, W = w.alloc (.cells #[.string s, .slice A n c] 24) := ⟨_, rfl⟩
  have BW : Bl w W := by rw [hW]; go_grown
  have x0 : W.cell? ⟨w.heap.size, 0, none⟩ = some (.string s) := by rw [hW]; go_cell
  have x1 : W.cell? ⟨w.heap.size, 1, none⟩ = some (.slice A n c) := by rw [hW]; go_cell
  have hS := h.below BW
  rw [← hW]
  clear hW
  go_loop [8] (fun i => ∃ k : Nat, k ≤ n ∧ i = .int .i64 k ∧ dyTo E k = true) (fun i => n - (intOf i).toNat)
  case atStart => exact ⟨0, Nat.zero_le _, rfl, rfl⟩
  case round =>
    obtain ⟨k, hk, rfl, ho⟩ := hrel
    have HO := Lib.hid ho
    clear ho
    by_cases hlt : k < n
    · obtain ⟨b, off, rfl, hb, hc⟩ := hS (by omega)
      have c1 := hc k hlt
      clear hc
      have HF := Lib.hid (fun (q : inB (E k) (-86400000) 86400000 = false) => (show vbB s n E = false by simp [vbB, dyTo_no E (k := k) (n := n) hlt q]))
      by_cases q1 : E k < -86400000
      · have H2 := Lib.hid (HF.out (inB_no.2 (by omega)))
        go_wp2_with fail
        go_ret
        exact ⟨ret_bool H2.out.symm, BW⟩
      · by_cases q2 : 86400000 < E k
        · have H2 := Lib.hid (HF.out (inB_no.2 (by omega)))
          have q1' : -86400000 ≤ E k := by omega
          clear q1
          go_wp2_with fail
          go_ret
          exact ⟨ret_bool H2.out.symm, BW⟩
        · have H2 := Lib.hid (show inB (E k) (-86400000) 86400000 = true from inB_iff.2 ⟨by omega, by omega⟩)
          have q1' : -86400000 ≤ E k := by omega
          have q2' : E k ≤ 86400000 := by omega
          clear q1 q2
          go_wp2_with fail
          go_round
          case rel => exact ⟨k + 1, by omega, by go_num, by rw [dyTo, HO.out, H2.out]; rfl⟩
          case measure => simp [intOf]; omega
    · obtain rfl : k = n := by omega
      by_cases hm : nmB s = true
      · have HN := Lib.hid hm
        clear hm
        have HV := Lib.hid (show vbB s k E = (decide (2 ≤ k) && decide (k ≤ 400)) by simp [vbB, HN.out, HO.out])
        by_cases h2 : 2 ≤ k
        · go_wp2_with fail
          refine (name6_any _ _ hs).mono ?_
          rintro e w1 ⟨rfl, rfl⟩
          rw [HN.out]
          go_wp2_with fail
          all_goals
            go_ret
            exact ⟨ret_bool (by rw [HV.out]; simp [h2]; try omega), BW⟩
        · have h2' : k < 2 := by omega
          clear h2
          go_wp2_with fail
          refine (name6_any _ _ hs).mono ?_
          rintro e w1 ⟨rfl, rfl⟩
          rw [HN.out]
          go_wp2_with fail
          go_ret
          exact ⟨ret_bool (by rw [HV.out]; simp; try omega), BW⟩
      · have HN := Lib.hid (show nmB s = false by simpa using hm)
        have HV := Lib.hid (show vbB s k E = false by simp [vbB, hm])
        clear hm
        go_wp2_with fail
        refine (name6_any _ _ hs).mono ?_
        rintro e w1 ⟨rfl, rfl⟩
        rw [HN.out]
        go_wp2_with fail
        go_ret
        exact ⟨ret_bool HV.out.symm, BW⟩
end Go.Proofs.Ytbhdoafcjfcgfaa
