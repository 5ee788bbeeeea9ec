/-
  The walk of the law on the texts of lists of stars.
-/
import Derived.Test.YtlpbmcnojkhdcaaDoorTPC
import Derived.Test.YtlpbmcnojkhdcaaDoorTG
import Derived.Deep.RegionHeld3
namespace Go.Proofs.YtlpbmcnojkhdcaaDoor
open Go.RowKit Go.Lib
set_option linter.unusedSimpArgs false
set_option linter.unusedVariables false

theorem parseT_len : ∀ (f : Nat) (acc : List Sta) (s : ByteArray), acc.length ≤ 100 → (parseT f acc s).1.length ≤ 100
  | 0, acc, s, h => h
  | f + 1, acc, s, h => by
    unfold parseT
    split
    · exact h
    · split
      · simp
      · split
        · simp
        · split
          · simp
          · exact parseT_len f _ _ (by simp; omega)
theorem parseF_len (s : ByteArray) : (parseF s).1.length ≤ 100 := by
  unfold parseF
  split
  · simp
  · exact parseT_len _ _ _ (by simp)
theorem Stl.congr {w : World} {A : Option Addr} {n : Nat} {T U : Nat → Sta} (h : Stl w A n T) (hT : ∀ j, j < n → T j = U j) : Stl w A n U := fun hn => by
  obtain ⟨b, off, e, hb, hc⟩ := h hn
  exact ⟨b, off, e, hb, fun j hj => by rw [← hT j hj]; exact hc j hj⟩
theorem pa_named {s : ByteArray} {w w' : World} {e : Ending} {L : List Sta} {k r : Nat} (hp : parseF s = (L, k, r)) (h : PaPost s w e w') :
    ∃ A c, e = .returned (.tuple #[.slice A L.length c, .int .i64 (k : Nat), .int .i64 (r : Nat)]) ∧ Stl w' A L.length (fun j => L.getD j zeroS) ∧ Bl w w' := by
  obtain ⟨A, c, he, hs, hb⟩ := h
  rw [hp] at he hs
  exact ⟨A, c, he, hs, hb⟩
theorem pa_fmt {tx : ByteArray} {w w' : World} {e : Ending} {n : Nat} {T : Nat → Sta} (hp : parseF tx = ((List.range n).map T, 0, 0)) (h : PaPost tx w e w') :
    ∃ A c, e = .returned (.tuple #[.slice A n c, .int .i64 0, .int .i64 0]) ∧ Stl w' A n T ∧ Bl w w' := by
  obtain ⟨A, c, he, hs, hb⟩ := pa_named hp h
  rw [List.length_map, List.length_range] at he hs
  exact ⟨A, c, he, hs.congr fun j hj => by simp [hj], hb⟩

theorem fmt_full {n : Nat} {T : Nat → Sta} {tx : ByteArray} (h : tx = ⟨(fmtF n T).toArray⟩) (h0 : ¬ tx.size = 0) : n ≤ 100 ∧ parseF tx = ((List.range n).map T, 0, 0) ∧ tx.size ≤ 10000 := by
  have hs : tx.size = (fmtF n T).length := by rw [h]; simp [ByteArray.size]
  by_cases q : (decide (n ≤ 100) && vTo T n) = true
  · have e : fmtF n T = fmK T n := by unfold fmtF; rw [if_pos q]
    rw [Bool.and_eq_true, decide_eq_true_eq] at q
    have hl := fmK_len q.2
    rw [e] at h hs
    exact ⟨q.1, by rw [h]; exact parse_format q.1 q.2, by omega⟩
  · rw [show fmtF n T = [] by unfold fmtF; rw [if_neg q]] at hs
    exact absurd hs h0

set_option maxRecDepth 100000 in
set_option maxHeartbeats 3200000 in
theorem texts_walk (A : Option Addr) (n c : Nat) (T : Nat → Sta) (s : ByteArray) (w : World) (hn : n ≤ maxLen) (hT : ∀ j, j < n → (T j).s.size ≤ maxLen) (hA : Stl w A n T) (hs : s.size ≤ maxLen) (g : Gv w) :
    Calls Tryd.prog 3 #[.slice A n c, .string s] w fun e w' => e = .returned (.bool true) ∧ Bl w w' := by
  have HG := Lib.hid g
  have HA := Lib.hid hA
  have HT := Lib.hid hT
  have HN := Lib.hid hn
  have HS := Lib.hid hs
  clear g hA hT
  unfold maxLen at hn hs
  obtain ⟨L, k, r, hp⟩ : ∃ L k r, parseF s = (L, k, r) := ⟨_, _, _, rfl⟩
  have HP := Lib.hid hp
  have hL : L.length ≤ 100 := by have := parseF_len s; rw [hp] at this; exact this
  clear hp
  go_enter Tryd.func3, Tryd.ntmps3
  by_cases q1 : 200 < n
  · go_wp2_with fail
    refine (awake3_any _).mono ?_
    rintro e1 w1 ⟨rfl, hb⟩
    go_wp2_with fail
    go_ret
    exact ⟨rfl, hb⟩
  by_cases q2 : 3000 < s.size ∧ s.size ≤ 65536
  · obtain ⟨q2, q3⟩ := q2
    go_wp2_with fail
    refine (awake3_any _).mono ?_
    rintro e1 w1 ⟨rfl, hb⟩
    go_wp2_with fail
    go_ret
    exact ⟨rfl, hb⟩
  by_cases q3 : 3000 < s.size
  · have q4 : 65536 < s.size := by omega
    clear q2
    go_wp2_with fail
    go_loopw [5, 34] (fun z i wr => ∃ (j : Nat) (y : Int), j ≤ n ∧ i = .int .i64 j ∧ z = .int .i64 y ∧ Bl w wr) (fun _ i _ => n - (RowKit.intOf i).toNat)
    case atStart => exact ⟨0, _, Nat.zero_le _, rfl, rfl, by go_grown⟩
    case round =>
      obtain ⟨j, y, hj, rfl, rfl, hB⟩ := hrel
      have zB := hB.size
      by_cases hlt : j < n
      · obtain ⟨b, off, rfl, hbb, hc⟩ := (HA.out.below hB) (by omega)
        obtain ⟨c0, c1, c2, c3⟩ := hc j hlt
        have hz := HT.out j hlt
        unfold maxLen at hz
        clear hc
        go_wp2_with fail
        go_roundw
        case rel => exact ⟨j + 1, _, by omega, by go_num, rfl, by go_grown⟩
        case measure => simp [RowKit.intOf]; omega
      · have HZ := Lib.hid zB
        by_cases q5 : 5000 < y
        · go_wp2_with fail
          refine (awake3_any _).mono ?_
          rintro e1 w1 ⟨rfl, hb⟩
          go_wp2_with fail
          go_ret
          exact ⟨rfl, hB.tr hb⟩
        · go_wp2_with fail
          refine (parse_any s _ HS.out (HG.out.below hB)).mono ?_
          intro e1 w1 h1
          obtain ⟨A1, c1, rfl, S1, hb⟩ := pa_named HP.out h1
          have B1 := hB.tr hb
          clear hb h1
          go_wp2_with fail
          refine (rparse_any s _ HS.out (HG.out.below B1)).mono ?_
          intro e2 w2 h2
          obtain ⟨A2, c2, rfl, S2, hb⟩ := pa_named HP.out h2
          have S1' := S1.below hb
          have B2 := B1.tr hb
          clear hb h2 S1 B1
          obtain ⟨tx, htx⟩ : ∃ tx : ByteArray, tx = ⟨(fmtF n T).toArray⟩ := ⟨_, rfl⟩
          have TX := Lib.hid htx
          clear htx
          go_wp2_with fail
          refine (format_any A n c T _ HN.out HT.out (HA.out.below B2) (HG.out.below B2)).mono ?_
          rintro e3 w3 ⟨rfl, hb⟩
          rw [← TX.out]
          have HS1 := Lib.hid (S1'.below hb)
          have HS2 := Lib.hid (S2.below hb)
          have B3 := B2.tr hb
          clear hb S1' S2 B2
          have e1 : (tx.toList != tx.toList) = false := by simp
          go_wp2_with fail
          refine (rformat_any A n c T _ HN.out HT.out (HA.out.below B3) (HG.out.below B3)).mono ?_
          rintro e4 w4 ⟨rfl, hb⟩
          rw [← TX.out]
          have HS3 := Lib.hid (HS1.out.below hb)
          have HS4 := Lib.hid (HS2.out.below hb)
          have B4 := B3.tr hb
          clear hb
          go_wp2_with fail
          refine (sameStars_any A1 L.length c1 A2 c2 _ _ (by unfold maxLen; omega) HS3.out HS4.out).mono ?_
          rintro e5 w5 ⟨rfl, NN, rfl⟩
          have B5 := B4.tr (Bl.dz _ NN)
          by_cases q6 : tx.size = 0
          · have e2 : tx.toList = [] := by rw [ByteArray.toList_eq]; exact List.eq_nil_of_length_eq_zero (by simpa using q6)
            clear q6
            go_wp2_with fail
            refine (awake3_any _).mono ?_
            rintro e6 w6 ⟨rfl, hb⟩
            go_wp2_with fail
            go_ret
            exact ⟨rfl, B5.tr hb⟩
          · have e2 : tx.toList.isEmpty = false := by
              rw [ByteArray.toList_eq]
              cases h : tx.data.toList with
              | nil => have h2 : tx.data.toList.length = 0 := by rw [h]; rfl
                       have h3 : tx.data.toList.length = tx.size := by simp
                       omega
              | cons a l => rfl
            obtain ⟨hn2, hp2, hz2⟩ := fmt_full TX.out q6
            have HP2 := Lib.hid hp2
            clear hp2 q6
            go_wp2_with fail
            refine (parse_any tx _ (by unfold maxLen; omega) (HG.out.below B5)).mono ?_
            intro e6 w6 h6
            obtain ⟨A3, c3, rfl, S3, hb⟩ := pa_fmt HP2.out h6
            have B6 := B5.tr hb
            clear hb h6
            go_wp2_with fail
            refine (sameStars_any A3 n c3 A c T _ HN.out S3 (HA.out.below B6)).mono ?_
            rintro e7 w7 ⟨rfl, N7, rfl⟩
            have B7 := B6.tr (Bl.dz _ N7)
            go_wp2_with fail
            refine (awake3_any _).mono ?_
            rintro e8 w8 ⟨rfl, hb⟩
            go_wp2_with fail
            go_ret
            exact ⟨rfl, B7.tr hb⟩
  · clear q2
    go_wp2_with fail
    go_loopw [5, 34] (fun z i wr => ∃ (j : Nat) (y : Int), j ≤ n ∧ i = .int .i64 j ∧ z = .int .i64 y ∧ Bl w wr) (fun _ i _ => n - (RowKit.intOf i).toNat)
    case atStart => exact ⟨0, _, Nat.zero_le _, rfl, rfl, by go_grown⟩
    case round =>
      obtain ⟨j, y, hj, rfl, rfl, hB⟩ := hrel
      have zB := hB.size
      by_cases hlt : j < n
      · obtain ⟨b, off, rfl, hbb, hc⟩ := (HA.out.below hB) (by omega)
        obtain ⟨c0, c1, c2, c3⟩ := hc j hlt
        have hz := HT.out j hlt
        unfold maxLen at hz
        clear hc
        go_wp2_with fail
        go_roundw
        case rel => exact ⟨j + 1, _, by omega, by go_num, rfl, by go_grown⟩
        case measure => simp [RowKit.intOf]; omega
      · have HZ := Lib.hid zB
        by_cases q5 : 5000 < y
        · go_wp2_with fail
          refine (awake3_any _).mono ?_
          rintro e1 w1 ⟨rfl, hb⟩
          go_wp2_with fail
          go_ret
          exact ⟨rfl, hB.tr hb⟩
        · go_wp2_with fail
          refine (parse_any s _ HS.out (HG.out.below hB)).mono ?_
          intro e1 w1 h1
          obtain ⟨A1, c1, rfl, S1, hb⟩ := pa_named HP.out h1
          have B1 := hB.tr hb
          clear hb h1
          go_wp2_with fail
          refine (rparse_any s _ HS.out (HG.out.below B1)).mono ?_
          intro e2 w2 h2
          obtain ⟨A2, c2, rfl, S2, hb⟩ := pa_named HP.out h2
          have S1' := S1.below hb
          have B2 := B1.tr hb
          clear hb h2 S1 B1
          obtain ⟨tx, htx⟩ : ∃ tx : ByteArray, tx = ⟨(fmtF n T).toArray⟩ := ⟨_, rfl⟩
          have TX := Lib.hid htx
          clear htx
          go_wp2_with fail
          refine (format_any A n c T _ HN.out HT.out (HA.out.below B2) (HG.out.below B2)).mono ?_
          rintro e3 w3 ⟨rfl, hb⟩
          rw [← TX.out]
          have HS1 := Lib.hid (S1'.below hb)
          have HS2 := Lib.hid (S2.below hb)
          have B3 := B2.tr hb
          clear hb S1' S2 B2
          have e1 : (tx.toList != tx.toList) = false := by simp
          go_wp2_with fail
          refine (rformat_any A n c T _ HN.out HT.out (HA.out.below B3) (HG.out.below B3)).mono ?_
          rintro e4 w4 ⟨rfl, hb⟩
          rw [← TX.out]
          have HS3 := Lib.hid (HS1.out.below hb)
          have HS4 := Lib.hid (HS2.out.below hb)
          have B4 := B3.tr hb
          clear hb
          go_wp2_with fail
          refine (sameStars_any A1 L.length c1 A2 c2 _ _ (by unfold maxLen; omega) HS3.out HS4.out).mono ?_
          rintro e5 w5 ⟨rfl, NN, rfl⟩
          have B5 := B4.tr (Bl.dz _ NN)
          by_cases q6 : tx.size = 0
          · have e2 : tx.toList = [] := by rw [ByteArray.toList_eq]; exact List.eq_nil_of_length_eq_zero (by simpa using q6)
            clear q6
            go_wp2_with fail
            refine (awake3_any _).mono ?_
            rintro e6 w6 ⟨rfl, hb⟩
            go_wp2_with fail
            go_ret
            exact ⟨rfl, B5.tr hb⟩
          · have e2 : tx.toList.isEmpty = false := by
              rw [ByteArray.toList_eq]
              cases h : tx.data.toList with
              | nil => have h2 : tx.data.toList.length = 0 := by rw [h]; rfl
                       have h3 : tx.data.toList.length = tx.size := by simp
                       omega
              | cons a l => rfl
            obtain ⟨hn2, hp2, hz2⟩ := fmt_full TX.out q6
            have HP2 := Lib.hid hp2
            clear hp2 q6
            go_wp2_with fail
            refine (parse_any tx _ (by unfold maxLen; omega) (HG.out.below B5)).mono ?_
            intro e6 w6 h6
            obtain ⟨A3, c3, rfl, S3, hb⟩ := pa_fmt HP2.out h6
            have B6 := B5.tr hb
            clear hb h6
            go_wp2_with fail
            refine (sameStars_any A3 n c3 A c T _ HN.out S3 (HA.out.below B6)).mono ?_
            rintro e7 w7 ⟨rfl, N7, rfl⟩
            have B7 := B6.tr (Bl.dz _ N7)
            go_wp2_with fail
            refine (awake3_any _).mono ?_
            rintro e8 w8 ⟨rfl, hb⟩
            go_wp2_with fail
            go_ret
            exact ⟨rfl, B7.tr hb⟩
end Go.Proofs.YtlpbmcnojkhdcaaDoor
