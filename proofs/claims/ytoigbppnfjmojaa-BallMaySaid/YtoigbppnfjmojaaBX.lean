/-
  The walk of BallMay.
-/
import Derived.Test.YtoigbppnfjmojaaBU
namespace Go.Proofs.Ytoigbppnfjmojaa
open Go.RowKit
set_option linter.unusedSimpArgs false
set_option linter.unusedVariables false

theorem wf63 {t : Int} (h : (Lit.int .i64 t).wf = true) : -9223372036854775808 ≤ t ∧ t ≤ 9223372036854775807 := by
  simp only [Lit.wf, Bool.and_eq_true, decide_eq_true_eq] at h
  exact ⟨h.1, h.2⟩
theorem bmay_any (M : Mst) (s : Bal) (t : Int) (w : World) (h63 : -9223372036854775808 ≤ t ∧ t ≤ 9223372036854775807) : Calls Try.prog 15 #[encM M, encB s, .int .i64 t] w (MayPost M s t w) := by
  by_cases h : VM M ∧ VS s
  · exact bmay_ok M s t w h.1 h.2 h63
  · exact bmay_bad M s t w h
theorem rmay_any (M : Mst) (s : Bal) (t : Int) (w : World) (h63 : -9223372036854775808 ≤ t ∧ t ≤ 9223372036854775807) : Calls Try.prog 16 #[encM M, encB s, .int .i64 t] w (MayPost M s t w) := by
  by_cases h : VM M ∧ VS s
  · exact rmay_ok M s t w h.1 h.2 h63
  · exact rmay_bad M s t w h
theorem sNB_same (n : Nat) (f : Nat → Int) : sNB n f n f = true := by unfold sNB; rw [eqN_same]; simp
theorem mayR_len (M : Mst) (s : Bal) (t : Int) : (mayR M s t).1.length ≤ 6 := by
  unfold mayR
  split
  · split
    · exact mayL_len M s t 6
    · decide
  · decide
/-- Where May has no error: its kinds, and what Next says of each. -/
theorem mayR_ok {M : Mst} {s : Bal} {t : Int} (h : (mayR M s t).2 = 0) (k : Nat) (h0 : 1 ≤ k) (h1 : k ≤ 6) :
    ∃ (x : Bal) (e : Int), nxtF M s ⟨t, k, 0⟩ = (x, e) ∧ (e == 0) = hasN (fun j => (mayR M s t).1.getD j 0) (k : Int) (mayR M s t).1.length := by
  unfold mayR at h ⊢
  by_cases hv : VM M ∧ VS s
  · rw [if_pos hv] at h ⊢
    by_cases ht : s.t ≤ t ∧ isT t
    · rw [if_pos ht]
      have e := stp_may (M := M) (s := s) (k := (k : Int)) ht.1 ht.2 (by omega) (by omega)
      have h2 := has_may M s t k h0 h1
      unfold nxtF
      rw [if_pos hv, e]
      by_cases ha : alw M s (k : Int) t
      · rw [if_pos ha]
        exact ⟨_, _, rfl, by rw [h2, decide_eq_true ha]; rfl⟩
      · rw [if_neg ha]
        exact ⟨_, _, rfl, by rw [h2, decide_eq_false ha]; rfl⟩
    · rw [if_neg ht] at h; exact absurd h (by decide)
  · rw [if_neg hv] at h; exact absurd h (by decide)
set_option maxRecDepth 100000 in
set_option maxHeartbeats 16000000 in
theorem bmay_walk (M : Mst) (s : Bal) (t : Int) (w : World) (h63 : -9223372036854775808 ≤ t ∧ t ≤ 9223372036854775807) : Calls Try.prog 4 #[encM M, encB s, .int .i64 t] w fun e' w' => e' = .returned (.bool true) ∧ Bl w w' := by
  have H63 := Lib.hid h63
  have HOK := Lib.hid (fun h => mayR_ok (M := M) (s := s) (t := t) h)
  have hl6 := mayR_len M s t
  obtain ⟨r, hr⟩ : ∃ r, r = mayR M s t := ⟨_, rfl⟩
  have HR := Lib.hid hr
  rw [← hr] at HOK hl6
  obtain ⟨l, er⟩ := r
  dsimp only at hl6
  obtain ⟨n, hn⟩ : ∃ n, n = l.length := ⟨_, rfl⟩
  have HN := Lib.hid hn
  rw [← hn] at hl6
  have ee : (er != er) = false := by simp
  clear hr hn h63
  go_enter Try.func4, Try.ntmps4
  go_wp2_with fail
  refine (bmay_any M s t _ H63.out).mono ?_
  rintro q1 w1 ⟨hb, A1, c1, rfl, sa1⟩
  rw [← HR.out] at sa1 ⊢
  dsimp only at sa1 ⊢
  rw [← HN.out] at sa1 ⊢
  have m0 := kcb hb (b := w.heap.size) (o := 0) (v := .int .i64 M.no) (by first | assumption | (refine cellUp ?_; assumption) | go_cell)
  have m1 := kcb hb (b := w.heap.size) (o := 1) (v := .int .i64 M.hf) (by first | assumption | (refine cellUp ?_; assumption) | go_cell)
  have m2 := kcb hb (b := w.heap.size) (o := 2) (v := .int .i64 M.fu) (by first | assumption | (refine cellUp ?_; assumption) | go_cell)
  have m3 := kcb hb (b := w.heap.size) (o := 3) (v := .int .i64 M.la) (by first | assumption | (refine cellUp ?_; assumption) | go_cell)
  have m4 := kcb hb (b := w.heap.size) (o := 4) (v := .int .i64 M.ag) (by first | assumption | (refine cellUp ?_; assumption) | go_cell)
  have m5 := kcb hb (b := w.heap.size) (o := 5) (v := .int .i64 M.wi) (by first | assumption | (refine cellUp ?_; assumption) | go_cell)
  have s0 := kcb hb (b := w.heap.size + 1) (o := 0) (v := .int .i64 s.pl) (by first | assumption | (refine cellUp ?_; assumption) | go_cell)
  have s1 := kcb hb (b := w.heap.size + 1) (o := 1) (v := .int .i64 s.wi) (by first | assumption | (refine cellUp ?_; assumption) | go_cell)
  have s2 := kcb hb (b := w.heap.size + 1) (o := 2) (v := .bool s.fl) (by first | assumption | (refine cellUp ?_; assumption) | go_cell)
  have s3 := kcb hb (b := w.heap.size + 1) (o := 3) (v := .int .i64 s.t) (by first | assumption | (refine cellUp ?_; assumption) | go_cell)
  have B1 : Bl w w1 := Below.trans (by go_grown) (hb.mono (by (try simp only [World.size_alloc]); omega))
  have l1 := ltb m0
  have n1 := ltb s0
  have zz1 := B1.size
  have S1 := Lib.hid sa1
  clear hb sa1
  go_wp2_with fail
  refine (rmay_any M s t _ H63.out).mono ?_
  rintro q2 w2 ⟨hb, A2, c2, rfl, sa2⟩
  rw [← HR.out] at sa2 ⊢
  dsimp only at sa2 ⊢
  rw [← HN.out] at sa2 ⊢
  have m0 := kcb hb (b := w.heap.size) (o := 0) (v := .int .i64 M.no) (by first | assumption | (refine cellUp ?_; assumption) | go_cell)
  have m1 := kcb hb (b := w.heap.size) (o := 1) (v := .int .i64 M.hf) (by first | assumption | (refine cellUp ?_; assumption) | go_cell)
  have m2 := kcb hb (b := w.heap.size) (o := 2) (v := .int .i64 M.fu) (by first | assumption | (refine cellUp ?_; assumption) | go_cell)
  have m3 := kcb hb (b := w.heap.size) (o := 3) (v := .int .i64 M.la) (by first | assumption | (refine cellUp ?_; assumption) | go_cell)
  have m4 := kcb hb (b := w.heap.size) (o := 4) (v := .int .i64 M.ag) (by first | assumption | (refine cellUp ?_; assumption) | go_cell)
  have m5 := kcb hb (b := w.heap.size) (o := 5) (v := .int .i64 M.wi) (by first | assumption | (refine cellUp ?_; assumption) | go_cell)
  have s0 := kcb hb (b := w.heap.size + 1) (o := 0) (v := .int .i64 s.pl) (by first | assumption | (refine cellUp ?_; assumption) | go_cell)
  have s1 := kcb hb (b := w.heap.size + 1) (o := 1) (v := .int .i64 s.wi) (by first | assumption | (refine cellUp ?_; assumption) | go_cell)
  have s2 := kcb hb (b := w.heap.size + 1) (o := 2) (v := .bool s.fl) (by first | assumption | (refine cellUp ?_; assumption) | go_cell)
  have s3 := kcb hb (b := w.heap.size + 1) (o := 3) (v := .int .i64 s.t) (by first | assumption | (refine cellUp ?_; assumption) | go_cell)
  have B2 : Bl w w2 := Below.trans (by first | exact B1 | exact B1.tr (by go_grown)) (hb.mono (by (try simp only [World.size_alloc]); omega))
  have l2 := ltb m0
  have n2 := ltb s0
  have zz2 := B2.size
  have S1 := Lib.hid (S1.out.below (Bl.tr (by first | exact Bl.rf _ | go_grown) hb))
  have S2 := Lib.hid sa2
  clear hb sa2
  go_wp2_with fail
  refine (sameN_any A1 n c1 (fun j => l.getD j 0) A2 n c2 (fun j => l.getD j 0) _ (by unfold maxLen; omega) (by unfold maxLen; omega) S1.out S2.out).mono ?_
  rintro q3 w3 ⟨rfl, N3, rfl⟩
  rw [sNB_same]
  obtain ⟨W, hW⟩ : ∃ W, W = w2.drewN N3 := ⟨_, rfl⟩
  have BWW : Bl w2 W := by rw [hW]; exact ⟨rfl, rfl, rfl, Nat.le_refl _, fun _ _ => rfl⟩
  rw [← hW]
  clear hW
  by_cases he : er = 0
  rotate_left
  · have e1 : (er != 0) = true := by simp [he]
    go_wp2_with fail
    have HB0 := Lib.hid (Bl.tr B2 BWW)
    refine (awakeB_any _).mono ?_
    rintro e9 w9 ⟨rfl, hb9⟩
    go_wp2_with fail
    go_ret
    exact ⟨rfl, Bl.tr HB0.out hb9⟩
  · subst he
    have HK := Lib.hid (HOK.out rfl)
    have S1 := Lib.hid (S1.out.below BWW)
    have B3 := Lib.hid (Bl.tr B2 BWW)
    have m0 := kcb BWW m0
    have m1 := kcb BWW m1
    have m2 := kcb BWW m2
    have m3 := kcb BWW m3
    have m4 := kcb BWW m4
    have m5 := kcb BWW m5
    have s0 := kcb BWW s0
    have s1 := kcb BWW s1
    have s2 := kcb BWW s2
    have s3 := kcb BWW s3
    have HMC := Lib.hid (show MastAt W w.heap.size M from ⟨m0, m1, m2, m3, m4, m5⟩)
    have HSC := Lib.hid (show SAt W (w.heap.size + 1) s from ⟨s0, s1, s2, s3⟩)
    clear m0 m1 m2 m3 m4 m5 s0 s1 s2 s3
    go_wp2_with fail
    go_loopw [11] (fun i wr => ∃ k : Nat, 1 ≤ k ∧ k ≤ 7 ∧ i = .int .i64 k ∧ Bl W wr) (fun i _ => 7 - (RowKit.intOf i).toNat)
    case atStart => exact ⟨1, by omega, by omega, rfl, Bl.rf _⟩
    case round =>
      obtain ⟨k, hk1, hk7, rfl, hb⟩ := hrel
      have HB := Lib.hid hb
      clear hb
      by_cases hlt : k ≤ 6
      · obtain ⟨x, e, hx, hxe⟩ := HK.out k hk1 hlt
        have HX := Lib.hid hx
        have HXE := Lib.hid hxe
        have S1k := Lib.hid (S1.out.below HB.out)
        have HM := Lib.hid (HMC.out.below HB.out)
        have HS := Lib.hid (HSC.out.below HB.out)
        clear hx hxe
        go_wp2_with fail
        obtain ⟨Wo, hWo⟩ : ∃ Wo, Wo = wr := ⟨_, rfl⟩
        subst hWo
        go_loopw [12, 49] (fun v i wr => ∃ j : Nat, j ≤ n ∧ i = .int .i64 j ∧ v = .bool (hasN (fun j => l.getD j 0) (k : Int) j) ∧ wr = Wo) (fun _ i _ => n - (RowKit.intOf i).toNat)
        case atStart => exact ⟨0, Nat.zero_le _, rfl, rfl, rfl⟩
        case round =>
          obtain ⟨j, hj, rfl, rfl, rfl⟩ := hrel
          by_cases hjn : j < n
          · obtain ⟨b, off, rfl, hbb, hcc⟩ := S1k.out (by omega)
            have c0 := hcc j hjn
            have HSU := Lib.hid (show hasN (fun j => l.getD j 0) (k : Int) (j + 1) = (hasN (fun j => l.getD j 0) (k : Int) j || decide (l.getD j 0 = (k : Int))) from rfl)
            obtain ⟨y, hy⟩ : ∃ y, y = l.getD j 0 := ⟨_, rfl⟩
            dsimp only at c0
            rw [← hy] at c0 HSU
            clear hcc hy
            cases hh : hasN (fun j => l.getD j 0) (k : Int) j with
            | true =>
              have HH := Lib.hid hh
              clear hh
              go_wp2_with fail
              go_roundw
              case rel => exact ⟨j + 1, by omega, by go_num, by rw [HSU.out, HH.out]; rfl, by first | rfl | trivial⟩
              case measure => simp [RowKit.intOf]; omega
            | false =>
              have HH := Lib.hid hh
              clear hh
              go_wp2_with fail
              go_roundw
              case rel => exact ⟨j + 1, by omega, by go_num, by rw [HSU.out, HH.out, Bool.false_or]; congr 1, by first | rfl | trivial⟩
              case measure => simp [RowKit.intOf]; omega
          · obtain rfl : j = n := by omega
            have hv : hasN (fun j => l.getD j 0) (k : Int) j = (e == 0) := by rw [HXE.out, HN.out]
            rw [hv]
            clear hv
            obtain ⟨m0, m1, m2, m3, m4, m5⟩ := HM.out
            obtain ⟨s0, s1, s2, s3⟩ := HS.out
            have lm := ltb m0
            have ls := ltb s0
            go_wp2_with fail
            refine (ballNext_any M s ⟨t, k, 0⟩ _).mono ?_
            rintro q7 w7 ⟨rfl, hb7⟩
            rw [HX.out]
            have B7 := Lib.hid (Bl.tr HB.out hb7)
            clear hb7
            by_cases h0 : e = 0
            · have e1 : (e == 0) = true := by simp [h0]
              go_wp2_with fail
              go_roundw
              case rel => exact ⟨k + 1, by omega, by omega, by go_num, B7.out.tr (by go_grown)⟩
              case measure => simp [RowKit.intOf]; omega
            · have e1 : (e == 0) = false := by simp [h0]
              go_wp2_with fail
              go_roundw
              case rel => exact ⟨k + 1, by omega, by omega, by go_num, B7.out.tr (by go_grown)⟩
              case measure => simp [RowKit.intOf]; omega
      · obtain rfl : k = 7 := by omega
        go_wp2_with fail
        have HB0 := Lib.hid (Bl.tr B3.out HB.out)
        refine (awakeB_any _).mono ?_
        rintro e9 w9 ⟨rfl, hb9⟩
        go_wp2_with fail
        go_ret
        exact ⟨rfl, Bl.tr HB0.out hb9⟩
  
end Go.Proofs.Ytoigbppnfjmojaa
