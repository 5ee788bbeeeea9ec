/-
  Package ledger: Unfound, and the walk of LedgerDays.
-/
import Derived.Test.YtiaamhlcdnlahaaMI
import Derived.Test.YtiaamhlcdnlahaaMH
import Derived.Test.YtiaamhlcdnlahaaLI
namespace Go.Proofs.Ytiaamhlcdnlahaa
open Go.RowKit Go.Maps Go.Shelf
set_option linter.unusedSimpArgs false
set_option linter.unusedVariables false

theorem unf_eq (L : Nat → En) (n : Nat) : (dysOf L n).filter (fun d => !(lst L d true n).isSome) = unfF L n := by
  unfold unfF
  refine List.filter_congr fun d hd => ?_
  obtain ⟨f, hf⟩ := ((dys_is L n).2 d).1 hd
  unfold unfB
  cases f with
  | false =>
    have hf : (lst L d false n).isSome = true := hf
    rw [hf, Bool.true_and]
  | true =>
    have hf : (lst L d true n).isSome = true := hf
    rw [hf]; simp
/-- What is returned by a function that returns numbers, as it reads. -/
def LstPost (C : Int) (F : List Int) (w : World) (e : Ending) (w' : World) : Prop :=
  Bl w w' ∧ ∃ A c, e = .returned (.tuple #[.slice A (numL C F).length c, .int .i64 C]) ∧ (numL C F).length ≤ maxLen ∧ Sl w' A (numL C F).length (fun j => (numL C F).getD j 0)
theorem lst_nil {C : Int} {F : List Int} {w w' : World} (hC : C ≠ 0) (hb : Bl w w') : LstPost C F w (.returned (.tuple #[.slice none 0 0, .int .i64 C])) w' := by
  rw [LstPost, numL, if_neg hC]
  exact ⟨hb, none, 0, rfl, Nat.zero_le _, fun h => absurd h (by simp)⟩
theorem lst_isL {F : List Int} {w w' : World} {v : Value} {lo : Nat} (h : IsL w' lo v F) (hb : Bl w w') : LstPost 0 F w (.returned (.tuple #[v, .int .i64 0])) w' := by
  obtain ⟨A, c, rfl, p1, p2, p3, -⟩ := h
  rw [LstPost, numL, if_pos rfl]
  exact ⟨hb, A, c, rfl, Nat.le_trans p1 p2, p3⟩
theorem CorPost.any {L : Nat → En} {n : Nat} {w : World} {e : Ending} {w' : World} (h : CorPost L n w e w') : LstPost (vC L n) (corF L n) w e w' := by
  obtain ⟨hb, ⟨h0, rfl⟩ | ⟨h0, v, rfl, h2⟩⟩ := h
  · have hC : vC L n = 1 := by rw [vC, if_neg (by rw [h0]; decide)]
    rw [hC]; exact lst_nil (by decide) hb
  · have hC : vC L n = 0 := by rw [vC, if_pos h0]
    rw [hC]; exact lst_isL h2 hb
set_option maxRecDepth 100000 in
set_option maxHeartbeats 3200000 in
theorem unfound_any (A : Option Addr) (n c : Nat) (L : Nat → En) (w : World) (hA : El w A n L) (hn : n ≤ maxLen) :
    Calls Try.prog 25 #[.slice A n c] w (LstPost (vC L n) (unfF L n) w) := by
  have HR := Lib.hid (fun (X : World) (hb : Bl w X) => recordOf_any A n c L X (hA.below hb) hn)
  clear hA hn
  cases hv : vlB L n with
  | false =>
    have HV := Lib.hid hv
    have HC := Lib.hid (show vC L n = 1 by rw [vC, if_neg (by rw [hv]; decide)])
    clear hv
    go_enter Try.func25, Try.ntmps25
    go_wp2_with fail
    refine (HR.out _ (by go_grown)).mono ?_
    rintro e1 w1 ⟨hb, ⟨-, rfl⟩ | ⟨h0, _⟩⟩
    · have B1 := Lib.hid (show Bl w w1 from Bl.tr (by go_grown) hb)
      clear hb
      go_wp2_with fail
      go_ret2
      rw [HC.out]
      exact lst_nil (by decide) (B1.out.tr (by go_grown))
    · rw [HV.out] at h0; cases h0
  | true =>
    have HV := Lib.hid hv
    have HC := Lib.hid (show vC L n = 0 by rw [vC, if_pos hv])
    clear hv
    go_enter Try.func25, Try.ntmps25
    go_wp2_with fail
    refine (HR.out _ (by go_grown)).mono ?_
    rintro e1 w1 ⟨hb, ⟨h0, _⟩ | ⟨-, B, rfl, hB, hR⟩⟩
    · rw [HV.out] at h0; cases h0
    · have B1 := Lib.hid (show Bl w w1 from Bl.tr (by go_grown) hb)
      have RR := Lib.hid hR
      have z1 := B1.out.size
      have HVL := Lib.hid (vl_iff.1 HV.out)
      clear hb hR
      go_wp2_with fail
      have R2 := Lib.hid (show Rec (w1.alloc (.cells #[.map (some B)] 62)) B n (vL L n) from RR.out.below (by go_grown))
      have hp0 : (w1.alloc (.cells #[.map (some B)] 62)).cell? ⟨w1.heap.size, 0, none⟩ = some (.map (some B)) := by go_cell
      have B2 := Lib.hid (show Bl w (w1.alloc (.cells #[.map (some B)] 62)) from B1.out.tr (by go_grown))
      obtain ⟨w2, hw2⟩ : ∃ w2, w2 = w1.alloc (.cells #[.map (some B)] 62) := ⟨_, rfl⟩
      have z2 : w2.heap.size = w1.heap.size + 1 := by rw [hw2]; simp
      rw [← hw2] at R2 hp0 B2 ⊢
      clear hw2
      have HP0 := Lib.hid hp0
      refine (days_any B n (vL L n) _ R2.out HVL.out.1 (fun d f h => by
        obtain ⟨x, hx⟩ := Option.isSome_iff_exists.1 h
        have := lst_day HVL.out.2 hx
        unfold rng; omega)).mono ?_
      rintro e3 w3 ⟨⟨v, l, rfl, hl, -, hown⟩, hb⟩
      obtain hl := dys_eq hl
      have z3 := hb.size
      have B3 := Lib.hid (B2.out.tr hb)
      have R3 := Lib.hid (R2.out.below hb)
      have HP3 := Lib.hid (kcb hb HP0.out)
      have lp := ltb HP3.out
      have lB := R2.out.lt
      have hml : l.length ≤ 1000 := by rw [hl]; exact Nat.le_trans (dys_len L n) HVL.out.1
      have HLL := Lib.hid hl
      have HRG := Lib.hid (fun (j : Nat) (hj : j < l.length) => (show 0 ≤ l.getD j 0 ∧ l.getD j 0 ≤ 182985 from dys_rng HV.out (show l.getD j 0 ∈ dysOf L n by rw [← hl]; simp [List.getD, hj])))
      obtain ⟨A2, c2, rfl, -, -, -, -⟩ := isL_of_own rfl hown
      have HDEL := Lib.hid (deleteU_any A2 l.length c2 w1.heap.size w2.heap.size l (fun d => (lst L d true n).isSome) w3 rfl hml hown z3 (fun X j hX hj => by
        have hBX := (hX.block B lB)
        have hc := (hX.cell (p := ⟨w1.heap.size, 0, none⟩) (by show w1.heap.size < _; omega)).trans HP3.out
        exact unfC_any w1.heap.size B n L (l.getD j 0) X hc (R3.out.same hBX) (by have := HRG.out j hj; unfold rng; omega)))
      clear hb hown hl hp0
      go_wp2_with fail
      refine HDEL.out.mono ?_
      rintro e4 w4 ⟨⟨v, rfl, hisl⟩, hb⟩
      have B4 := Lib.hid (show Bl w w4 from Below.trans B3.out (hb.mono (by omega)))
      have HIS := Lib.hid hisl
      clear hb hisl
      go_wp2_with fail
      go_ret2
      rw [HC.out, ← unf_eq, ← HLL.out]
      exact lst_isL HIS.out B4.out
theorem IntPost.lst {C : Int} {F : List Int} {w : World} {e : Ending} {w' : World} (h : IntPost C F w e w') : LstPost C F w e w' := h.any
set_option maxRecDepth 100000 in
set_option maxHeartbeats 6400000 in
theorem daysL_walk (A : Option Addr) (n c : Nat) (L : Nat → En) (w : World) (hA : El w A n L) (hn : n ≤ c ∧ c ≤ maxLen) :
    Calls Try.prog 4 #[.slice A n c] w fun e w' => e = .returned (.bool true) ∧ Bl w w' := by
  have hn' := Nat.le_trans hn.1 hn.2
  have H1 := Lib.hid (fun (X : World) (hX : Bl w X) => (days9_any A n c L X (hA.below hX) hn').mono fun e w' h => h.lst)
  have H2 := Lib.hid (fun (X : World) (hX : Bl w X) => (rdays9_any A n c L X (hA.below hX) hn').mono fun e w' h => h.lst)
  have H3 := Lib.hid (fun (X : World) (hX : Bl w X) => unfound_any A n c L X (hA.below hX) hn')
  have H4 := Lib.hid (fun (X : World) (hX : Bl w X) => (runfound_any A n c L X (hA.below hX) hn').mono fun e w' h => h.lst)
  have H5 := Lib.hid (fun (X : World) (hX : Bl w X) => (corrections_any A n c L X (hA.below hX) hn').mono fun e w' h => h.any)
  have H6 := Lib.hid (fun (X : World) (hX : Bl w X) => (rcor_any A n c L X (hA.below hX) hn.1 hn.2).mono fun e w' h => h.any)
  have HN := Lib.hid hn'
  clear hA hn hn'
  obtain ⟨C, hC⟩ : ∃ C, C = vC L n := ⟨_, rfl⟩
  rw [← hC] at H1 H2 H3 H4 H5 H6
  clear hC
  obtain ⟨F1, hF1⟩ : ∃ F, F = numL C (pickF L n mallP) := ⟨_, rfl⟩
  obtain ⟨F2, hF2⟩ : ∃ F, F = numL C (unfF L n) := ⟨_, rfl⟩
  obtain ⟨F3, hF3⟩ : ∃ F, F = numL C (corF L n) := ⟨_, rfl⟩
  unfold LstPost at H1 H2 H3 H4 H5 H6
  rw [← hF1] at H1 H2
  rw [← hF2] at H3 H4
  rw [← hF3] at H5 H6
  clear hF1 hF2 hF3
  cases hs : decide ((n : Int) ≤ 30) with
  | false =>
    have HS := Lib.hid hs
    clear hs
    go_enter Try.func4, Try.ntmps4
    go_wp2_with fail
    refine (small_any A n c _ HN.out).mono ?_
    rintro e0 w0 ⟨rfl, rfl⟩
    rw [HS.out]
    go_wp2_with fail
    refine (awakeL_any _).mono ?_
    rintro ea wa ⟨rfl, ha⟩
    go_wp2_with fail
    go_ret
    exact ⟨rfl, ha⟩
  | true =>
    have HS := Lib.hid hs
    clear hs
    go_enter Try.func4, Try.ntmps4
    go_wp2_with fail
    refine (small_any A n c _ HN.out).mono ?_
    rintro e0 w0 ⟨rfl, rfl⟩
    rw [HS.out]
    go_wp2_with fail
    refine (H1.out _ (by first | exact Bl.rf _ | go_grown)).mono ?_
    rintro e1 w1 ⟨hb, A1, c1, rfl, hl1, hs1⟩
    have B1 := Lib.hid (hb)
    have S1 := Lib.hid (And.intro hl1 hs1)
    clear hb hl1 hs1
    go_wp2_with fail
    refine (H2.out _ B1.out).mono ?_
    rintro e2 w2 ⟨hb, A2, c2, rfl, hl2, hs2⟩
    have B2 := Lib.hid (B1.out.tr hb)
    have S1 := Lib.hid (And.intro S1.out.1 (S1.out.2.below hb))
    have S2 := Lib.hid (And.intro hl2 hs2)
    clear hb hl2 hs2
    go_wp2_with fail
    refine (H3.out _ B2.out).mono ?_
    rintro e3 w3 ⟨hb, A3, c3, rfl, hl3, hs3⟩
    have B3 := Lib.hid (B2.out.tr hb)
    have S1 := Lib.hid (And.intro S1.out.1 (S1.out.2.below hb))
    have S2 := Lib.hid (And.intro S2.out.1 (S2.out.2.below hb))
    have S3 := Lib.hid (And.intro hl3 hs3)
    clear hb hl3 hs3
    go_wp2_with fail
    refine (H4.out _ B3.out).mono ?_
    rintro e4 w4 ⟨hb, A4, c4, rfl, hl4, hs4⟩
    have B4 := Lib.hid (B3.out.tr hb)
    have S1 := Lib.hid (And.intro S1.out.1 (S1.out.2.below hb))
    have S2 := Lib.hid (And.intro S2.out.1 (S2.out.2.below hb))
    have S3 := Lib.hid (And.intro S3.out.1 (S3.out.2.below hb))
    have S4 := Lib.hid (And.intro hl4 hs4)
    clear hb hl4 hs4
    go_wp2_with fail
    refine (H5.out _ B4.out).mono ?_
    rintro e5 w5 ⟨hb, A5, c5, rfl, hl5, hs5⟩
    have B5 := Lib.hid (B4.out.tr hb)
    have S1 := Lib.hid (And.intro S1.out.1 (S1.out.2.below hb))
    have S2 := Lib.hid (And.intro S2.out.1 (S2.out.2.below hb))
    have S3 := Lib.hid (And.intro S3.out.1 (S3.out.2.below hb))
    have S4 := Lib.hid (And.intro S4.out.1 (S4.out.2.below hb))
    have S5 := Lib.hid (And.intro hl5 hs5)
    clear hb hl5 hs5
    go_wp2_with fail
    refine (H6.out _ B5.out).mono ?_
    rintro e6 w6 ⟨hb, A6, c6, rfl, hl6, hs6⟩
    have B6 := Lib.hid (B5.out.tr hb)
    have S1 := Lib.hid (And.intro S1.out.1 (S1.out.2.below hb))
    have S2 := Lib.hid (And.intro S2.out.1 (S2.out.2.below hb))
    have S3 := Lib.hid (And.intro S3.out.1 (S3.out.2.below hb))
    have S4 := Lib.hid (And.intro S4.out.1 (S4.out.2.below hb))
    have S5 := Lib.hid (And.intro S5.out.1 (S5.out.2.below hb))
    have S6 := Lib.hid (And.intro hl6 hs6)
    clear hb hl6 hs6
    go_wp2_with fail
    refine (sameIntsN_any _ _ _ _ _ _ _ _ _ S1.out.1 S2.out.1 S1.out.2 S2.out.2).mono ?_
    rintro e7 w7 ⟨rfl, N7, hw7⟩
    have hb : Bl w6 w7 := by rw [hw7]; exact bl_dn _ _
    clear hw7
    rw [sIB_sameN]
    have S3 := Lib.hid (And.intro S3.out.1 (S3.out.2.below hb))
    have S4 := Lib.hid (And.intro S4.out.1 (S4.out.2.below hb))
    have S5 := Lib.hid (And.intro S5.out.1 (S5.out.2.below hb))
    have S6 := Lib.hid (And.intro S6.out.1 (S6.out.2.below hb))
    have B7 := Lib.hid (B6.out.tr hb)
    clear hb
    go_wp2_with fail
    refine (sameIntsN_any _ _ _ _ _ _ _ _ _ S3.out.1 S4.out.1 S3.out.2 S4.out.2).mono ?_
    rintro e8 w8 ⟨rfl, N8, hw8⟩
    have hb : Bl w7 w8 := by rw [hw8]; exact bl_dn _ _
    clear hw8
    rw [sIB_sameN]
    have S5 := Lib.hid (And.intro S5.out.1 (S5.out.2.below hb))
    have S6 := Lib.hid (And.intro S6.out.1 (S6.out.2.below hb))
    have B8 := Lib.hid (B7.out.tr hb)
    clear hb
    go_wp2_with fail
    refine (sameIntsN_any _ _ _ _ _ _ _ _ _ S5.out.1 S6.out.1 S5.out.2 S6.out.2).mono ?_
    rintro e9 w9 ⟨rfl, N9, hw9⟩
    have hb : Bl w8 w9 := by rw [hw9]; exact bl_dn _ _
    clear hw9
    rw [sIB_sameN]
    have B9 := Lib.hid (B8.out.tr hb)
    clear hb
    go_wp2_with fail
    refine (awakeL_any _).mono ?_
    rintro ea wa ⟨rfl, ha⟩
    go_wp2_with fail
    go_ret
    exact ⟨rfl, B9.out.tr ha⟩
end Go.Proofs.Ytiaamhlcdnlahaa
