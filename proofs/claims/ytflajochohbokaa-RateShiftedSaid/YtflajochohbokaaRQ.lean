/-
  The walk of RateShifted.
-/
import Derived.Test.YtflajochohbokaaRP
namespace Go.Proofs.Ytflajochohbokaa
open Go.RowKit
set_option linter.unusedSimpArgs false
set_option linter.unusedVariables false

theorem mn_add (f : Nat → Int) (d : Int) (k : Nat) : mnF (fun j => f j + d) k = mnF f k + d := by
  induction k with
  | zero => rfl
  | succ k ih => rw [mnF, mnF, ih]; omega
theorem mx_add (f : Nat → Int) (d : Int) (k : Nat) : mxF (fun j => f j + d) k = mxF f k + d := by
  induction k with
  | zero => rfl
  | succ k ih => rw [mxF, mxF, ih]; omega
theorem sh_rt (E : Nat → Int) (p q : Int) (j : Nat) : rtF (shF E p q) 7 j = rtF E 7 j + 7 * q := by
  unfold rtF shF
  have e1 : q * ((7 * (j + 1) : Nat) : Int) = q * ((7 * j : Nat) : Int) + 7 * q := by
    rw [show ((7 * (j + 1) : Nat) : Int) = ((7 * j : Nat) : Int) + 7 by omega, Int.mul_add]; omega
  rw [e1]
  omega
theorem sh_tr (E : Nat → Int) (p q : Int) (m : Nat) : mnF (rtF (shF E p q) 7) m = mnF (rtF E 7) m + 7 * q ∧ mxF (rtF (shF E p q) 7) m = mxF (rtF E 7) m + 7 * q ∧ lpF (stF (rtF (shF E p q) 7)) (m - 1) = lpF (stF (rtF E 7)) (m - 1) := by
  refine ⟨?_, ?_, ?_⟩
  · rw [← mn_add]; exact mn_congr (sh_rt E p q 0) (fun j _ => sh_rt E p q j)
  · rw [← mx_add]; exact mx_congr (sh_rt E p q 0) (fun j _ => sh_rt E p q j)
  · refine lp_congr fun j _ => ?_
    unfold stF
    rw [sh_rt, sh_rt]
    omega

set_option maxRecDepth 100000 in
set_option maxHeartbeats 12800000 in
theorem shifted_walk (X : Bx) (p q : Int) (w : World) (hX : BxOk w X) :
    Calls Try.prog 5 #[encB X.s X.A X.n X.c, .int .i64 p, .int .i64 q] w fun e w' => e = .returned (.bool true) ∧ Bl w w' := by
  obtain ⟨s, A, n, c, E⟩ := X
  have HX := Lib.hid hX
  obtain ⟨hs, hn, hc, hA⟩ := hX
  dsimp only at hs hn hc hA
  have HA := Lib.hid hA
  have HS := Lib.hid hs
  have HC := Lib.hid hc
  have HNC := Lib.hid hn
  have HN := Lib.hid (show n ≤ maxLen by omega)
  clear hA hs
  unfold maxLen at hc
  have HTR := Lib.hid (And.intro (@trR_few s n) (@trR_ok s n))
  by_cases hf : ftF (fun _ => ⟨s, A, n, c, E⟩) 1 = true
  rotate_left
  · have HF := Lib.hid (show ftF (fun _ => ⟨s, A, n, c, E⟩) 1 = false by simpa using hf)
    clear hf
    go_enter Try.func5, Try.ntmps5
    go_wp2_with fail
    refine (fit_any _ 1 1 (fun _ => ⟨s, A, n, c, E⟩) _ (bxl_one (x := ⟨s, A, n, c, E⟩) (by go_cell) (by go_cell)) (fun j _ => HX.out.below (by go_grown)) (by decide)).mono ?_
    rintro q1 w1 ⟨rfl, hb⟩
    have x0 := kcb hb (b := w.heap.size) (o := 0) (v := .string s) (by first | assumption | (refine cellUp ?_; assumption) | go_cell)
    have x1 := kcb hb (b := w.heap.size) (o := 1) (v := .slice A n c) (by first | assumption | (refine cellUp ?_; assumption) | go_cell)
    have B1 : Bl w w1 := Below.trans (by go_grown) (hb.mono (by (try simp only [World.size_alloc, World.size_setCell, World.size_drew]); omega))
    have l1 := ltb x1
    have zz1 := B1.size
    clear hb
    rw [HF.out]
    go_wp2_with fail
    refine (awakeR_any _).mono ?_
    rintro e w2 ⟨rfl, hb⟩
    go_wp2_with fail
    go_ret
    exact ⟨rfl, Below.trans B1 (Below.trans (by go_grown) (hb.mono (by (try simp only [World.size_alloc, World.size_setCell, World.size_drew]); omega)))⟩
  · have HF := Lib.hid hf
    clear hf
    go_enter Try.func5, Try.ntmps5
    go_wp2_with fail
    refine (fit_any _ 1 1 (fun _ => ⟨s, A, n, c, E⟩) _ (bxl_one (x := ⟨s, A, n, c, E⟩) (by go_cell) (by go_cell)) (fun j _ => HX.out.below (by go_grown)) (by decide)).mono ?_
    rintro q1 w1 ⟨rfl, hb⟩
    have x0 := kcb hb (b := w.heap.size) (o := 0) (v := .string s) (by first | assumption | (refine cellUp ?_; assumption) | go_cell)
    have x1 := kcb hb (b := w.heap.size) (o := 1) (v := .slice A n c) (by first | assumption | (refine cellUp ?_; assumption) | go_cell)
    have B1 : Bl w w1 := Below.trans (by go_grown) (hb.mono (by (try simp only [World.size_alloc, World.size_setCell, World.size_drew]); omega))
    have l1 := ltb x1
    have zz1 := B1.size
    clear hb
    rw [HF.out]
    go_wp2_with fail
    refine (shifted_any s A n c E p q _ HS.out (HA.out.below B1) HNC.out HC.out).mono ?_
    rintro q2 w2 ⟨hb, hS⟩
    have x0 := kcb hb (b := w.heap.size) (o := 0) (v := .string s) (by first | assumption | (refine cellUp ?_; assumption) | go_cell)
    have x1 := kcb hb (b := w.heap.size) (o := 1) (v := .slice A n c) (by first | assumption | (refine cellUp ?_; assumption) | go_cell)
    have B2 := B1.tr hb
    have l2 := ltb x0
    have zz2 := B2.size
    clear hb
    rcases hS with ⟨hv, he⟩ | ⟨hv, ho, he⟩ | ⟨hv, ho, hw, he⟩ | ⟨hv, ho, hw, A2, c2, he, k2, k2', hA2⟩
    · skip
      subst he
      unfold bxZ
      go_wp2_with fail
      refine (rshifted_any s A n c E p q _ HS.out (HA.out.below (Bl.tr B2 (by go_grown))) HNC.out HC.out).mono ?_
      rintro q3 w3 ⟨hb, hS⟩
      have he : q3 = .returned (.tuple #[bxZ, .int .i64 1]) := by
        rcases hS with ⟨hv', he⟩ | ⟨hv', ho', he⟩ | ⟨hv', ho', hw', he⟩ | ⟨hv', ho', hw', _, _, he, _⟩
        all_goals first | exact he | (exfalso; simp_all)
      subst he
      unfold bxZ
      clear hS
      have x0 := kcb hb (b := w.heap.size) (o := 0) (v := .string s) (by first | assumption | (refine cellUp ?_; assumption) | go_cell)
      have x1 := kcb hb (b := w.heap.size) (o := 1) (v := .slice A n c) (by first | assumption | (refine cellUp ?_; assumption) | go_cell)
      have y0 := kcb hb (b := w2.heap.size) (o := 0) (v := .string ⟨#[]⟩) (by first | assumption | (refine cellUp ?_; assumption) | go_cell)
      have y1 := kcb hb (b := w2.heap.size) (o := 1) (v := .slice none 0 0) (by first | assumption | (refine cellUp ?_; assumption) | go_cell)
      have B3 : Bl w w3 := Below.trans B2 (Below.trans (by go_grown) (hb.mono (by (try simp only [World.size_alloc, World.size_setCell, World.size_drew]); omega)))
      have l3 := ltb x0
      have l3' := ltb y0
      have zz3 := B3.size
      clear hb
      go_wp2_with fail
      refine (sameBox_any ⟨#[]⟩ none 0 0 none 0 (fun _ => 0) _ (by decide) (fun h => absurd h (by omega)) (fun h => absurd h (by omega))).mono ?_
      rintro q4 w4 ⟨rfl, hb⟩
      have x0 := kcb hb (b := w.heap.size) (o := 0) (v := .string s) (by first | assumption | (refine cellUp ?_; assumption) | go_cell)
      have x1 := kcb hb (b := w.heap.size) (o := 1) (v := .slice A n c) (by first | assumption | (refine cellUp ?_; assumption) | go_cell)
      have y0 := kcb hb (b := w2.heap.size) (o := 0) (v := .string ⟨#[]⟩) (by first | assumption | (refine cellUp ?_; assumption) | go_cell)
      have y1 := kcb hb (b := w2.heap.size) (o := 1) (v := .slice none 0 0) (by first | assumption | (refine cellUp ?_; assumption) | go_cell)
      have z0 := kcb hb (b := w3.heap.size) (o := 0) (v := .string ⟨#[]⟩) (by first | assumption | (refine cellUp ?_; assumption) | go_cell)
      have z1 := kcb hb (b := w3.heap.size) (o := 1) (v := .slice none 0 0) (by first | assumption | (refine cellUp ?_; assumption) | go_cell)
      have B4 : Bl w w4 := Below.trans (by go_grown) (hb.mono (by (try simp only [World.size_alloc, World.size_setCell, World.size_drew]); omega))
      have l4 := ltb z1
      have l4_1 := ltb y1
      have l4_2 := ltb x1
      have zz4 := B4.size
      clear hb
      go_wp2_with fail
      refine (awakeR_any _).mono ?_
      rintro e w5 ⟨rfl, hb⟩
      go_wp2_with fail
      go_ret
      exact ⟨rfl, Below.trans B4 (Below.trans (by go_grown) (hb.mono (by (try simp only [World.size_alloc, World.size_setCell, World.size_drew]); omega)))⟩
    · skip
      subst he
      unfold bxZ
      go_wp2_with fail
      refine (rshifted_any s A n c E p q _ HS.out (HA.out.below (Bl.tr B2 (by go_grown))) HNC.out HC.out).mono ?_
      rintro q3 w3 ⟨hb, hS⟩
      have he : q3 = .returned (.tuple #[bxZ, .int .i64 7]) := by
        rcases hS with ⟨hv', he⟩ | ⟨hv', ho', he⟩ | ⟨hv', ho', hw', he⟩ | ⟨hv', ho', hw', _, _, he, _⟩
        all_goals first | exact he | (exfalso; simp_all)
      subst he
      unfold bxZ
      clear hS
      have x0 := kcb hb (b := w.heap.size) (o := 0) (v := .string s) (by first | assumption | (refine cellUp ?_; assumption) | go_cell)
      have x1 := kcb hb (b := w.heap.size) (o := 1) (v := .slice A n c) (by first | assumption | (refine cellUp ?_; assumption) | go_cell)
      have y0 := kcb hb (b := w2.heap.size) (o := 0) (v := .string ⟨#[]⟩) (by first | assumption | (refine cellUp ?_; assumption) | go_cell)
      have y1 := kcb hb (b := w2.heap.size) (o := 1) (v := .slice none 0 0) (by first | assumption | (refine cellUp ?_; assumption) | go_cell)
      have B3 : Bl w w3 := Below.trans B2 (Below.trans (by go_grown) (hb.mono (by (try simp only [World.size_alloc, World.size_setCell, World.size_drew]); omega)))
      have l3 := ltb x0
      have l3' := ltb y0
      have zz3 := B3.size
      clear hb
      go_wp2_with fail
      refine (sameBox_any ⟨#[]⟩ none 0 0 none 0 (fun _ => 0) _ (by decide) (fun h => absurd h (by omega)) (fun h => absurd h (by omega))).mono ?_
      rintro q4 w4 ⟨rfl, hb⟩
      have x0 := kcb hb (b := w.heap.size) (o := 0) (v := .string s) (by first | assumption | (refine cellUp ?_; assumption) | go_cell)
      have x1 := kcb hb (b := w.heap.size) (o := 1) (v := .slice A n c) (by first | assumption | (refine cellUp ?_; assumption) | go_cell)
      have y0 := kcb hb (b := w2.heap.size) (o := 0) (v := .string ⟨#[]⟩) (by first | assumption | (refine cellUp ?_; assumption) | go_cell)
      have y1 := kcb hb (b := w2.heap.size) (o := 1) (v := .slice none 0 0) (by first | assumption | (refine cellUp ?_; assumption) | go_cell)
      have z0 := kcb hb (b := w3.heap.size) (o := 0) (v := .string ⟨#[]⟩) (by first | assumption | (refine cellUp ?_; assumption) | go_cell)
      have z1 := kcb hb (b := w3.heap.size) (o := 1) (v := .slice none 0 0) (by first | assumption | (refine cellUp ?_; assumption) | go_cell)
      have B4 : Bl w w4 := Below.trans (by go_grown) (hb.mono (by (try simp only [World.size_alloc, World.size_setCell, World.size_drew]); omega))
      have l4 := ltb z1
      have l4_1 := ltb y1
      have l4_2 := ltb x1
      have zz4 := B4.size
      clear hb
      go_wp2_with fail
      refine (awakeR_any _).mono ?_
      rintro e w5 ⟨rfl, hb⟩
      go_wp2_with fail
      go_ret
      exact ⟨rfl, Below.trans B4 (Below.trans (by go_grown) (hb.mono (by (try simp only [World.size_alloc, World.size_setCell, World.size_drew]); omega)))⟩
    · skip
      subst he
      unfold bxZ
      go_wp2_with fail
      refine (rshifted_any s A n c E p q _ HS.out (HA.out.below (Bl.tr B2 (by go_grown))) HNC.out HC.out).mono ?_
      rintro q3 w3 ⟨hb, hS⟩
      have he : q3 = .returned (.tuple #[bxZ, .int .i64 4]) := by
        rcases hS with ⟨hv', he⟩ | ⟨hv', ho', he⟩ | ⟨hv', ho', hw', he⟩ | ⟨hv', ho', hw', _, _, he, _⟩
        all_goals first | exact he | (exfalso; simp_all)
      subst he
      unfold bxZ
      clear hS
      have x0 := kcb hb (b := w.heap.size) (o := 0) (v := .string s) (by first | assumption | (refine cellUp ?_; assumption) | go_cell)
      have x1 := kcb hb (b := w.heap.size) (o := 1) (v := .slice A n c) (by first | assumption | (refine cellUp ?_; assumption) | go_cell)
      have y0 := kcb hb (b := w2.heap.size) (o := 0) (v := .string ⟨#[]⟩) (by first | assumption | (refine cellUp ?_; assumption) | go_cell)
      have y1 := kcb hb (b := w2.heap.size) (o := 1) (v := .slice none 0 0) (by first | assumption | (refine cellUp ?_; assumption) | go_cell)
      have B3 : Bl w w3 := Below.trans B2 (Below.trans (by go_grown) (hb.mono (by (try simp only [World.size_alloc, World.size_setCell, World.size_drew]); omega)))
      have l3 := ltb x0
      have l3' := ltb y0
      have zz3 := B3.size
      clear hb
      go_wp2_with fail
      refine (sameBox_any ⟨#[]⟩ none 0 0 none 0 (fun _ => 0) _ (by decide) (fun h => absurd h (by omega)) (fun h => absurd h (by omega))).mono ?_
      rintro q4 w4 ⟨rfl, hb⟩
      have x0 := kcb hb (b := w.heap.size) (o := 0) (v := .string s) (by first | assumption | (refine cellUp ?_; assumption) | go_cell)
      have x1 := kcb hb (b := w.heap.size) (o := 1) (v := .slice A n c) (by first | assumption | (refine cellUp ?_; assumption) | go_cell)
      have y0 := kcb hb (b := w2.heap.size) (o := 0) (v := .string ⟨#[]⟩) (by first | assumption | (refine cellUp ?_; assumption) | go_cell)
      have y1 := kcb hb (b := w2.heap.size) (o := 1) (v := .slice none 0 0) (by first | assumption | (refine cellUp ?_; assumption) | go_cell)
      have z0 := kcb hb (b := w3.heap.size) (o := 0) (v := .string ⟨#[]⟩) (by first | assumption | (refine cellUp ?_; assumption) | go_cell)
      have z1 := kcb hb (b := w3.heap.size) (o := 1) (v := .slice none 0 0) (by first | assumption | (refine cellUp ?_; assumption) | go_cell)
      have B4 : Bl w w4 := Below.trans (by go_grown) (hb.mono (by (try simp only [World.size_alloc, World.size_setCell, World.size_drew]); omega))
      have l4 := ltb z1
      have l4_1 := ltb y1
      have l4_2 := ltb x1
      have zz4 := B4.size
      clear hb
      go_wp2_with fail
      refine (awakeR_any _).mono ?_
      rintro e w5 ⟨rfl, hb⟩
      go_wp2_with fail
      go_ret
      exact ⟨rfl, Below.trans B4 (Below.trans (by go_grown) (hb.mono (by (try simp only [World.size_alloc, World.size_setCell, World.size_drew]); omega)))⟩
    · skip
      subst he
      have HA2 := Lib.hid hA2
      have K2 := Lib.hid k2'
      have HV := Lib.hid hv
      have HW := Lib.hid hw
      obtain ⟨_, n2, n4, hE⟩ := vbB_iff.1 hv
      have HE := Lib.hid hE
      have HOK := Lib.hid ho
      obtain ⟨⟨p1, p2⟩, q1, q2⟩ := shOk_iff.1 ho
      clear hA2 k2' hE
      have HT1 := Lib.hid (fun h2 => HTR.out.2 (E := E) HV.out h2)
      have HT2 := Lib.hid (fun h2 => HTR.out.2 (E := shF E p q) HW.out h2)
      go_wp2_with fail
      refine (rshifted_any s A n c E p q _ HS.out (HA.out.below (Bl.tr B2 (by go_grown))) HNC.out HC.out).mono ?_
      rintro q3 w3 ⟨hb, hS⟩
      rcases hS with ⟨hv', he⟩ | ⟨hv', ho', he⟩ | ⟨hv', ho', hw', he⟩ | ⟨hv', ho', hw', A3, c3, he, k3, k3', hA3⟩
      · exfalso; simp_all
      · exfalso; simp_all
      · exfalso; simp_all
      subst he
      clear hv hw ho hv' ho' hw'
      have HA3 := Lib.hid hA3
      clear hA3 k3 k3'
      have HA2 := Lib.hid (HA2.out.below (Below.trans (show Bl w2 (w2.alloc (.cells #[.string s, .slice A2 n c2] 24)) by go_grown) (hb.mono (by simp))))
      have x0 := kcb hb (b := w.heap.size) (o := 0) (v := .string s) (by first | assumption | (refine cellUp ?_; assumption) | go_cell)
      have x1 := kcb hb (b := w.heap.size) (o := 1) (v := .slice A n c) (by first | assumption | (refine cellUp ?_; assumption) | go_cell)
      have y0 := kcb hb (b := w2.heap.size) (o := 0) (v := .string s) (by first | assumption | (refine cellUp ?_; assumption) | go_cell)
      have y1 := kcb hb (b := w2.heap.size) (o := 1) (v := .slice A2 n c2) (by first | assumption | (refine cellUp ?_; assumption) | go_cell)
      have B3 : Bl w w3 := Below.trans B2 (Below.trans (by go_grown) (hb.mono (by (try simp only [World.size_alloc, World.size_setCell, World.size_drew]); omega)))
      have l3 := ltb x0
      have l3' := ltb y0
      have zz3 := B3.size
      clear hb
      go_wp2_with fail
      refine (sameBox_any s A2 n c2 A3 c3 (shF E p q) _ HN.out (HA2.out.below (by go_grown)) (HA3.out.below (by go_grown))).mono ?_
      rintro q4 w4 ⟨rfl, hb⟩
      have x0 := kcb hb (b := w.heap.size) (o := 0) (v := .string s) (by first | assumption | (refine cellUp ?_; assumption) | go_cell)
      have x1 := kcb hb (b := w.heap.size) (o := 1) (v := .slice A n c) (by first | assumption | (refine cellUp ?_; assumption) | go_cell)
      have y0 := kcb hb (b := w2.heap.size) (o := 0) (v := .string s) (by first | assumption | (refine cellUp ?_; assumption) | go_cell)
      have y1 := kcb hb (b := w2.heap.size) (o := 1) (v := .slice A2 n c2) (by first | assumption | (refine cellUp ?_; assumption) | go_cell)
      have z0 := kcb hb (b := w3.heap.size) (o := 0) (v := .string s) (by first | assumption | (refine cellUp ?_; assumption) | go_cell)
      have z1 := kcb hb (b := w3.heap.size) (o := 1) (v := .slice A3 n c3) (by first | assumption | (refine cellUp ?_; assumption) | go_cell)
      have B4 : Bl w w4 := Below.trans (by go_grown) (hb.mono (by (try simp only [World.size_alloc, World.size_setCell, World.size_drew]); omega))
      have l4 := ltb z1
      have l4_1 := ltb y1
      have l4_2 := ltb x1
      have zz4 := B4.size
      have HA2 := Lib.hid (HA2.out.below (Below.trans (show Bl w3 (w3.alloc (.cells #[.string s, .slice A3 n c3] 24)) by go_grown) (hb.mono (by simp))))
      clear hb
      go_wp2_with fail
      by_cases h2 : 2 ≤ (n - 1) / 7
      · have HT1 := Lib.hid (HT1.out h2)
        have HT2 := Lib.hid (HT2.out h2)
        obtain ⟨m, hm⟩ : ∃ m, m = (n - 1) / 7 := ⟨_, rfl⟩
        have mb := mn_bd (f := rtF E 7) (k := m) (B := 172800000) (by omega) (fun j hj => rt_bd (.inr rfl) HE.out (by omega))
        have mle := mn_le_mx (rtF E 7) m
        obtain ⟨g1, g2, g3⟩ := sh_tr E p q m
        rw [← hm] at HT1 HT2
        obtain ⟨a, ha⟩ : ∃ a, mnF (rtF E 7) m = a := ⟨_, rfl⟩
        obtain ⟨b, hb'⟩ : ∃ b, mxF (rtF E 7) m = b := ⟨_, rfl⟩
        obtain ⟨l, hl⟩ : ∃ l, lpF (stF (rtF E 7)) (m - 1) = l := ⟨_, rfl⟩
        rw [ha, hb'] at mb
        rw [ha, hb'] at mle
        obtain ⟨mb1, mb2⟩ := mb
        rw [ha] at g1
        rw [hb'] at g2
        rw [hl] at g3
        have HTE := Lib.hid (trV_eq (s := s) ha hb' hl)
        have HTF := Lib.hid (trV_eq (s := s) g1 g2 g3)
        rw [show b + 7 * q - (a + 7 * q) + 2 * l = b - a + 2 * l by omega] at HTF
        have HT1 := Lib.hid (HT1.out.trans (by rw [HTE.out]))
        have HT2 := Lib.hid (HT2.out.trans (by rw [HTF.out]))
        clear ha hb' hl g1 g2 g3 hm
        obtain ⟨z, hz⟩ : ∃ z, z = b - a + 2 * l := ⟨_, rfl⟩
        rw [← hz] at HT1 HT2
        clear hz
        refine (trial_any s A n c E _ HS.out (HA.out.below (by exact B4)) HNC.out HC.out).mono ?_
        rintro q5 w5 ⟨rfl, hb⟩
        have x0 := kcb hb (b := w.heap.size) (o := 0) (v := .string s) (by first | assumption | (refine cellUp ?_; assumption) | go_cell)
        have x1 := kcb hb (b := w.heap.size) (o := 1) (v := .slice A n c) (by first | assumption | (refine cellUp ?_; assumption) | go_cell)
        have y0 := kcb hb (b := w2.heap.size) (o := 0) (v := .string s) (by first | assumption | (refine cellUp ?_; assumption) | go_cell)
        have y1 := kcb hb (b := w2.heap.size) (o := 1) (v := .slice A2 n c2) (by first | assumption | (refine cellUp ?_; assumption) | go_cell)
        have z0 := kcb hb (b := w3.heap.size) (o := 0) (v := .string s) (by first | assumption | (refine cellUp ?_; assumption) | go_cell)
        have z1 := kcb hb (b := w3.heap.size) (o := 1) (v := .slice A3 n c3) (by first | assumption | (refine cellUp ?_; assumption) | go_cell)
        have B5 : Bl w w5 := Below.trans (by go_grown) (hb.mono (by (try simp only [World.size_alloc, World.size_setCell, World.size_drew]); omega))
        have l5 := ltb z1
        have l5_1 := ltb y1
        have l5_2 := ltb x1
        have zz5 := B5.size
        have HA2 := Lib.hid (HA2.out.below hb)
        clear hb
        rw [HT1.out]
        go_wp2_with fail
        refine (trial_any s A2 n c2 (shF E p q) _ HS.out (HA2.out.below (by go_grown)) k2 K2.out).mono ?_
        rintro q6 w6 ⟨rfl, hb⟩
        have x0 := kcb hb (b := w.heap.size) (o := 0) (v := .string s) (by first | assumption | (refine cellUp ?_; assumption) | go_cell)
        have x1 := kcb hb (b := w.heap.size) (o := 1) (v := .slice A n c) (by first | assumption | (refine cellUp ?_; assumption) | go_cell)
        have y0 := kcb hb (b := w2.heap.size) (o := 0) (v := .string s) (by first | assumption | (refine cellUp ?_; assumption) | go_cell)
        have y1 := kcb hb (b := w2.heap.size) (o := 1) (v := .slice A2 n c2) (by first | assumption | (refine cellUp ?_; assumption) | go_cell)
        have z0 := kcb hb (b := w3.heap.size) (o := 0) (v := .string s) (by first | assumption | (refine cellUp ?_; assumption) | go_cell)
        have z1 := kcb hb (b := w3.heap.size) (o := 1) (v := .slice A3 n c3) (by first | assumption | (refine cellUp ?_; assumption) | go_cell)
        have t0 := kcb hb (b := w5.heap.size) (o := 0) (v := .string s) (by first | assumption | (refine cellUp ?_; assumption) | go_cell)
        have t1 := kcb hb (b := w5.heap.size) (o := 1) (v := .int .i64 a) (by first | assumption | (refine cellUp ?_; assumption) | go_cell)
        have t2 := kcb hb (b := w5.heap.size) (o := 2) (v := .int .i64 b) (by first | assumption | (refine cellUp ?_; assumption) | go_cell)
        have t3 := kcb hb (b := w5.heap.size) (o := 3) (v := .int .i64 l) (by first | assumption | (refine cellUp ?_; assumption) | go_cell)
        have t4 := kcb hb (b := w5.heap.size) (o := 4) (v := .int .i64 z) (by first | assumption | (refine cellUp ?_; assumption) | go_cell)
        have B6 : Bl w w6 := Below.trans (by go_grown) (hb.mono (by (try simp only [World.size_alloc, World.size_setCell, World.size_drew]); omega))
        have l6 := ltb t4
        have l6_1 := ltb z1
        have l6_2 := ltb y1
        have l6_3 := ltb x1
        have zz6 := B6.size
        clear hb
        rw [HT2.out]
        go_wp2_with fail
        refine (awakeR_any _).mono ?_
        rintro e w7 ⟨rfl, hb⟩
        go_wp2_with fail
        go_ret
        exact ⟨rfl, Below.trans B6 (Below.trans (by go_grown) (hb.mono (by (try simp only [World.size_alloc, World.size_setCell, World.size_drew]); omega)))⟩
      · have HT1 := Lib.hid (HTR.out.1 (E := E) HV.out (by omega))
        have HT2 := Lib.hid (HTR.out.1 (E := shF E p q) HW.out (by omega))
        unfold trZ at HT1 HT2
        refine (trial_any s A n c E _ HS.out (HA.out.below (by exact B4)) HNC.out HC.out).mono ?_
        rintro q5 w5 ⟨rfl, hb⟩
        have x0 := kcb hb (b := w.heap.size) (o := 0) (v := .string s) (by first | assumption | (refine cellUp ?_; assumption) | go_cell)
        have x1 := kcb hb (b := w.heap.size) (o := 1) (v := .slice A n c) (by first | assumption | (refine cellUp ?_; assumption) | go_cell)
        have y0 := kcb hb (b := w2.heap.size) (o := 0) (v := .string s) (by first | assumption | (refine cellUp ?_; assumption) | go_cell)
        have y1 := kcb hb (b := w2.heap.size) (o := 1) (v := .slice A2 n c2) (by first | assumption | (refine cellUp ?_; assumption) | go_cell)
        have z0 := kcb hb (b := w3.heap.size) (o := 0) (v := .string s) (by first | assumption | (refine cellUp ?_; assumption) | go_cell)
        have z1 := kcb hb (b := w3.heap.size) (o := 1) (v := .slice A3 n c3) (by first | assumption | (refine cellUp ?_; assumption) | go_cell)
        have B5 : Bl w w5 := Below.trans (by go_grown) (hb.mono (by (try simp only [World.size_alloc, World.size_setCell, World.size_drew]); omega))
        have l5 := ltb z1
        have l5_1 := ltb y1
        have l5_2 := ltb x1
        have zz5 := B5.size
        have HA2 := Lib.hid (HA2.out.below hb)
        clear hb
        rw [HT1.out]
        go_wp2_with fail
        refine (trial_any s A2 n c2 (shF E p q) _ HS.out (HA2.out.below (by go_grown)) k2 K2.out).mono ?_
        rintro q6 w6 ⟨rfl, hb⟩
        have x0 := kcb hb (b := w.heap.size) (o := 0) (v := .string s) (by first | assumption | (refine cellUp ?_; assumption) | go_cell)
        have x1 := kcb hb (b := w.heap.size) (o := 1) (v := .slice A n c) (by first | assumption | (refine cellUp ?_; assumption) | go_cell)
        have y0 := kcb hb (b := w2.heap.size) (o := 0) (v := .string s) (by first | assumption | (refine cellUp ?_; assumption) | go_cell)
        have y1 := kcb hb (b := w2.heap.size) (o := 1) (v := .slice A2 n c2) (by first | assumption | (refine cellUp ?_; assumption) | go_cell)
        have z0 := kcb hb (b := w3.heap.size) (o := 0) (v := .string s) (by first | assumption | (refine cellUp ?_; assumption) | go_cell)
        have z1 := kcb hb (b := w3.heap.size) (o := 1) (v := .slice A3 n c3) (by first | assumption | (refine cellUp ?_; assumption) | go_cell)
        have t0 := kcb hb (b := w5.heap.size) (o := 0) (v := .string ⟨#[]⟩) (by first | assumption | (refine cellUp ?_; assumption) | go_cell)
        have t1 := kcb hb (b := w5.heap.size) (o := 1) (v := .int .i64 0) (by first | assumption | (refine cellUp ?_; assumption) | go_cell)
        have t2 := kcb hb (b := w5.heap.size) (o := 2) (v := .int .i64 0) (by first | assumption | (refine cellUp ?_; assumption) | go_cell)
        have t3 := kcb hb (b := w5.heap.size) (o := 3) (v := .int .i64 0) (by first | assumption | (refine cellUp ?_; assumption) | go_cell)
        have t4 := kcb hb (b := w5.heap.size) (o := 4) (v := .int .i64 0) (by first | assumption | (refine cellUp ?_; assumption) | go_cell)
        have B6 : Bl w w6 := Below.trans (by go_grown) (hb.mono (by (try simp only [World.size_alloc, World.size_setCell, World.size_drew]); omega))
        have l6 := ltb t4
        have l6_1 := ltb z1
        have l6_2 := ltb y1
        have l6_3 := ltb x1
        have zz6 := B6.size
        clear hb
        rw [HT2.out]
        go_wp2_with fail
        refine (awakeR_any _).mono ?_
        rintro e w7 ⟨rfl, hb⟩
        go_wp2_with fail
        go_ret
        exact ⟨rfl, Below.trans B6 (Below.trans (by go_grown) (hb.mono (by (try simp only [World.size_alloc, World.size_setCell, World.size_drew]); omega)))⟩
end Go.Proofs.Ytflajochohbokaa
