/-
  Sums of digits, Right and Checked of both.
-/
import Derived.Test.YtfbkecdcdffbbaaFG
namespace Go.Proofs.Ytfbkecdcdffbbaa
open Go.RowKit
set_option linter.unusedSimpArgs false
set_option linter.unusedVariables false

def sumF (D : Nat → Int) : Nat → Int
  | 0 => 0
  | k + 1 => sumF D k + D k
theorem sumF_bd {D : Nat → Int} {n k : Nat} (h : dgTo D n = true) (hk : k ≤ n) : 0 ≤ sumF D k ∧ sumF D k ≤ 9 * k := by
  induction k with
  | zero => simp [sumF]
  | succ k ih =>
    have := ih (by omega)
    have := dgTo_at h (k := k) (by omega)
    rw [sumF]; omega
theorem sumF_congr {D E : Nat → Int} {k : Nat} (h : ∀ j, j < k → D j = E j) : sumF D k = sumF E k := by
  induction k with
  | zero => rfl
  | succ k ih => rw [sumF, sumF, ih (fun j hj => h j (by omega)), h k (by omega)]
/-- Digits as a list. -/
def lst (D : Nat → Int) (n : Nat) : List Nat := (List.range n).map fun j => (D j).toNat
theorem lst_len (D : Nat → Int) (n : Nat) : (lst D n).length = n := by simp [lst]
theorem lst_at {D : Nat → Int} {n j : Nat} (hj : j < n) (h0 : 0 ≤ D j) : gI (lst D n) j = D j := by
  unfold gI lst
  rw [List.getD_eq_getElem?_getD, List.getElem?_map, List.getElem?_range hj]
  simp; omega
theorem gI_left {l m : List Nat} {j : Nat} (h : j < l.length) : gI (l ++ m) j = gI l j := by
  unfold gI; rw [List.getD_eq_getElem?_getD, List.getD_eq_getElem?_getD, List.getElem?_append_left h]
theorem gI_last (l : List Nat) (x : Nat) : gI (l ++ [x]) l.length = (x : Int) := by
  unfold gI; rw [List.getD_eq_getElem?_getD, List.getElem?_append_right (Nat.le_refl _)]; simp
theorem Sl.congr7 {w : World} {A : Option Addr} {n : Nat} {f g : Nat → Int} (h : Sl w A n f) (e : ∀ j, j < n → f j = g j) : Sl w A n g := fun hn => by
  obtain ⟨b, off, h1, h2, h3⟩ := h hn
  exact ⟨b, off, h1, h2, fun j hj => by rw [h3 j hj, e j hj]⟩
theorem Sl.lst {w : World} {A : Option Addr} {n : Nat} {D : Nat → Int} (h : Sl w A n D) (hd : dgTo D n = true) : Sl w A n (gI (lst D n)) :=
  h.congr7 fun j hj => (lst_at hj (dgTo_at hd hj).1).symm
set_option maxHeartbeats 1600000 in
theorem sum7_any (A : Option Addr) (n c : Nat) (D : Nat → Int) (w : World) (hn : n ≤ 4) (hA : Sl w A n D) (hd : dgTo D n = true) :
    Calls Try.prog 51 #[.slice A n c] w fun e w' => e = .returned (.int .i64 (sumF D n)) ∧ w = w' := by
  have HA := Lib.hid hA
  have HD := Lib.hid hd
  clear hA hd
  go_enter Try.func51, Try.ntmps51
  go_wp2_with fail
  go_loop [3, 8] (fun s i => ∃ k : Nat, k ≤ n ∧ i = .int .i64 k ∧ s = .int .i64 (sumF D k)) (fun _ i => n - (intOf i).toNat)
  case atStart => exact ⟨0, Nat.zero_le _, rfl, rfl⟩
  case round =>
    obtain ⟨k, hk, rfl, rfl⟩ := hrel
    by_cases hlt : k < n
    · obtain ⟨b, off, rfl, hb, hc⟩ := HA.out (by omega)
      have c1 := hc k hlt
      have HC := Lib.hid hb
      clear hc hb
      obtain ⟨b1, b2⟩ := sumF_bd HD.out (k := k) (by omega)
      obtain ⟨d1, d2⟩ := dgTo_at HD.out hlt
      have HS := Lib.hid (show sumF D (k + 1) = sumF D k + D k from rfl)
      obtain ⟨s, hs⟩ : ∃ s, s = sumF D k := ⟨_, rfl⟩
      obtain ⟨d, hd⟩ : ∃ d, d = D k := ⟨_, rfl⟩
      rw [← hs, ← hd] at HS
      rw [← hs] at b1 b2
      rw [← hd] at d1 d2 c1
      rw [← hs]
      clear hs hd
      go_wp2_with fail
      go_round
      case rel => exact ⟨k + 1, by omega, by go_num, by rw [HS.out]⟩
      case measure => simp [intOf]; omega
    · obtain rfl : k = n := by omega
      go_wp2_with fail
      go_ret
      exact ⟨rfl, rfl⟩
set_option maxHeartbeats 1600000 in
theorem rsum7_any (A : Option Addr) (n c : Nat) (D : Nat → Int) (w : World) (hn : n ≤ 4) (hA : Sl w A n D) (hd : dgTo D n = true) :
    Calls Try.prog 53 #[.slice A n c] w fun e w' => e = .returned (.int .i64 (sumF D n)) ∧ w = w' := by
  have HA := Lib.hid hA
  have HD := Lib.hid hd
  clear hA hd
  go_enter Try.func53, Try.ntmps53
  go_wp2_with fail
  go_loop [3, 8] (fun s i => ∃ k : Nat, k ≤ n ∧ i = .int .i64 k ∧ s = .int .i64 (sumF D k)) (fun _ i => n - (intOf i).toNat)
  case atStart => exact ⟨0, Nat.zero_le _, rfl, rfl⟩
  case round =>
    obtain ⟨k, hk, rfl, rfl⟩ := hrel
    by_cases hlt : k < n
    · obtain ⟨b, off, rfl, hb, hc⟩ := HA.out (by omega)
      have c1 := hc k hlt
      have HC := Lib.hid hb
      clear hc hb
      obtain ⟨b1, b2⟩ := sumF_bd HD.out (k := k) (by omega)
      obtain ⟨d1, d2⟩ := dgTo_at HD.out hlt
      have HS := Lib.hid (show sumF D (k + 1) = sumF D k + D k from rfl)
      obtain ⟨s, hs⟩ : ∃ s, s = sumF D k := ⟨_, rfl⟩
      obtain ⟨d, hd⟩ : ∃ d, d = D k := ⟨_, rfl⟩
      rw [← hs, ← hd] at HS
      rw [← hs] at b1 b2
      rw [← hd] at d1 d2 c1
      rw [← hs]
      clear hs hd
      go_wp2_with fail
      go_round
      case rel => exact ⟨k + 1, by omega, by go_num, by rw [HS.out]⟩
      case measure => simp [intOf]; omega
    · obtain rfl : k = n := by omega
      go_wp2_with fail
      go_ret
      exact ⟨rfl, rfl⟩
/-- What Right returns. -/
def rgV (n : Nat) (D : Nat → Int) : Value := if vdB n D = true then .tuple #[.bool (sumF D n % 10 == 0), .int .i64 0] else .tuple #[.bool false, .int .i64 1]
set_option maxHeartbeats 1600000 in
theorem right7_any (A : Option Addr) (n c : Nat) (D : Nat → Int) (w : World) (hn : n ≤ maxLen) (hA : Sl w A n D) :
    Calls Try.prog 32 #[.slice A n c] w fun e w' => e = .returned (rgV n D) ∧ w = w' := by
  cases hv : vdB n D with
  | false =>
    have HV := Lib.hid hv
    have HR := Lib.hid (show rgV n D = .tuple #[.bool false, .int .i64 1] by rw [rgV, hv]; rfl)
    clear hv
    go_enter Try.func32, Try.ntmps32
    go_wp2_with fail
    refine (validDigits_any A n c D _ hn hA).mono ?_
    rintro e w1 ⟨rfl, rfl⟩
    rw [HV.out]
    go_wp2_with fail
    go_ret2
    exact ⟨HR.out ▸ rfl, rfl⟩
  | true =>
    have HV := Lib.hid hv
    obtain ⟨h14, hd⟩ := vdB_iff.1 hv
    obtain ⟨b1, b2⟩ := sumF_bd hd (Nat.le_refl n)
    have HD := Lib.hid hd
    have HA := Lib.hid hA
    have HN := Lib.hid hn
    have h4 := h14.2
    have HR := Lib.hid (show rgV n D = .tuple #[.bool (sumF D n % 10 == 0), .int .i64 0] by rw [rgV, hv]; rfl)
    obtain ⟨s, hs⟩ : ∃ s, s = sumF D n := ⟨_, rfl⟩
    have HS := Lib.hid hs
    rw [← hs] at b1 b2 HR
    clear hv hd hA hn h14 hs
    go_enter Try.func32, Try.ntmps32
    go_wp2_with fail
    refine (validDigits_any A n c D _ HN.out HA.out).mono ?_
    rintro e w1 ⟨rfl, rfl⟩
    rw [HV.out]
    go_wp2_with fail
    refine (sum7_any A n c D _ h4 HA.out HD.out).mono ?_
    rintro e w1 ⟨rfl, rfl⟩
    rw [← HS.out]
    go_wp2_with fail
    go_ret2
    exact ⟨HR.out ▸ rfl, rfl⟩
set_option maxHeartbeats 1600000 in
theorem rright7_any (A : Option Addr) (n c : Nat) (D : Nat → Int) (w : World) (hn : n ≤ maxLen) (hA : Sl w A n D) :
    Calls Try.prog 33 #[.slice A n c] w fun e w' => e = .returned (rgV n D) ∧ w = w' := by
  cases hv : vdB n D with
  | false =>
    have HV := Lib.hid hv
    have HR := Lib.hid (show rgV n D = .tuple #[.bool false, .int .i64 1] by rw [rgV, hv]; rfl)
    clear hv
    go_enter Try.func33, Try.ntmps33
    go_wp2_with fail
    refine (rvalidDigits_any A n c D _ hn hA).mono ?_
    rintro e w1 ⟨rfl, rfl⟩
    rw [HV.out]
    go_wp2_with fail
    go_ret2
    exact ⟨HR.out ▸ rfl, rfl⟩
  | true =>
    have HV := Lib.hid hv
    obtain ⟨h14, hd⟩ := vdB_iff.1 hv
    obtain ⟨b1, b2⟩ := sumF_bd hd (Nat.le_refl n)
    have HD := Lib.hid hd
    have HA := Lib.hid hA
    have HN := Lib.hid hn
    have h4 := h14.2
    have HR := Lib.hid (show rgV n D = .tuple #[.bool (sumF D n % 10 == 0), .int .i64 0] by rw [rgV, hv]; rfl)
    obtain ⟨s, hs⟩ : ∃ s, s = sumF D n := ⟨_, rfl⟩
    have HS := Lib.hid hs
    rw [← hs] at b1 b2 HR
    clear hv hd hA hn h14 hs
    go_enter Try.func33, Try.ntmps33
    go_wp2_with fail
    refine (rvalidDigits_any A n c D _ HN.out HA.out).mono ?_
    rintro e w1 ⟨rfl, rfl⟩
    rw [HV.out]
    go_wp2_with fail
    refine (rsum7_any A n c D _ h4 HA.out HD.out).mono ?_
    rintro e w1 ⟨rfl, rfl⟩
    rw [← HS.out]
    go_wp2_with fail
    go_ret2
    exact ⟨HR.out ▸ rfl, rfl⟩
/-- The digit that is added. -/
def addD (D : Nat → Int) (n : Nat) : Nat := ((10 - sumF D n % 10) % 10).toNat
/-- What Checked returns where it returns no digits. -/
def ckE (n : Nat) (D : Nat → Int) : Int := if vdB n D = true then (if n = 4 then 7 else 0) else 1
theorem lit_nil7 (W : World) : (W.alloc (.cells #[] 3)).ownsRow W.heap.size 3 1 (.slice (some ⟨W.heap.size, 0, none⟩) 0 0) 0 [] := World.ownsRow_lit (base := W.heap.size) (size := 1) (e := 3) W #[] 0 (Nat.le_refl _) (by decide) rfl
set_option maxHeartbeats 1600000 in
theorem checked7_no (A : Option Addr) (n c : Nat) (D : Nat → Int) (w : World) (hn : n ≤ maxLen) (hA : Sl w A n D) (hck : ckE n D ≠ 0) :
    Calls Try.prog 30 #[.slice A n c] w fun e w' => e = .returned (.tuple #[.slice none 0 0, .int .i64 (ckE n D)]) ∧ w = w' := by
  cases hv : vdB n D with
  | false =>
    have HV := Lib.hid hv
    have HR := Lib.hid (show ckE n D = 1 by rw [ckE, hv]; rfl)
    clear hv hck
    go_enter Try.func30, Try.ntmps30
    go_wp2_with fail
    refine (validDigits_any A n c D _ hn hA).mono ?_
    rintro e w1 ⟨rfl, rfl⟩
    rw [HV.out]
    go_wp2_with fail
    go_ret2
    exact ⟨by rw [HR.out]; rfl, rfl⟩
  | true =>
    have h4 : n = 4 := by
      rcases Nat.decEq n 4 with h | h
      · exact absurd (by rw [ckE, hv, if_pos rfl, if_neg h]) hck
      · exact h
    subst h4
    have HV := Lib.hid hv
    have HR := Lib.hid (show ckE 4 D = 7 by rw [ckE, hv]; rfl)
    clear hv hck
    go_enter Try.func30, Try.ntmps30
    go_wp2_with fail
    refine (validDigits_any A 4 c D _ hn hA).mono ?_
    rintro e w1 ⟨rfl, rfl⟩
    rw [HV.out]
    go_wp2_with fail
    go_ret2
    exact ⟨by rw [HR.out]; rfl, rfl⟩
set_option maxHeartbeats 1600000 in
theorem rchecked7_no (A : Option Addr) (n c : Nat) (D : Nat → Int) (w : World) (hn : n ≤ maxLen) (hA : Sl w A n D) (hck : ckE n D ≠ 0) :
    Calls Try.prog 31 #[.slice A n c] w fun e w' => e = .returned (.tuple #[.slice none 0 0, .int .i64 (ckE n D)]) ∧ w = w' := by
  cases hv : vdB n D with
  | false =>
    have HV := Lib.hid hv
    have HR := Lib.hid (show ckE n D = 1 by rw [ckE, hv]; rfl)
    clear hv hck
    go_enter Try.func31, Try.ntmps31
    go_wp2_with fail
    refine (rvalidDigits_any A n c D _ hn hA).mono ?_
    rintro e w1 ⟨rfl, rfl⟩
    rw [HV.out]
    go_wp2_with fail
    go_ret2
    exact ⟨by rw [HR.out]; rfl, rfl⟩
  | true =>
    have h4 : n = 4 := by
      rcases Nat.decEq n 4 with h | h
      · exact absurd (by rw [ckE, hv, if_pos rfl, if_neg h]) hck
      · exact h
    subst h4
    have HV := Lib.hid hv
    have HR := Lib.hid (show ckE 4 D = 7 by rw [ckE, hv]; rfl)
    clear hv hck
    go_enter Try.func31, Try.ntmps31
    go_wp2_with fail
    refine (rvalidDigits_any A 4 c D _ hn hA).mono ?_
    rintro e w1 ⟨rfl, rfl⟩
    rw [HV.out]
    go_wp2_with fail
    go_ret2
    exact ⟨by rw [HR.out]; rfl, rfl⟩
set_option maxRecDepth 100000 in
set_option maxHeartbeats 4000000 in
theorem checked7_yes (A : Option Addr) (n c : Nat) (D : Nat → Int) (w : World) (hn : n ≤ maxLen) (hA : Sl w A n D) (hck : ckE n D = 0) :
    Calls Try.prog 30 #[.slice A n c] w fun e w' => ∃ g cap, e = .returned (.tuple #[.slice (some ⟨g, 0, none⟩) (n + 1) cap, .int .i64 0]) ∧ w'.ownsRow w.heap.size 3 1 (.slice (some ⟨g, 0, none⟩) (n + 1) cap) (n + 1) (inN (lst D n ++ [addD D n])) ∧ Bl w w' := by
  obtain ⟨i0, hi0, hz0, hz1, hz2⟩ := info_parts7 int_info7
  have HI := Lib.hid (And.intro hi0 (And.intro hz0 (And.intro hz1 hz2)))
  clear hi0 hz0 hz1 hz2
  have hv : vdB n D = true := by
    cases h : vdB n D with
    | true => rfl
    | false => rw [ckE, h] at hck; simp at hck
  have hn4 : n ≠ 4 := fun h => by rw [ckE, hv, if_pos rfl, if_pos h] at hck; cases hck
  obtain ⟨h14, hd⟩ := vdB_iff.1 hv
  obtain ⟨b1, b2⟩ := sumF_bd hd (Nat.le_refl n)
  have n1 : 1 ≤ n := h14.1
  have n3 : n ≤ 3 := by omega
  have n3' : ((n : Int) == 4) = false := beq_eq_false_iff_ne.2 (by omega)
  have HV := Lib.hid hv
  have HD := Lib.hid hd
  have HA := Lib.hid hA
  have HN := Lib.hid hn
  obtain ⟨s, hs⟩ : ∃ s, s = sumF D n := ⟨_, rfl⟩
  have HS := Lib.hid hs
  obtain ⟨x, hx⟩ : ∃ x : Nat, x = addD D n := ⟨_, rfl⟩
  have HX := Lib.hid hx
  have hx2 : (10 - s % 10) % 10 = (x : Int) := by rw [hx, hs, addD]; omega
  have HX2 := Lib.hid hx2
  rw [← hs] at b1 b2
  clear hv hd hA hn h14 hs hx hx2 hn4 hck
  go_enter Try.func30, Try.ntmps30
  go_wp2_with fail
  refine (validDigits_any A n c D _ HN.out HA.out).mono ?_
  rintro e w1 ⟨rfl, rfl⟩
  rw [HV.out]
  go_wp2_with fail
  refine (sum7_any A n c D _ (by omega) HA.out HD.out).mono ?_
  rintro e w1 ⟨rfl, rfl⟩
  rw [← HS.out]
  go_wp2_with fail
  refine (clone7_any A n c (lst D n) _ (HA.out.lst HD.out) (lst_len _ _).symm n1 (by omega)).mono ?_
  rintro e w1 ⟨g, cap, rfl, ho, hb⟩
  have HO := Lib.hid ho
  have zb := hb.size
  have HB := Lib.hid hb
  have hcap := (own_sl7 ho).2
  have hca : n ≤ cap ∧ cap ≤ maxLen := by
    obtain ⟨A', c', e, h1, h2, _⟩ := hcap
    injection e with _ _ e3
    subst e3
    exact ⟨h1, h2⟩
  obtain ⟨hca1, hca2⟩ := hca
  unfold maxLen at hca2
  clear ho hb hcap
  rw [HX2.out]
  go_wp2_with (at_builtin; refine wpList_append_own _ rfl _ _ _ rfl w.heap.size 3 i0 _ 1 8 Try.underlying22 HI.out.1 HI.out.2.1 HI.out.2.2.1 HI.out.2.2.2 rfl (by decide) _ _ _ rfl (HO.out.alloc _) ⟨w1.heap.size, 0, none⟩ 1 1 [.int .i64 (x : Int)] rfl rfl (cell_one_new _ _ _) (by simp [Value.oneCell']) (by unfold maxLen; omega) (by omega) (by (try simp only [World.size_alloc]); omega) ?_; intro v' w3 hown hgrow _; obtain ⟨g3, cap3, rfl⟩ := ownsRow_succ hown)
  have B3 : Bl w w3 := Below.grown (HB.out.trans (by go_grown)) hgrow (by (try simp only [World.size_alloc]); omega) (fun j hj => (HO.out.lt j hj).1)
  have HO3 := Lib.hid hown
  clear hown hgrow
  go_wp2_with fail
  go_ret2
  exact ⟨g3, cap3, rfl, by rw [← HX.out, show inN (lst D n ++ [x]) = inN (lst D n) ++ [.int .i64 (x : Int)] by simp [inN]]; exact HO3.out, B3⟩
set_option maxRecDepth 100000 in
set_option maxHeartbeats 4000000 in
theorem rchecked7_yes (A : Option Addr) (n c : Nat) (D : Nat → Int) (w : World) (hn : n ≤ maxLen) (hA : Sl w A n D) (hck : ckE n D = 0) :
    Calls Try.prog 31 #[.slice A n c] w fun e w' => ∃ g cap, e = .returned (.tuple #[.slice (some ⟨g, 0, none⟩) (n + 1) cap, .int .i64 0]) ∧ w'.ownsRow w.heap.size 3 1 (.slice (some ⟨g, 0, none⟩) (n + 1) cap) (n + 1) (inN (lst D n ++ [addD D n])) ∧ Bl w w' := by
  obtain ⟨i0, hi0, hz0, hz1, hz2⟩ := info_parts7 int_info7
  have HI := Lib.hid (And.intro hi0 (And.intro hz0 (And.intro hz1 hz2)))
  clear hi0 hz0 hz1 hz2
  have hv : vdB n D = true := by
    cases h : vdB n D with
    | true => rfl
    | false => rw [ckE, h] at hck; simp at hck
  have hn4 : n ≠ 4 := fun h => by rw [ckE, hv, if_pos rfl, if_pos h] at hck; cases hck
  obtain ⟨h14, hd⟩ := vdB_iff.1 hv
  obtain ⟨b1, b2⟩ := sumF_bd hd (Nat.le_refl n)
  have n1 : 1 ≤ n := h14.1
  have n3 : n ≤ 3 := by omega
  have n3' : ((n : Int) == 4) = false := beq_eq_false_iff_ne.2 (by omega)
  have HV := Lib.hid hv
  have HD := Lib.hid hd
  have HA := Lib.hid hA
  have HN := Lib.hid hn
  obtain ⟨s, hs⟩ : ∃ s, s = sumF D n := ⟨_, rfl⟩
  have HS := Lib.hid hs
  obtain ⟨x, hx⟩ : ∃ x : Nat, x = addD D n := ⟨_, rfl⟩
  have HX := Lib.hid hx
  have hx2 : (10 - s % 10) % 10 = (x : Int) := by rw [hx, hs, addD]; omega
  have HX2 := Lib.hid hx2
  rw [← hs] at b1 b2
  clear hv hd hA hn h14 hs hx hx2 hn4 hck
  obtain ⟨b, off, rfl, -, -⟩ := HA.out (by omega)
  have HO0 := Lib.hid (lit_nil7 w)
  go_enter Try.func31, Try.ntmps31
  go_wp2_with fail
  refine (rvalidDigits_any _ n c D _ HN.out HA.out).mono ?_
  rintro e w1 ⟨rfl, rfl⟩
  rw [HV.out]
  go_wp2_with (at_builtin; refine wpList_append_lies _ rfl _ _ _ rfl w.heap.size 3 i0 _ 1 8 Try.underlying22 HI.out.1 HI.out.2.1 HI.out.2.2.1 HI.out.2.2.2 rfl (by omega) _ 0 [] rfl HO0.out ⟨b, off, none⟩ n c (inN (lst D n)) rfl (by rw [inN_len, lst_len]; omega) (in_news7 (lst_len _ _).symm ((HA.out.lst HD.out).below (by go_grown))) (inN_one _) (by omega) (by unfold maxLen; omega) (by omega) (by (try simp only [World.size_alloc]); omega) _ rfl ?_; intro gg cap w9 hown1 hgrow hat hlt9)
  have hown2 : w9.ownsRow w.heap.size 3 1 (.slice (some ⟨gg, 0, none⟩) n cap) n (inN (lst D n)) := by have h := hown1; simp only [Nat.zero_add, List.nil_append] at h; exact h
  have HO := Lib.hid hown2
  have HB := Lib.hid (show Bl w w9 from Below.grown (by go_grown) hgrow (by (try simp only [World.size_alloc]); omega) (fun j hj => by have hj : w.heap.size = j := Option.some.inj hj; omega))
  have hcap := (own_sl7 hown2).2
  have hca : n ≤ cap ∧ cap ≤ maxLen := by
    obtain ⟨A', c', e, h1, h2, _⟩ := hcap
    injection e with _ _ e3
    subst e3
    exact ⟨h1, h2⟩
  obtain ⟨hca1, hca2⟩ := hca
  unfold maxLen at hca2
  have zb := HB.out.size
  clear hown1 hown2 hgrow hat hcap
  (try simp only [Nat.zero_add])
  go_wp2_with fail
  refine (rsum7_any _ n c D _ (by omega) (HA.out.below HB.out) HD.out).mono ?_
  rintro e w1 ⟨rfl, rfl⟩
  rw [← HS.out]
  have eX := HX2.out
  go_wp2_with (at_builtin; refine wpList_append_own _ rfl _ _ _ rfl w.heap.size 3 i0 _ 1 8 Try.underlying22 HI.out.1 HI.out.2.1 HI.out.2.2.1 HI.out.2.2.2 rfl (by decide) _ _ _ rfl (HO.out.alloc _) ⟨w9.heap.size, 0, none⟩ 1 1 [.int .i64 (x : Int)] rfl rfl (by first | exact cell_one_new _ _ _ | (rw [HX2.out]; exact cell_one_new _ _ _)) (by simp [Value.oneCell']) (by unfold maxLen; omega) (by omega) (by (try simp only [World.size_alloc]); omega) ?_; intro v' w3 hown hgrow _; obtain ⟨g3, cap3, rfl⟩ := ownsRow_succ hown)
  have B3 : Bl w w3 := Below.grown (HB.out.trans (by go_grown)) hgrow (by (try simp only [World.size_alloc]); omega) (fun j hj => (HO.out.lt j hj).1)
  have HO3 := Lib.hid hown
  clear hown hgrow
  go_wp2_with fail
  go_ret2
  exact ⟨g3, cap3, rfl, by rw [← HX.out, show inN (lst D n ++ [x]) = inN (lst D n) ++ [.int .i64 (x : Int)] by simp [inN]]; exact HO3.out, B3⟩
end Go.Proofs.Ytfbkecdcdffbbaa
