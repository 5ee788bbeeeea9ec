/-
  The walk of LedgerShifted.
-/
import Derived.Test.YtiaamhlcdnlahaaLN
import Derived.Test.YtiaamhlcdnlahaaLK
namespace Go.Proofs.Ytiaamhlcdnlahaa
open Go.RowKit Go.Maps
set_option linter.unusedSimpArgs false
set_option linter.unusedVariables false

theorem MrgPost.bad {C : Int} {N : Nat} {T : Nat → En} {w : World} {e : Ending} {w' : World} (h : MrgPost C N T w e w') (hC : C ≠ 0) : Bl w w' ∧ e = .returned (.tuple #[.slice none 0 0, .int .i64 C]) := by
  obtain ⟨hb, ⟨_, h1⟩ | ⟨h0, _⟩⟩ := h
  · exact ⟨hb, h1⟩
  · exact absurd h0 hC
theorem MrgPost.good {C : Int} {N : Nat} {T : Nat → En} {w : World} {e : Ending} {w' : World} (h : MrgPost C N T w e w') (hC : C = 0) : Bl w w' ∧ ∃ A c, e = .returned (.tuple #[.slice A N c, .int .i64 0]) ∧ N ≤ c ∧ c ≤ maxLen ∧ El w' A N T := by
  obtain ⟨hb, ⟨hne, h1⟩ | ⟨_, v, h1, A, c, rfl, p1, p2, p3, -⟩⟩ := h
  · exact absurd hC hne
  · exact ⟨hb, A, c, h1, p1, p2, p3⟩
theorem CorPost.good {L : Nat → En} {n : Nat} {w : World} {e : Ending} {w' : World} (h : CorPost L n w e w') (hv : vlB L n = true) : Bl w w' ∧ ∃ A c, e = .returned (.tuple #[.slice A (corF L n).length c, .int .i64 0]) := by
  obtain ⟨hb, ⟨h0, _⟩ | ⟨_, v, h1, A, c, rfl, _⟩⟩ := h
  · rw [hv] at h0; cases h0
  · exact ⟨hb, A, c, h1⟩
theorem isEn_el {w : World} {A : Option Addr} {n c : Nat} {L : Nat → En} (h1 : n ≤ c) (h2 : c ≤ maxLen) (h : El w A n L) : IsEn w 0 (.slice A n c) n L := ⟨A, c, rfl, h1, h2, h, fun _ _ => Nat.zero_le _⟩
theorem lst_sh (L : Nat → En) (b d : Int) (f : Bool) (n : Nat) : lst (shE L b) (d + b) f n = lst L d f n := by
  induction n with
  | zero => rfl
  | succ n ih =>
    rw [lst, lst, ih]
    have : slotB (shE L b n) (d + b) f = slotB (L n) d f := by
      show (decide ((L n).day + b = d + b) && ((L n).fo == f)) = (decide ((L n).day = d) && ((L n).fo == f))
      congr 1
      rw [decide_eq_decide]
      omega
    rw [this]
    rfl
theorem shE_back (L : Nat → En) (b : Int) : shE (shE L b) (-b) = L := by
  funext j
  show (⟨(L j).day + b + -b, (L j).fo, (L j).er⟩ : En) = L j
  rw [show (L j).day + b + -b = (L j).day by omega]
theorem sh_back {L : Nat → En} {n : Nat} {b : Int} (h : shC L n b = 0) : vlB (shE L b) n = true ∧ shC (shE L b) n (-b) = 0 := by
  obtain ⟨hv, hr, ho⟩ := sh_iff.1 h
  obtain ⟨h1, h2⟩ := vl_iff.1 hv
  have hv' : vlB (shE L b) n = true := by rw [vlB, okS_all h2, ho, decide_eq_true h1]; rfl
  refine ⟨hv', sh_iff.2 ⟨hv', by omega, okS_iff.2 fun k hk => ?_⟩⟩
  have := en_iff.1 (h2 k hk)
  show dayB ((L k).day + b + -b) = true
  rw [show (L k).day + b + -b = (L k).day by omega]
  exact day_iff.2 ⟨this.1, this.2.1⟩
theorem off_sh {L : Nat → En} {n : Nat} {b d : Int} (h : shC L n b = 0) (hd : 0 ≤ d ∧ d ≤ 182985) (hd' : 0 ≤ d + b ∧ d + b ≤ 182985) : offP (shE L b) n (d + b) = offP L n d := by
  have hv := (sh_iff.1 h).1
  have hv' := (sh_back h).1
  have ho : offO (shE L b) n (d + b) = offO L n d := by unfold offO; rw [lst_sh, lst_sh]
  unfold offP errL
  rw [ho, hv, hv', day_iff.2 hd, day_iff.2 hd']
theorem lst_cat {n : Nat} {L M : Nat → En} {d : Int} {f : Bool} {k : Nat} (h : (lst M d f k).isSome = true) : (lst (catE n L M) d f (n + k)).isSome = true := by
  induction k with
  | zero => simp [lst] at h
  | succ k ih =>
    rw [Nat.add_succ, lst, cat_ge]
    rw [lst] at h
    split
    · rfl
    · rename_i q
      rw [if_neg q] at h
      exact ih h
theorem cor_congr {L M : Nat → En} {n : Nat} (h : ∀ j, j < n → L j = M j) : corF L n = corF M n := by
  induction n with
  | zero => rfl
  | succ n ih => rw [corF, corF, ih (fun j hj => h j (by omega)), h n (by omega), lst_congr (fun j hj => h j (by omega))]
theorem cor_cat (n : Nat) (L M : Nat → En) (m : Nat) : (corF L n).length + (corF M m).length ≤ (corF (catE n L M) (n + m)).length := by
  induction m with
  | zero => rw [Nat.add_zero, cor_congr (M := L) fun j hj => cat_lt hj]; simp [corF]
  | succ m ih =>
    show (corF L n).length + (if (lst M (M m).day (M m).fo m).isSome = true then corF M m ++ [(m : Int)] else corF M m).length ≤ (if (lst (catE n L M) (catE n L M (n + m)).day (catE n L M (n + m)).fo (n + m)).isSome = true then corF (catE n L M) (n + m) ++ [((n + m : Nat) : Int)] else corF (catE n L M) (n + m)).length
    rw [cat_ge]
    by_cases q : (lst M (M m).day (M m).fo m).isSome = true
    · rw [if_pos q, if_pos (lst_cat q), List.length_append, List.length_append]; simp; omega
    · rw [if_neg q]
      split
      · rw [List.length_append]; omega
      · exact ih
theorem vl_cat {n : Nat} {L M : Nat → En} {m : Nat} (h : mrgC L n M m = 0) : vlB (catE n L M) (n + m) = true := by
  obtain ⟨h1, h2, h3⟩ := mrg_iff.1 h
  refine vl_iff.2 ⟨h3, fun k hk => ?_⟩
  by_cases q : k < n
  · rw [cat_lt q]; exact (vl_iff.1 h1).2 k q
  · obtain ⟨j, rfl⟩ : ∃ j, k = n + j := ⟨k - n, by omega⟩
    rw [cat_ge]; exact (vl_iff.1 h2).2 j (by omega)
set_option maxRecDepth 100000 in
set_option maxHeartbeats 6400000 in
theorem shifted_w0 (A : Option Addr) (n c : Nat) (L : Nat → En) (B : Option Addr) (m d : Nat) (M : Nat → En) (b day : Int) (w : World) (hA : El w A n L) (hB : El w B m M) (hn : n ≤ c ∧ c ≤ maxLen) (hm : m ≤ d ∧ d ≤ maxLen) (hb : rng b) (hday : rng day) (hs : ¬ (decide ((n : Int) ≤ 30) = true ∧ decide ((m : Int) ≤ 30) = true)) :
    Calls Try.prog 11 #[.slice A n c, .slice B m d, .int .i64 b, .int .i64 day] w fun e w' => e = .returned (.bool true) ∧ Bl w w' := by
  have hn' := Nat.le_trans hn.1 hn.2
  have hm' := Nat.le_trans hm.1 hm.2
  have HS1 := Lib.hid (fun (X : World) (hX : Bl w X) => shifted_any A n c L b X (hA.below hX) hn')
  have HS2 := Lib.hid (fun (X : World) (hX : Bl w X) => rshifted_any A n c L b X (hA.below hX) hn')
  have HM1 := Lib.hid (fun (X : World) (hX : Bl w X) => merged_any A n c L B m d M X (hA.below hX) (hB.below hX) hn' hm')
  have HC1 := Lib.hid (fun (X : World) (hX : Bl w X) => corrections_any A n c L X (hA.below hX) hn')
  have HC2 := Lib.hid (fun (X : World) (hX : Bl w X) => corrections_any B m d M X (hB.below hX) hm')
  have HO1 := Lib.hid (fun (X : World) (hX : Bl w X) => offOf_any A n c L day X (hA.below hX) hn' hday)
  have HIL := Lib.hid (fun (X : World) (hX : Bl w X) => isEn_el hn.1 hn.2 (hA.below hX))
  have HN := Lib.hid hn'
  have HN2 := Lib.hid hm'
  have HDY := Lib.hid hday
  have HBB := Lib.hid hb
  clear hA hB hn hm hn' hm' hb hday
  cases hs1 : decide ((n : Int) ≤ 30) with
  | false =>
    have HSA := Lib.hid hs1
    clear hs1 hs
    go_enter Try.func11, Try.ntmps11
    go_wp2_with fail
    refine (small_any A n c _ HN.out).mono ?_
    rintro e0 w0 ⟨rfl, rfl⟩
    rw [HSA.out]
    go_wp2_with fail
    refine (awakeL_any _).mono ?_
    rintro ea wa ⟨rfl, ha⟩
    go_wp2_with fail
    go_ret
    exact ⟨rfl, ha⟩
  | true =>
    have HSA := Lib.hid hs1
    have HSB := Lib.hid (show decide ((m : Int) ≤ 30) = false by
      cases hq : decide ((m : Int) ≤ 30) with
      | false => rfl
      | true => exact absurd ⟨hs1, hq⟩ hs)
    clear hs1 hs
    go_enter Try.func11, Try.ntmps11
    go_wp2_with fail
    refine (small_any A n c _ HN.out).mono ?_
    rintro e0 w0 ⟨rfl, rfl⟩
    rw [HSA.out]
    go_wp2_with fail
    refine (small_any B m d _ HN2.out).mono ?_
    rintro e00 w00 ⟨rfl, rfl⟩
    rw [HSB.out]
    go_wp2_with fail
    refine (awakeL_any _).mono ?_
    rintro ea wa ⟨rfl, ha⟩
    go_wp2_with fail
    go_ret
    exact ⟨rfl, ha⟩
set_option maxRecDepth 100000 in
set_option maxHeartbeats 6400000 in
theorem shifted_w00 (A : Option Addr) (n c : Nat) (L : Nat → En) (B : Option Addr) (m d : Nat) (M : Nat → En) (b day : Int) (w : World) (hA : El w A n L) (hB : El w B m M) (hn : n ≤ c ∧ c ≤ maxLen) (hm : m ≤ d ∧ d ≤ maxLen) (hb : rng b) (hday : rng day) (hs1 : decide ((n : Int) ≤ 30) = true) (hs2 : decide ((m : Int) ≤ 30) = true) (hC : shC L n b ≠ 0) (hD : mrgC L n M m ≠ 0) :
    Calls Try.prog 11 #[.slice A n c, .slice B m d, .int .i64 b, .int .i64 day] w fun e w' => e = .returned (.bool true) ∧ Bl w w' := by
  have hn' := Nat.le_trans hn.1 hn.2
  have hm' := Nat.le_trans hm.1 hm.2
  have HS1 := Lib.hid (fun (X : World) (hX : Bl w X) => shifted_any A n c L b X (hA.below hX) hn')
  have HS2 := Lib.hid (fun (X : World) (hX : Bl w X) => rshifted_any A n c L b X (hA.below hX) hn')
  have HM1 := Lib.hid (fun (X : World) (hX : Bl w X) => merged_any A n c L B m d M X (hA.below hX) (hB.below hX) hn' hm')
  have HC1 := Lib.hid (fun (X : World) (hX : Bl w X) => corrections_any A n c L X (hA.below hX) hn')
  have HC2 := Lib.hid (fun (X : World) (hX : Bl w X) => corrections_any B m d M X (hB.below hX) hm')
  have HO1 := Lib.hid (fun (X : World) (hX : Bl w X) => offOf_any A n c L day X (hA.below hX) hn' hday)
  have HIL := Lib.hid (fun (X : World) (hX : Bl w X) => isEn_el hn.1 hn.2 (hA.below hX))
  have HN := Lib.hid hn'
  have HN2 := Lib.hid hm'
  have HDY := Lib.hid hday
  have HBB := Lib.hid hb
  clear hA hB hn hm hn' hm' hb hday
  have HSA := Lib.hid hs1
  have HSB := Lib.hid hs2
  have HC := Lib.hid hC
  have HD := Lib.hid hD
  clear hs1 hs2 hC hD
  have HC1n := Lib.hid (show (shC L n b != 0) = true by simpa using HC.out)
  obtain ⟨C, hCC⟩ : ∃ C, C = shC L n b := ⟨_, rfl⟩
  rw [← hCC] at HC HC1n HS1 HS2
  clear hCC
  have hC1n := HC1n.out
  have HD1n := Lib.hid (show (mrgC L n M m == 0) = false by simpa using HD.out)
  obtain ⟨D, hDD⟩ : ∃ D, D = mrgC L n M m := ⟨_, rfl⟩
  rw [← hDD] at HD HD1n HM1
  clear hDD
  have hD1n := HD1n.out
  go_enter Try.func11, Try.ntmps11
  go_wp2_with fail
  refine (small_any A n c _ HN.out).mono ?_
  rintro e0 w0 ⟨rfl, rfl⟩
  rw [HSA.out]
  go_wp2_with fail
  refine (small_any B m d _ HN2.out).mono ?_
  rintro e00 w00 ⟨rfl, rfl⟩
  rw [HSB.out]
  go_wp2_with fail
  refine (HS1.out _ (Bl.rf _)).mono ?_
  intro e1 w1 hp
  obtain ⟨hb, rfl⟩ := hp.bad HC.out
  have B1 := Lib.hid (Bl.tr (Bl.rf _) hb)
  clear hb hp
  go_wp2_with fail
  refine (HS2.out _ B1.out).mono ?_
  intro e2 w2 hp
  obtain ⟨hb, rfl⟩ := hp.bad HC.out
  have B2 := Lib.hid (Bl.tr (B1.out) hb)
  clear hb hp
  go_wp2_with fail
  refine (sameEn_any _ _ 0 0 0 L _ (isEn_nil _ _ _) (isEn_nil _ _ _)).mono ?_
  rintro e3 w3 ⟨rfl, hb⟩
  have B3 := Lib.hid (B2.out.tr hb)
  clear hb
  go_wp2_with fail
  refine (HM1.out _ B3.out).mono ?_
  intro e4 w4 hp
  obtain ⟨hb, rfl⟩ := hp.bad HD.out
  have B4 := Lib.hid (Bl.tr (B3.out) hb)
  clear hb hp
  go_wp2_with fail
  refine (awakeL_any _).mono ?_
  rintro ea wa ⟨rfl, ha⟩
  go_wp2_with fail
  go_ret
  exact ⟨rfl, (B4.out).tr ha⟩
set_option maxRecDepth 100000 in
set_option maxHeartbeats 6400000 in
theorem shifted_w01 (A : Option Addr) (n c : Nat) (L : Nat → En) (B : Option Addr) (m d : Nat) (M : Nat → En) (b day : Int) (w : World) (hA : El w A n L) (hB : El w B m M) (hn : n ≤ c ∧ c ≤ maxLen) (hm : m ≤ d ∧ d ≤ maxLen) (hb : rng b) (hday : rng day) (hs1 : decide ((n : Int) ≤ 30) = true) (hs2 : decide ((m : Int) ≤ 30) = true) (hC : shC L n b ≠ 0) (hD : mrgC L n M m = 0) :
    Calls Try.prog 11 #[.slice A n c, .slice B m d, .int .i64 b, .int .i64 day] w fun e w' => e = .returned (.bool true) ∧ Bl w w' := by
  have hn' := Nat.le_trans hn.1 hn.2
  have hm' := Nat.le_trans hm.1 hm.2
  have HS1 := Lib.hid (fun (X : World) (hX : Bl w X) => shifted_any A n c L b X (hA.below hX) hn')
  have HS2 := Lib.hid (fun (X : World) (hX : Bl w X) => rshifted_any A n c L b X (hA.below hX) hn')
  have HM1 := Lib.hid (fun (X : World) (hX : Bl w X) => merged_any A n c L B m d M X (hA.below hX) (hB.below hX) hn' hm')
  have HC1 := Lib.hid (fun (X : World) (hX : Bl w X) => corrections_any A n c L X (hA.below hX) hn')
  have HC2 := Lib.hid (fun (X : World) (hX : Bl w X) => corrections_any B m d M X (hB.below hX) hm')
  have HO1 := Lib.hid (fun (X : World) (hX : Bl w X) => offOf_any A n c L day X (hA.below hX) hn' hday)
  have HIL := Lib.hid (fun (X : World) (hX : Bl w X) => isEn_el hn.1 hn.2 (hA.below hX))
  have HN := Lib.hid hn'
  have HN2 := Lib.hid hm'
  have HDY := Lib.hid hday
  have HBB := Lib.hid hb
  clear hA hB hn hm hn' hm' hb hday
  have HSA := Lib.hid hs1
  have HSB := Lib.hid hs2
  have HC := Lib.hid hC
  have HD := Lib.hid hD
  clear hs1 hs2 hC hD
  have HC1n := Lib.hid (show (shC L n b != 0) = true by simpa using HC.out)
  obtain ⟨C, hCC⟩ : ∃ C, C = shC L n b := ⟨_, rfl⟩
  rw [← hCC] at HC HC1n HS1 HS2
  clear hCC
  have hC1n := HC1n.out
  have HVC := Lib.hid (vl_cat HD.out)
  have HVM := Lib.hid (mrg_iff.1 HD.out)
  have HLE := Lib.hid (cor_cat n L M m)
  have hl1 := cor_len L n
  have hl2 := cor_len M m
  have hl3 := cor_len (catE n L M) (n + m)
  have hl4 := HVM.out.2.2
  obtain ⟨c1, hc1⟩ : ∃ x, x = (corF L n).length := ⟨_, rfl⟩
  obtain ⟨c2, hc2⟩ : ∃ x, x = (corF M m).length := ⟨_, rfl⟩
  obtain ⟨c3, hc3⟩ : ∃ x, x = (corF (catE n L M) (n + m)).length := ⟨_, rfl⟩
  have hle := HLE.out
  rw [← hc1, ← hc2, ← hc3] at hle
  rw [← hc1] at hl1
  rw [← hc2] at hl2
  rw [← hc3] at hl3
  have HK1 := Lib.hid hc1
  have HK2 := Lib.hid hc2
  have HK3 := Lib.hid hc3
  have k1 : wrap64 ((c1 : Int) + (c2 : Int)) = (c1 : Int) + (c2 : Int) := IntWalk.wrap64_in _ (by omega)
  have k2 : IntKind.i64.wrap ((c1 : Int) + (c2 : Int)) = (c1 : Int) + (c2 : Int) := IntWalk.i64_in _ (by omega)
  have k3 : decide ((c3 : Int) < (c1 : Int) + (c2 : Int)) = false := decide_eq_false (by omega)
  have k4 : (c1 : Int) + (c2 : Int) ≤ (c3 : Int) := by omega
  clear hc1 hc2 hc3 HLE hl1 hl2 hl3 hl4 hle
  go_enter Try.func11, Try.ntmps11
  go_wp2_with fail
  refine (small_any A n c _ HN.out).mono ?_
  rintro e0 w0 ⟨rfl, rfl⟩
  rw [HSA.out]
  go_wp2_with fail
  refine (small_any B m d _ HN2.out).mono ?_
  rintro e00 w00 ⟨rfl, rfl⟩
  rw [HSB.out]
  go_wp2_with fail
  refine (HS1.out _ (Bl.rf _)).mono ?_
  intro e1 w1 hp
  obtain ⟨hb, rfl⟩ := hp.bad HC.out
  have B1 := Lib.hid (Bl.tr (Bl.rf _) hb)
  clear hb hp
  go_wp2_with fail
  refine (HS2.out _ B1.out).mono ?_
  intro e2 w2 hp
  obtain ⟨hb, rfl⟩ := hp.bad HC.out
  have B2 := Lib.hid (Bl.tr (B1.out) hb)
  clear hb hp
  go_wp2_with fail
  refine (sameEn_any _ _ 0 0 0 L _ (isEn_nil _ _ _) (isEn_nil _ _ _)).mono ?_
  rintro e3 w3 ⟨rfl, hb⟩
  have B3 := Lib.hid (B2.out.tr hb)
  clear hb
  go_wp2_with fail
  refine (HM1.out _ B3.out).mono ?_
  intro e4 w4 hp
  obtain ⟨hb, A4, c40, rfl, p1, p2, p3⟩ := hp.good HD.out
  have B4 := Lib.hid (Bl.tr (B3.out) hb)
  have HE4 := Lib.hid p3
  clear p1 p2 p3
  clear hb hp
  go_wp2_with fail
  refine (HC1.out _ B4.out).mono ?_
  intro e5 w5 hp
  obtain ⟨hb, A5, c50, rfl⟩ := hp.good HVM.out.1
  have B5 := Lib.hid (Bl.tr (B4.out) hb)
  have HE4 := Lib.hid (HE4.out.below hb)
  clear hb hp
  rw [← HK1.out]
  go_wp2_with fail
  refine (HC2.out _ B5.out).mono ?_
  intro e6 w6 hp
  obtain ⟨hb, A6, c60, rfl⟩ := hp.good HVM.out.2.1
  have B6 := Lib.hid (Bl.tr (B5.out) hb)
  have HE4 := Lib.hid (HE4.out.below hb)
  clear hb hp
  rw [← HK2.out]
  go_wp2_with fail
  refine (corrections_any A4 (n + m) c40 (catE n L M) _ HE4.out (by have := HVM.out.2.2; unfold maxLen; omega)).mono ?_
  intro e7 w7 hp
  obtain ⟨hb, A7, c70, rfl⟩ := hp.good HVC.out
  have B7 := Lib.hid (Bl.tr (B6.out) hb)
  clear hb hp
  rw [← HK3.out]
  go_wp2_with fail
  refine (awakeL_any _).mono ?_
  rintro ea wa ⟨rfl, ha⟩
  go_wp2_with fail
  go_ret
  exact ⟨rfl, (B7.out).tr ha⟩
set_option maxRecDepth 100000 in
set_option maxHeartbeats 6400000 in
theorem shifted_w10 (A : Option Addr) (n c : Nat) (L : Nat → En) (B : Option Addr) (m d : Nat) (M : Nat → En) (b day : Int) (w : World) (hA : El w A n L) (hB : El w B m M) (hn : n ≤ c ∧ c ≤ maxLen) (hm : m ≤ d ∧ d ≤ maxLen) (hb : rng b) (hday : rng day) (hs1 : decide ((n : Int) ≤ 30) = true) (hs2 : decide ((m : Int) ≤ 30) = true) (hC : shC L n b = 0) (hD : mrgC L n M m ≠ 0) :
    Calls Try.prog 11 #[.slice A n c, .slice B m d, .int .i64 b, .int .i64 day] w fun e w' => e = .returned (.bool true) ∧ Bl w w' := by
  have hn' := Nat.le_trans hn.1 hn.2
  have hm' := Nat.le_trans hm.1 hm.2
  have HS1 := Lib.hid (fun (X : World) (hX : Bl w X) => shifted_any A n c L b X (hA.below hX) hn')
  have HS2 := Lib.hid (fun (X : World) (hX : Bl w X) => rshifted_any A n c L b X (hA.below hX) hn')
  have HM1 := Lib.hid (fun (X : World) (hX : Bl w X) => merged_any A n c L B m d M X (hA.below hX) (hB.below hX) hn' hm')
  have HC1 := Lib.hid (fun (X : World) (hX : Bl w X) => corrections_any A n c L X (hA.below hX) hn')
  have HC2 := Lib.hid (fun (X : World) (hX : Bl w X) => corrections_any B m d M X (hB.below hX) hm')
  have HO1 := Lib.hid (fun (X : World) (hX : Bl w X) => offOf_any A n c L day X (hA.below hX) hn' hday)
  have HIL := Lib.hid (fun (X : World) (hX : Bl w X) => isEn_el hn.1 hn.2 (hA.below hX))
  have HN := Lib.hid hn'
  have HN2 := Lib.hid hm'
  have HDY := Lib.hid hday
  have HBB := Lib.hid hb
  clear hA hB hn hm hn' hm' hb hday
  have HSA := Lib.hid hs1
  have HSB := Lib.hid hs2
  have HC := Lib.hid hC
  have HD := Lib.hid hD
  clear hs1 hs2 hC hD
  have HCB := Lib.hid (sh_back HC.out)
  have HRB := Lib.hid (sh_iff.1 HC.out).2.1
  have HLV := Lib.hid (vl_iff.1 (sh_iff.1 HC.out).1).1
  have HD1n := Lib.hid (show (mrgC L n M m == 0) = false by simpa using HD.out)
  obtain ⟨D, hDD⟩ : ∃ D, D = mrgC L n M m := ⟨_, rfl⟩
  rw [← hDD] at HD HD1n HM1
  clear hDD
  have hD1n := HD1n.out
  have kb1 : wrap64 (-b) = -b := IntWalk.wrap64_in _ (by have := HRB.out; omega)
  have kb2 : IntKind.i64.wrap (-b) = -b := IntWalk.i64_in _ (by have := HRB.out; omega)
  go_enter Try.func11, Try.ntmps11
  go_wp2_with fail
  refine (small_any A n c _ HN.out).mono ?_
  rintro e0 w0 ⟨rfl, rfl⟩
  rw [HSA.out]
  go_wp2_with fail
  refine (small_any B m d _ HN2.out).mono ?_
  rintro e00 w00 ⟨rfl, rfl⟩
  rw [HSB.out]
  go_wp2_with fail
  refine (HS1.out _ (Bl.rf _)).mono ?_
  intro e1 w1 hp
  obtain ⟨hb, A1, c10, rfl, p1, p2, p3⟩ := hp.good HC.out
  have B1 := Lib.hid (Bl.tr (Bl.rf _) hb)
  have HE1 := Lib.hid p3
  have HI1 := Lib.hid (isEn_el p1 p2 p3)
  clear p1 p2 p3
  clear hb hp
  go_wp2_with fail
  refine (HS2.out _ B1.out).mono ?_
  intro e2 w2 hp
  obtain ⟨hb, A2, c20, rfl, p1, p2, p3⟩ := hp.good HC.out
  have B2 := Lib.hid (Bl.tr (B1.out) hb)
  have HI2 := Lib.hid (isEn_el p1 p2 p3)
  have HI1 := Lib.hid (HI1.out.below hb)
  have HE1 := Lib.hid (HE1.out.below hb)
  clear p1 p2 p3
  clear hb hp
  have HY2 := Lib.hid HI2.out
  go_wp2_with fail
  refine (sameEn_any _ _ n 0 0 (shE L b) _ HI1.out HI2.out).mono ?_
  rintro e3 w3 ⟨rfl, hb⟩
  have B3 := Lib.hid (B2.out.tr hb)
  have HE1 := Lib.hid (HE1.out.below hb)
  clear hb
  go_wp2_with fail
  refine (HM1.out _ B3.out).mono ?_
  intro e4 w4 hp
  obtain ⟨hb, rfl⟩ := hp.bad HD.out
  have B4 := Lib.hid (Bl.tr (B3.out) hb)
  have HE1 := Lib.hid (HE1.out.below hb)
  clear hb hp
  go_wp2_with fail
  refine (shifted_any A1 n c10 (shE L b) (-b) _ HE1.out (by have := HLV.out; unfold maxLen; omega)).mono ?_
  intro e5 w5 hp
  obtain ⟨hb, A8, c80, rfl, p1, p2, p3⟩ := hp.good HCB.out.2
  have B5 := Lib.hid (Bl.tr (B4.out) hb)
  have HE1 := Lib.hid (HE1.out.below hb)
  rw [shE_back] at p3
  have HI8 := Lib.hid (isEn_el p1 p2 p3)
  clear p1 p2 p3
  clear hb hp
  go_wp2_with fail
  refine (sameEn_any _ _ n 0 0 L _ HI8.out (HIL.out _ B5.out)).mono ?_
  rintro e6 w6 ⟨rfl, hb⟩
  have B6 := Lib.hid (B5.out.tr hb)
  have HE1 := Lib.hid (HE1.out.below hb)
  clear hb
  by_cases g1 : day < 0
  · clear kb1 kb2
    go_wp2_with fail
    refine (awakeL_any _).mono ?_
    rintro ea wa ⟨rfl, ha⟩
    go_wp2_with fail
    go_ret
    exact ⟨rfl, (B6.out).tr ha⟩
  by_cases g2 : 182985 < day
  · clear kb1 kb2
    go_wp2_with fail
    refine (awakeL_any _).mono ?_
    rintro ea wa ⟨rfl, ha⟩
    go_wp2_with fail
    go_ret
    exact ⟨rfl, (B6.out).tr ha⟩
  have s1 : wrap64 (day + b) = day + b := IntWalk.wrap64_in _ (by have := HRB.out; omega)
  have s2 : IntKind.i64.wrap (day + b) = day + b := IntWalk.i64_in _ (by have := HRB.out; omega)
  by_cases g3 : day + b < 0
  · clear kb1 kb2
    go_wp2_with fail
    refine (awakeL_any _).mono ?_
    rintro ea wa ⟨rfl, ha⟩
    go_wp2_with fail
    go_ret
    exact ⟨rfl, (B6.out).tr ha⟩
  by_cases g4 : 182985 < day + b
  · clear kb1 kb2
    go_wp2_with fail
    refine (awakeL_any _).mono ?_
    rintro ea wa ⟨rfl, ha⟩
    go_wp2_with fail
    go_ret
    exact ⟨rfl, (B6.out).tr ha⟩
  have HOE := Lib.hid (off_sh HC.out (d := day) (by omega) (by omega))
  obtain ⟨z, hz⟩ : ∃ z, z = offP L n day := ⟨_, rfl⟩
  rw [← hz] at HOE HO1
  clear hz kb1 kb2
  obtain ⟨z1, z2⟩ := z
  go_wp2_with fail
  refine (HO1.out _ B6.out).mono ?_
  rintro e7 w7 ⟨rfl, hb⟩
  have B7 := Lib.hid (B6.out.tr hb)
  have HE1 := Lib.hid (HE1.out.below hb)
  clear hb
  go_wp2_with fail
  refine (offOf_any A1 n c10 (shE L b) (day + b) _ HE1.out (by have := HLV.out; unfold maxLen; omega) (by unfold rng; omega)).mono ?_
  rintro e8 w8 ⟨rfl, hb⟩
  rw [HOE.out]
  have B8 := Lib.hid (B7.out.tr hb)
  clear hb
  go_wp2_with fail
  refine (awakeL_any _).mono ?_
  rintro ea wa ⟨rfl, ha⟩
  go_wp2_with fail
  go_ret
  exact ⟨rfl, (B8.out).tr ha⟩
set_option maxRecDepth 100000 in
set_option maxHeartbeats 6400000 in
theorem shifted_w11 (A : Option Addr) (n c : Nat) (L : Nat → En) (B : Option Addr) (m d : Nat) (M : Nat → En) (b day : Int) (w : World) (hA : El w A n L) (hB : El w B m M) (hn : n ≤ c ∧ c ≤ maxLen) (hm : m ≤ d ∧ d ≤ maxLen) (hb : rng b) (hday : rng day) (hs1 : decide ((n : Int) ≤ 30) = true) (hs2 : decide ((m : Int) ≤ 30) = true) (hC : shC L n b = 0) (hD : mrgC L n M m = 0) :
    Calls Try.prog 11 #[.slice A n c, .slice B m d, .int .i64 b, .int .i64 day] w fun e w' => e = .returned (.bool true) ∧ Bl w w' := by
  have hn' := Nat.le_trans hn.1 hn.2
  have hm' := Nat.le_trans hm.1 hm.2
  have HS1 := Lib.hid (fun (X : World) (hX : Bl w X) => shifted_any A n c L b X (hA.below hX) hn')
  have HS2 := Lib.hid (fun (X : World) (hX : Bl w X) => rshifted_any A n c L b X (hA.below hX) hn')
  have HM1 := Lib.hid (fun (X : World) (hX : Bl w X) => merged_any A n c L B m d M X (hA.below hX) (hB.below hX) hn' hm')
  have HC1 := Lib.hid (fun (X : World) (hX : Bl w X) => corrections_any A n c L X (hA.below hX) hn')
  have HC2 := Lib.hid (fun (X : World) (hX : Bl w X) => corrections_any B m d M X (hB.below hX) hm')
  have HO1 := Lib.hid (fun (X : World) (hX : Bl w X) => offOf_any A n c L day X (hA.below hX) hn' hday)
  have HIL := Lib.hid (fun (X : World) (hX : Bl w X) => isEn_el hn.1 hn.2 (hA.below hX))
  have HN := Lib.hid hn'
  have HN2 := Lib.hid hm'
  have HDY := Lib.hid hday
  have HBB := Lib.hid hb
  clear hA hB hn hm hn' hm' hb hday
  have HSA := Lib.hid hs1
  have HSB := Lib.hid hs2
  have HC := Lib.hid hC
  have HD := Lib.hid hD
  clear hs1 hs2 hC hD
  have HCB := Lib.hid (sh_back HC.out)
  have HRB := Lib.hid (sh_iff.1 HC.out).2.1
  have HLV := Lib.hid (vl_iff.1 (sh_iff.1 HC.out).1).1
  have HVC := Lib.hid (vl_cat HD.out)
  have HVM := Lib.hid (mrg_iff.1 HD.out)
  have HLE := Lib.hid (cor_cat n L M m)
  have hl1 := cor_len L n
  have hl2 := cor_len M m
  have hl3 := cor_len (catE n L M) (n + m)
  have hl4 := HVM.out.2.2
  obtain ⟨c1, hc1⟩ : ∃ x, x = (corF L n).length := ⟨_, rfl⟩
  obtain ⟨c2, hc2⟩ : ∃ x, x = (corF M m).length := ⟨_, rfl⟩
  obtain ⟨c3, hc3⟩ : ∃ x, x = (corF (catE n L M) (n + m)).length := ⟨_, rfl⟩
  have hle := HLE.out
  rw [← hc1, ← hc2, ← hc3] at hle
  rw [← hc1] at hl1
  rw [← hc2] at hl2
  rw [← hc3] at hl3
  have HK1 := Lib.hid hc1
  have HK2 := Lib.hid hc2
  have HK3 := Lib.hid hc3
  have k1 : wrap64 ((c1 : Int) + (c2 : Int)) = (c1 : Int) + (c2 : Int) := IntWalk.wrap64_in _ (by omega)
  have k2 : IntKind.i64.wrap ((c1 : Int) + (c2 : Int)) = (c1 : Int) + (c2 : Int) := IntWalk.i64_in _ (by omega)
  have k3 : decide ((c3 : Int) < (c1 : Int) + (c2 : Int)) = false := decide_eq_false (by omega)
  have k4 : (c1 : Int) + (c2 : Int) ≤ (c3 : Int) := by omega
  clear hc1 hc2 hc3 HLE hl1 hl2 hl3 hl4 hle
  have kb1 : wrap64 (-b) = -b := IntWalk.wrap64_in _ (by have := HRB.out; omega)
  have kb2 : IntKind.i64.wrap (-b) = -b := IntWalk.i64_in _ (by have := HRB.out; omega)
  go_enter Try.func11, Try.ntmps11
  go_wp2_with fail
  refine (small_any A n c _ HN.out).mono ?_
  rintro e0 w0 ⟨rfl, rfl⟩
  rw [HSA.out]
  go_wp2_with fail
  refine (small_any B m d _ HN2.out).mono ?_
  rintro e00 w00 ⟨rfl, rfl⟩
  rw [HSB.out]
  go_wp2_with fail
  refine (HS1.out _ (Bl.rf _)).mono ?_
  intro e1 w1 hp
  obtain ⟨hb, A1, c10, rfl, p1, p2, p3⟩ := hp.good HC.out
  have B1 := Lib.hid (Bl.tr (Bl.rf _) hb)
  have HE1 := Lib.hid p3
  have HI1 := Lib.hid (isEn_el p1 p2 p3)
  clear p1 p2 p3
  clear hb hp
  go_wp2_with fail
  refine (HS2.out _ B1.out).mono ?_
  intro e2 w2 hp
  obtain ⟨hb, A2, c20, rfl, p1, p2, p3⟩ := hp.good HC.out
  have B2 := Lib.hid (Bl.tr (B1.out) hb)
  have HI2 := Lib.hid (isEn_el p1 p2 p3)
  have HI1 := Lib.hid (HI1.out.below hb)
  have HE1 := Lib.hid (HE1.out.below hb)
  clear p1 p2 p3
  clear hb hp
  have HY2 := Lib.hid HI2.out
  go_wp2_with fail
  refine (sameEn_any _ _ n 0 0 (shE L b) _ HI1.out HI2.out).mono ?_
  rintro e3 w3 ⟨rfl, hb⟩
  have B3 := Lib.hid (B2.out.tr hb)
  have HE1 := Lib.hid (HE1.out.below hb)
  clear hb
  go_wp2_with fail
  refine (HM1.out _ B3.out).mono ?_
  intro e4 w4 hp
  obtain ⟨hb, A4, c40, rfl, p1, p2, p3⟩ := hp.good HD.out
  have B4 := Lib.hid (Bl.tr (B3.out) hb)
  have HE1 := Lib.hid (HE1.out.below hb)
  have HE4 := Lib.hid p3
  clear p1 p2 p3
  clear hb hp
  go_wp2_with fail
  refine (HC1.out _ B4.out).mono ?_
  intro e5 w5 hp
  obtain ⟨hb, A5, c50, rfl⟩ := hp.good HVM.out.1
  have B5 := Lib.hid (Bl.tr (B4.out) hb)
  have HE1 := Lib.hid (HE1.out.below hb)
  have HE4 := Lib.hid (HE4.out.below hb)
  clear hb hp
  rw [← HK1.out]
  go_wp2_with fail
  refine (HC2.out _ B5.out).mono ?_
  intro e6 w6 hp
  obtain ⟨hb, A6, c60, rfl⟩ := hp.good HVM.out.2.1
  have B6 := Lib.hid (Bl.tr (B5.out) hb)
  have HE1 := Lib.hid (HE1.out.below hb)
  have HE4 := Lib.hid (HE4.out.below hb)
  clear hb hp
  rw [← HK2.out]
  go_wp2_with fail
  refine (corrections_any A4 (n + m) c40 (catE n L M) _ HE4.out (by have := HVM.out.2.2; unfold maxLen; omega)).mono ?_
  intro e7 w7 hp
  obtain ⟨hb, A7, c70, rfl⟩ := hp.good HVC.out
  have B7 := Lib.hid (Bl.tr (B6.out) hb)
  have HE1 := Lib.hid (HE1.out.below hb)
  clear hb hp
  rw [← HK3.out]
  go_wp2_with fail
  refine (shifted_any A1 n c10 (shE L b) (-b) _ HE1.out (by have := HLV.out; unfold maxLen; omega)).mono ?_
  intro e8 w8 hp
  obtain ⟨hb, A8, c80, rfl, p1, p2, p3⟩ := hp.good HCB.out.2
  have B8 := Lib.hid (Bl.tr (B7.out) hb)
  have HE1 := Lib.hid (HE1.out.below hb)
  rw [shE_back] at p3
  have HI8 := Lib.hid (isEn_el p1 p2 p3)
  clear p1 p2 p3
  clear hb hp
  go_wp2_with fail
  refine (sameEn_any _ _ n 0 0 L _ HI8.out (HIL.out _ B8.out)).mono ?_
  rintro e9 w9 ⟨rfl, hb⟩
  have B9 := Lib.hid (B8.out.tr hb)
  have HE1 := Lib.hid (HE1.out.below hb)
  clear hb
  by_cases g1 : day < 0
  · clear kb1 kb2
    go_wp2_with fail
    refine (awakeL_any _).mono ?_
    rintro ea wa ⟨rfl, ha⟩
    go_wp2_with fail
    go_ret
    exact ⟨rfl, (B9.out).tr ha⟩
  by_cases g2 : 182985 < day
  · clear kb1 kb2
    go_wp2_with fail
    refine (awakeL_any _).mono ?_
    rintro ea wa ⟨rfl, ha⟩
    go_wp2_with fail
    go_ret
    exact ⟨rfl, (B9.out).tr ha⟩
  have s1 : wrap64 (day + b) = day + b := IntWalk.wrap64_in _ (by have := HRB.out; omega)
  have s2 : IntKind.i64.wrap (day + b) = day + b := IntWalk.i64_in _ (by have := HRB.out; omega)
  by_cases g3 : day + b < 0
  · clear kb1 kb2
    go_wp2_with fail
    refine (awakeL_any _).mono ?_
    rintro ea wa ⟨rfl, ha⟩
    go_wp2_with fail
    go_ret
    exact ⟨rfl, (B9.out).tr ha⟩
  by_cases g4 : 182985 < day + b
  · clear kb1 kb2
    go_wp2_with fail
    refine (awakeL_any _).mono ?_
    rintro ea wa ⟨rfl, ha⟩
    go_wp2_with fail
    go_ret
    exact ⟨rfl, (B9.out).tr ha⟩
  have HOE := Lib.hid (off_sh HC.out (d := day) (by omega) (by omega))
  obtain ⟨z, hz⟩ : ∃ z, z = offP L n day := ⟨_, rfl⟩
  rw [← hz] at HOE HO1
  clear hz kb1 kb2
  obtain ⟨z1, z2⟩ := z
  go_wp2_with fail
  refine (HO1.out _ B9.out).mono ?_
  rintro e10 w10 ⟨rfl, hb⟩
  have B10 := Lib.hid (B9.out.tr hb)
  have HE1 := Lib.hid (HE1.out.below hb)
  clear hb
  go_wp2_with fail
  refine (offOf_any A1 n c10 (shE L b) (day + b) _ HE1.out (by have := HLV.out; unfold maxLen; omega) (by unfold rng; omega)).mono ?_
  rintro e11 w11 ⟨rfl, hb⟩
  rw [HOE.out]
  have B11 := Lib.hid (B10.out.tr hb)
  clear hb
  go_wp2_with fail
  refine (awakeL_any _).mono ?_
  rintro ea wa ⟨rfl, ha⟩
  go_wp2_with fail
  go_ret
  exact ⟨rfl, (B11.out).tr ha⟩
set_option maxRecDepth 100000 in
set_option maxHeartbeats 6400000 in
theorem shifted_walk (A : Option Addr) (n c : Nat) (L : Nat → En) (B : Option Addr) (m d : Nat) (M : Nat → En) (b day : Int) (w : World) (hA : El w A n L) (hB : El w B m M) (hn : n ≤ c ∧ c ≤ maxLen) (hm : m ≤ d ∧ d ≤ maxLen) (hb : rng b) (hday : rng day) :
    Calls Try.prog 11 #[.slice A n c, .slice B m d, .int .i64 b, .int .i64 day] w fun e w' => e = .returned (.bool true) ∧ Bl w w' := by
  by_cases hs : decide ((n : Int) ≤ 30) = true ∧ decide ((m : Int) ≤ 30) = true
  · by_cases hC : shC L n b = 0
    · by_cases hD : mrgC L n M m = 0
      · exact shifted_w11 A n c L B m d M b day w hA hB hn hm hb hday hs.1 hs.2 hC hD
      · exact shifted_w10 A n c L B m d M b day w hA hB hn hm hb hday hs.1 hs.2 hC hD
    · by_cases hD : mrgC L n M m = 0
      · exact shifted_w01 A n c L B m d M b day w hA hB hn hm hb hday hs.1 hs.2 hC hD
      · exact shifted_w00 A n c L B m d M b day w hA hB hn hm hb hday hs.1 hs.2 hC hD
  · exact shifted_w0 A n c L B m d M b day w hA hB hn hm hb hday hs
end Go.Proofs.Ytiaamhlcdnlahaa
