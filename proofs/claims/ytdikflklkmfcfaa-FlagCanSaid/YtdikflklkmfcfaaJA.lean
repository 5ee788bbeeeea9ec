/-
  What a set of flags lacks: isPossible and Missed of package flag.
-/
import Derived.Test.YtdikflklkmfcfaaFW
namespace Go.Proofs.Ytdikflklkmfcfaa
open Go.RowKit
set_option linter.unusedSimpArgs false
set_option linter.unusedVariables false

/-- A number can be hoisted. -/
def posB (n : Nat) (D : Nat → Int) (L : Nat) : Bool := !(hstL n D L).isEmpty
theorem possible_any (A : Option Addr) (n c : Nat) (D : Nat → Int) (L : Nat) (w : World) (hn : n ≤ maxLen) (hA : Sl w A n D) (hv : vdB n D = true) (hL : L < 8192) :
    Calls Try.prog 26 #[.slice A n c, .int .i64 (L : Int)] w fun e w' => e = .returned (.bool (posB n D L)) ∧ Bl w w' := by
  go_enter Try.func26, Try.ntmps26
  go_wp2_with fail
  refine (with_yes A n c D L _ hn hA hv hL).mono ?_
  rintro e w1 ⟨hb, ⟨ht, rfl⟩ | ⟨h, r, g, cp, ht, rfl, -⟩⟩
  · have HP := Lib.hid (show posB n D L = false by rw [posB, ht]; rfl)
    clear ht
    go_wp2_with fail
    go_ret
    exact ⟨ret_bool HP.out.symm, hb⟩
  · have HP := Lib.hid (show posB n D L = true by rw [posB, ht]; rfl)
    clear ht
    go_wp2_with fail
    go_ret
    exact ⟨ret_bool HP.out.symm, hb⟩
/-- The flags below k each of which alone makes it possible. -/
def misL (n : Nat) (D : Nat → Int) (L : Nat) : Nat → List Nat
  | 0 => []
  | k + 1 => if posB n D (pls L k) then misL n D L k ++ [k] else misL n D L k
theorem misL_len (n : Nat) (D : Nat → Int) (L k : Nat) : (misL n D L k).length ≤ k := by
  induction k with
  | zero => simp [misL]
  | succ k ih => rw [misL]; split <;> (try simp only [List.length_append, List.length_singleton]) <;> omega
theorem missed_no (A : Option Addr) (n c : Nat) (D : Nat → Int) (L : Int) (w : World) (hn : n ≤ maxLen) (hA : Sl w A n D) (hck : ckV n D L ≠ 0) :
    Calls Try.prog 10 #[.slice A n c, .int .i64 L] w fun e w' => e = .returned (.tuple #[.slice none 0 0, .int .i64 (ckV n D L)]) ∧ w = w' := by
  obtain ⟨v, hv⟩ : ∃ v, v = ckV n D L := ⟨_, rfl⟩
  have HV := Lib.hid hv
  rw [← hv] at hck ⊢
  have hne : (v != 0) = true := by simp [hck]
  clear hv hck
  go_enter Try.func10, Try.ntmps10
  go_wp2_with fail
  refine (check_any A n c D L _ hn hA).mono ?_
  rintro e w1 ⟨rfl, rfl⟩
  rw [← HV.out]
  go_wp2_with fail
  go_ret2
  exact ⟨rfl, rfl⟩
set_option maxHeartbeats 4000000 in
theorem missed_yes (A : Option Addr) (n c : Nat) (D : Nat → Int) (L : Nat) (w : World) (hn : n ≤ maxLen) (hA : Sl w A n D) (hv : vdB n D = true) (hL : L < 8192) :
    Calls Try.prog 10 #[.slice A n c, .int .i64 (L : Int)] w fun e w' => Bl w w' ∧ ((posB n D L = true ∧ e = .returned (.tuple #[.slice none 0 0, .int .i64 9])) ∨
      (posB n D L = false ∧ ∃ v, e = .returned (.tuple #[v, .int .i64 0]) ∧ w'.ownsRow w.heap.size 3 1 v (misL n D L 13).length (inN (misL n D L 13)))) := by
  obtain ⟨i0, hi0, hz0, hz1, hz2⟩ := info_parts7 int_info7
  have HI := Lib.hid (And.intro hi0 (And.intro hz0 (And.intro hz1 hz2)))
  clear hi0 hz0 hz1 hz2
  have HA := Lib.hid hA
  have HN := Lib.hid hn
  have HV := Lib.hid hv
  have HCK := Lib.hid (show ckV n D (L : Int) = 0 by rw [ckV, hv, inB_iff.2 (by omega : (0 : Int) ≤ (L : Int) ∧ (L : Int) ≤ 8191)]; rfl)
  clear hA hn hv
  cases hp : posB n D L with
  | true =>
    have HP := Lib.hid hp
    clear hp
    go_enter Try.func10, Try.ntmps10
    go_wp2_with fail
    refine (check_any A n c D (L : Int) _ HN.out HA.out).mono ?_
    rintro e w1 ⟨rfl, rfl⟩
    rw [HCK.out]
    go_wp2_with fail
    refine (possible_any A n c D L _ HN.out HA.out HV.out hL).mono ?_
    rintro e w1 ⟨rfl, hb⟩
    rw [HP.out]
    go_wp2_with fail
    go_ret2
    exact ⟨hb, .inl ⟨by simp, rfl⟩⟩
  | false =>
    have HP := Lib.hid hp
    clear hp
    go_enter Try.func10, Try.ntmps10
    go_wp2_with fail
    refine (check_any A n c D (L : Int) _ HN.out HA.out).mono ?_
    rintro e w1 ⟨rfl, rfl⟩
    rw [HCK.out]
    go_wp2_with fail
    refine (possible_any A n c D L _ HN.out HA.out HV.out hL).mono ?_
    rintro e w1 ⟨rfl, hb⟩
    rw [HP.out]
    have B1 := Lib.hid hb
    clear hb
    go_wp2_with fail
    go_loopw [7, 18] (fun v i wr => ∃ k : Nat, k ≤ 13 ∧ i = .int .i64 k ∧ wr.ownsRow w.heap.size 3 1 v (misL n D L k).length (inN (misL n D L k)) ∧ Bl w wr) (fun _ i _ => 13 - (RowKit.intOf i).toNat)
    case atStart => exact ⟨0, Nat.zero_le _, rfl, World.ownsRow_nil _ _ _ _, B1.out⟩
    case round =>
      obtain ⟨k, hk, rfl, hr, hb⟩ := hrel
      have HR := Lib.hid hr
      have HB := Lib.hid hb
      clear hr hb
      have zb := HB.out.size
      by_cases hlt : k < 13
      · have hml := misL_len n D L k
        have hpl := pls_lt hL hlt
        obtain ⟨ml, hmle⟩ : ∃ ml, ml = misL n D L k := ⟨_, rfl⟩
        have HML := Lib.hid hmle
        rw [← hmle] at HR hml
        clear hmle
        obtain ⟨-, A2, cap2, rfl, -, hm2, -⟩ := own_sl7 HR.out
        unfold maxLen at hm2
        cases hq : posB n D (pls L k) with
        | false =>
          have HQ := Lib.hid hq
          clear hq
          go_wp2_with fail
          refine (plus_any L k _ hL hlt).mono ?_
          rintro e w2 ⟨rfl, rfl⟩
          go_wp2_with fail
          refine (possible_any A n c D (pls L k) _ HN.out (HA.out.below HB.out) HV.out hpl).mono ?_
          rintro e w2 ⟨rfl, hb2⟩
          rw [HQ.out]
          have HR2 := Lib.hid (own_same HR.out (fun g hg => hb2.block g (HR.out.lt g hg).2))
          have HB2 := Lib.hid (Bl.tr HB.out hb2)
          clear hb2
          go_wp2_with fail
          go_roundw
          case rel => exact ⟨k + 1, by omega, by go_num, by rw [misL, HQ.out, ← HML.out]; exact HR2.out, HB2.out⟩
          case measure => simp [RowKit.intOf]; omega
        | true =>
          have HQ := Lib.hid hq
          clear hq
          go_wp2_with fail
          refine (plus_any L k _ hL hlt).mono ?_
          rintro e w2 ⟨rfl, rfl⟩
          go_wp2_with fail
          refine (possible_any A n c D (pls L k) _ HN.out (HA.out.below HB.out) HV.out hpl).mono ?_
          rintro e w2 ⟨rfl, hb2⟩
          rw [HQ.out]
          have HR2 := Lib.hid (own_same HR.out (fun g hg => hb2.block g (HR.out.lt g hg).2))
          have HB2 := Lib.hid (Bl.tr HB.out hb2)
          have zb2 := HB2.out.size
          clear hb2
          go_wp2_with (at_builtin; refine wpList_append_own _ rfl _ _ _ rfl w.heap.size 3 i0 _ 1 8 Try.underlying22 HI.out.1 HI.out.2.1 HI.out.2.2.1 HI.out.2.2.2 rfl (by decide) _ _ _ rfl (HR2.out.alloc _) ⟨w2.heap.size, 0, none⟩ 1 1 [.int .i64 (k : Int)] rfl rfl (cell_one_new _ _ _) (by simp [Value.oneCell']) (by unfold maxLen; omega) (by omega) (by (try simp only [World.size_alloc]); omega) ?_; intro v' w3 hown hgrow _; obtain ⟨g3, cap3, rfl⟩ := ownsRow_succ hown)
          have B3 := Lib.hid (show Bl w w3 from Below.grown (HB2.out.trans (by go_grown)) hgrow (by (try simp only [World.size_alloc]); omega) (fun j hj => (HR2.out.lt j hj).1))
          have HO3 := Lib.hid hown
          clear hown hgrow
          go_wp2_with fail
          go_roundw
          case rel => exact ⟨k + 1, by omega, by go_num, by
            rw [misL, HQ.out, if_pos rfl, ← HML.out, List.length_append, List.length_singleton, show inN (ml ++ [k]) = inN ml ++ [.int .i64 (k : Int)] by simp [inN]]
            exact HO3.out, B3.out⟩
          case measure => simp [RowKit.intOf]; omega
      · obtain rfl : k = 13 := by omega
        go_wp2_with fail
        go_ret2
        exact ⟨HB.out, .inr ⟨by simp, _, rfl, HR.out⟩⟩
end Go.Proofs.Ytdikflklkmfcfaa
