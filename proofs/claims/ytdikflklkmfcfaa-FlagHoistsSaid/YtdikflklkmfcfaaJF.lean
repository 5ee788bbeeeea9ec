/-
  The reference's Missed.
-/
import Derived.Test.YtdikflklkmfcfaaJE
namespace Go.Proofs.Ytdikflklkmfcfaa
open Go.RowKit
set_option linter.unusedSimpArgs false
set_option linter.unusedVariables false

theorem rmissed_no (A : Option Addr) (n c : Nat) (D : Nat → Int) (L : Int) (w : World) (hn : n ≤ c ∧ c ≤ maxLen) (hA : Sl w A n D) (hck : ckV n D L ≠ 0) :
    Calls Try.prog 11 #[.slice A n c, .int .i64 L] w fun e w' => e = .returned (.tuple #[.slice none 0 0, .int .i64 (ckV n D L)]) ∧ w = w' := by
  have H := rhoistsF_no A n c D L w hn hA hck
  obtain ⟨v, hv⟩ : ∃ v, v = ckV n D L := ⟨_, rfl⟩
  rw [← hv] at H hck ⊢
  have hne : (v != 0) = true := by simp [hck]
  have HH := Lib.hid H
  clear hck H hv
  go_enter Try.func11, Try.ntmps11
  go_wp2_with fail
  refine HH.out.mono ?_
  rintro e w1 ⟨rfl, rfl⟩
  go_wp2_with fail
  go_ret2
  exact ⟨rfl, rfl⟩
theorem els_pos {n : Nat} {D : Nat → Int} {L : Nat} {els : List (Value × List Nat)} (h : els.map Prod.snd = hstL n D L) : posB n D L = decide (0 < els.length) := by
  unfold posB
  rw [← h]
  cases els <;> simp
theorem pow_wrap {k : Nat} (h : k < 13) : IntKind.i64.wrap ((2 : Int) ^ k) = ((2 ^ k : Nat) : Int) := by
  have e : ((2 : Int) ^ k) = ((2 ^ k : Nat) : Int) := by simp
  rw [e]
  exact Lib.wrap_i64_small _ (by have := pow_f h; omega)
set_option maxHeartbeats 4000000 in
theorem rmissed_yes (A : Option Addr) (n c : Nat) (D : Nat → Int) (L : Nat) (w : World) (hn : n ≤ c ∧ c ≤ maxLen) (hA : Sl w A n D) (hv : vdB n D = true) (hL : L < 8192) :
    Calls Try.prog 11 #[.slice A n c, .int .i64 (L : Int)] w fun e w' => Bl w w' ∧ ((posB n D L = true ∧ e = .returned (.tuple #[.slice none 0 0, .int .i64 9])) ∨
      (posB n D L = false ∧ ∃ v, e = .returned (.tuple #[v, .int .i64 0]) ∧ w'.ownsRow w.heap.size 3 1 v (misL n D L 13).length (inN (misL n D L 13)))) := by
  obtain ⟨i0, hi0, hz0, hz1, hz2⟩ := info_parts7 int_info7
  have HI := Lib.hid (And.intro hi0 (And.intro hz0 (And.intro hz1 hz2)))
  clear hi0 hz0 hz1 hz2
  have HT := Lib.hid (fun L : Nat => hst_itr (L := L) hv)
  have HA := Lib.hid hA
  have HN := Lib.hid hn
  have HV := Lib.hid hv
  clear hA hn hv
  go_enter Try.func11, Try.ntmps11
  go_wp2_with fail
  refine (rhoistsF_yes A n c D L _ HN.out HA.out HV.out hL).mono ?_
  rintro e w1 ⟨B, cap, els, rfl, hels, -, hc1, hc2, hb⟩
  have HE := Lib.hid (els_pos hels)
  have B1 := Lib.hid hb
  unfold maxLen at hc2
  obtain ⟨m, hm⟩ : ∃ m, m = els.length := ⟨_, rfl⟩
  rw [← hm] at HE hc1 ⊢
  clear hels hb hm
  by_cases hp : 0 < m
  · go_wp2_with fail
    go_ret2
    exact ⟨B1.out, .inl ⟨by rw [HE.out, decide_eq_true hp], rfl⟩⟩
  · have HP := Lib.hid (show posB n D L = false by rw [HE.out, decide_eq_false hp])
    clear HE
    go_wp2_with fail
    go_loopw [8, 22] (fun v i wr => ∃ k : Nat, k ≤ 13 ∧ i = .int .i64 k ∧ wr.ownsRow w.heap.size 3 1 v (misL n D L k).length (inN (misL n D L k)) ∧ Bl w wr) (fun _ i _ => 13 - (RowKit.intOf i).toNat)
    case atStart => exact ⟨0, Nat.zero_le _, rfl, World.ownsRow_nil _ _ _ _, B1.out⟩
    case round =>
      obtain ⟨k, hk, rfl, hr, hb⟩ := hrel
      have HR := Lib.hid hr
      have HB := Lib.hid hb
      clear hr hb
      have zb := HB.out.size
      by_cases hlt : k < 13
      · have hml := misL_len n D L k
        have hpl := pls_lt hL hlt
        have hor := bits_or hL hlt
        have hsh := pow_wrap hlt
        obtain ⟨P, hP⟩ : ∃ P : Nat, P = 2 ^ k := ⟨_, rfl⟩
        rw [← hP] at hor hsh
        clear hP
        obtain ⟨q, hq⟩ : ∃ q, q = pls L k := ⟨_, rfl⟩
        rw [← hq] at hor hpl
        have HQ := Lib.hid hq
        clear hq
        obtain ⟨ml, hmle⟩ : ∃ ml, ml = misL n D L k := ⟨_, rfl⟩
        have HML := Lib.hid hmle
        rw [← hmle] at HR hml
        clear hmle
        obtain ⟨-, A2, cap2, rfl, -, hm2, -⟩ := own_sl7 HR.out
        unfold maxLen at hm2
        go_wp2_with fail
        refine (rhoists_any A n c D q _ HN.out (HA.out.below HB.out) HV.out hpl).mono ?_
        rintro e w2 ⟨v2, els2, rfl, hels2, hrr2, hb2⟩
        obtain ⟨B2, cap2b, rfl, hd1, hd2, -⟩ := row_shape hrr2.1
        rw [← HT.out q] at hels2
        have HE2 := Lib.hid (els_pos hels2)
        obtain ⟨m2, hm2e⟩ : ∃ m2, m2 = els2.length := ⟨_, rfl⟩
        rw [← hm2e] at HE2 hd1 ⊢
        unfold maxLen at hd2
        have HR2 := Lib.hid (own_same HR.out (fun g hg => hb2.block g (HR.out.lt g hg).2))
        have HB2 := Lib.hid (Bl.tr HB.out hb2)
        have zb2 := HB2.out.size
        clear hb2 hrr2 hels2 hm2e
        by_cases hp2 : 0 < m2
        · have HQP := Lib.hid (show posB n D (pls L k) = true by rw [← HQ.out, HE2.out, decide_eq_true hp2])
          go_wp2_with (at_builtin; refine wpList_append_own _ rfl _ _ _ rfl w.heap.size 3 i0 _ 1 8 Try.underlying22 HI.out.1 HI.out.2.1 HI.out.2.2.1 HI.out.2.2.2 rfl (by decide) _ _ _ rfl (HR2.out.alloc _) ⟨w2.heap.size, 0, none⟩ 1 1 [.int .i64 (k : Int)] rfl rfl (cell_one_new _ _ _) (by simp [Value.oneCell']) (by unfold maxLen; omega) (by omega) (by (try simp only [World.size_alloc]); omega) ?_; intro v' w3 hown hgrow _; obtain ⟨g3, cap3, rfl⟩ := ownsRow_succ hown)
          have B3 := Lib.hid (show Bl w w3 from Below.grown (HB2.out.trans (by go_grown)) hgrow (by (try simp only [World.size_alloc]); omega) (fun j hj => (HR2.out.lt j hj).1))
          have HO3 := Lib.hid hown
          clear hown hgrow
          go_wp2_with fail
          go_roundw
          case rel => exact ⟨k + 1, by omega, by go_num, by
            rw [misL, HQP.out, if_pos rfl, ← HML.out, List.length_append, List.length_singleton, show inN (ml ++ [k]) = inN ml ++ [.int .i64 (k : Int)] by simp [inN]]
            exact HO3.out, B3.out⟩
          case measure => simp [RowKit.intOf]; omega
        · have HQP := Lib.hid (show posB n D (pls L k) = false by rw [← HQ.out, HE2.out, decide_eq_false hp2])
          go_wp2_with fail
          go_roundw
          case rel => exact ⟨k + 1, by omega, by go_num, by rw [misL, HQP.out, ← HML.out]; exact HR2.out, HB2.out⟩
          case measure => simp [RowKit.intOf]; omega
      · obtain rfl : k = 13 := by omega
        go_wp2_with fail
        go_ret2
        exact ⟨HB.out, .inr ⟨HP.out, _, rfl, HR.out⟩⟩
end Go.Proofs.Ytdikflklkmfcfaa
