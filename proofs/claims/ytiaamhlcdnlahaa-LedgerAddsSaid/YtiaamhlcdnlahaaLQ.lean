/-
  Contracts of package ledger and of its reference: Added, Merged.
-/
import Derived.Test.YtiaamhlcdnlahaaLM
import Derived.Test.YtiaamhlcdnlahaaLF
namespace Go.Proofs.Ytiaamhlcdnlahaa
open Go.RowKit Go.Maps
set_option linter.unusedSimpArgs false
set_option linter.unusedVariables false

theorem vl_one (x : En) : vlB (fun _ => x) 1 = enB x := by simp [vlB, allE]
set_option maxRecDepth 100000 in
set_option maxHeartbeats 1600000 in
theorem added_any (A : Option Addr) (n c : Nat) (L : Nat → En) (x : En) (w : World) (hA : El w A n L) (hn : n ≤ maxLen) :
    Calls Try.prog 45 #[.slice A n c, encE x] w (MrgPost (mrgC L n (fun _ => x) 1) (n + 1) (catE n L (fun _ => x)) w) := by
  have HA := Lib.hid hA
  clear hA
  go_enter Try.func45, Try.ntmps45
  go_wp2_with fail
  refine (merged_any A n c L (some ⟨w.heap.size + 1, 0, none⟩) 1 1 (fun _ => x) _ (HA.out.below (by go_grown)) (el_one (by go_cell) (by go_cell) (by go_cell)) hn (by decide)).mono ?_
  rintro e1 w1 ⟨hb, ⟨hne, rfl⟩ | ⟨h0, v, rfl, hv⟩⟩
  · go_wp2_with fail
    go_ret2
    exact ⟨Bl.tr (by go_grown) hb, .inl ⟨hne, rfl⟩⟩
  · go_wp2_with fail
    go_ret2
    exact ⟨Bl.tr (by go_grown) hb, .inr ⟨h0, v, rfl, hv.mono (by (try simp only [World.size_alloc]); omega)⟩⟩
theorem own_cat0 {w : World} {base : Nat} {v : Value} {n : Nat} {T L : Nat → En} (h : w.ownsRow base 46 3 v (0 + n) (eC (catE 0 T L) (0 + n))) : w.ownsRow base 46 3 v n (eC L n) := by
  rw [Nat.zero_add] at h
  rw [← eC_congr (L := catE 0 T L) fun j _ => cat_zero j]
  exact h
set_option maxRecDepth 100000 in
set_option maxHeartbeats 3200000 in
theorem rmerged_any (A : Option Addr) (n c : Nat) (L : Nat → En) (B : Option Addr) (m d : Nat) (M : Nat → En) (w : World) (hA : El w A n L) (hB : El w B m M) (hn : n ≤ maxLen) (hm : m ≤ maxLen) :
    Calls Try.prog 48 #[.slice A n c, .slice B m d] w (MrgPost (mrgC L n M m) (n + m) (catE n L M) w) := by
  have H1 := Lib.hid (fun (X : World) (hb : Bl w X) => rvalidE_any A n c L X (hA.below hb) hn)
  have H2 := Lib.hid (fun (X : World) (hb : Bl w X) => rvalidE_any B m d M X (hB.below hb) hm)
  have HA := Lib.hid hA
  have HB := Lib.hid hB
  clear hA hB hn hm
  cases hv : vlB L n with
  | false =>
    have HV := Lib.hid hv
    have HC := Lib.hid (show mrgC L n M m = 1 from mrg_v1 hv)
    clear hv
    go_enter Try.func48, Try.ntmps48
    go_wp2_with fail
    refine (H1.out _ (Bl.rf _)).mono ?_
    rintro e1 w1 ⟨rfl, hb⟩
    rw [HV.out]
    go_wp2_with fail
    go_ret2
    exact ⟨hb, .inl ⟨by rw [HC.out]; decide, by rw [HC.out]; rfl⟩⟩
  | true =>
    have HV := Lib.hid hv
    clear hv
    cases hv : vlB M m with
    | false =>
      have HV2 := Lib.hid hv
      have HC := Lib.hid (show mrgC L n M m = 1 from mrg_v2 hv)
      clear hv
      go_enter Try.func48, Try.ntmps48
      go_wp2_with fail
      refine (H1.out _ (Bl.rf _)).mono ?_
      rintro e1 w1 ⟨rfl, hb⟩
      rw [HV.out]
      go_wp2_with fail
      refine (H2.out _ hb).mono ?_
      rintro e2 w2 ⟨rfl, hb2⟩
      rw [HV2.out]
      go_wp2_with fail
      go_ret2
      exact ⟨hb.tr hb2, .inl ⟨by rw [HC.out]; decide, by rw [HC.out]; rfl⟩⟩
    | true =>
      have HV2 := Lib.hid hv
      clear hv
      have n1 := (vl_iff.1 HV.out).1
      have m1 := (vl_iff.1 HV2.out).1
      have s1 : wrap64 ((n : Int) + (m : Int)) = (n : Int) + (m : Int) := by rw [IntWalk.wrap64_in _ (by omega)]
      have s2 : IntKind.i64.wrap ((n : Int) + (m : Int)) = (n : Int) + (m : Int) := by rw [IntWalk.i64_in _ (by omega)]
      by_cases hl : n + m ≤ 1000
      · have HC := Lib.hid (show mrgC L n M m = 0 from mrg_ok HV.out HV2.out hl)
        have hl' : ¬ (1000 < (n : Int) + (m : Int)) := by omega
        go_enter Try.func48, Try.ntmps48
        go_wp2_with fail
        refine (H1.out _ (Bl.rf _)).mono ?_
        rintro e1 w1 ⟨rfl, hb⟩
        rw [HV.out]
        go_wp2_with fail
        refine (H2.out _ hb).mono ?_
        rintro e2 w2 ⟨rfl, hb2⟩
        rw [HV2.out]
        have B2 := Lib.hid (hb.tr hb2)
        have z2 := B2.out.size
        clear hb hb2
        have HO0 := Lib.hid (World.ownsRow_lit (base := w.heap.size) (size := 3) (e := 46) w2 #[] 0 z2 (by decide) rfl)
        go_wp2_with (at_builtin; first | (have _t := HO0; refine wpList_append_el rfl _ _ rfl w.heap.size _ 0 L rfl HO0.out A n c L rfl (HA.out.below (B2.out.tr (by go_grown))) (by omega) (by (try simp only [World.size_alloc]); omega) ?_; intro v9 w9 hown9 hg9 hl9; have HO9 := Lib.hid (own_cat0 hown9); have B9 := Lib.hid (below_own (B2.out.tr (by go_grown)) HO0.out (Nat.le_refl _) hg9); have z9 := B9.out.size; clear hown9 hg9 hl9 HO0 _t) | (refine wpList_append_el rfl _ _ rfl w.heap.size _ n L rfl HO9.out B m d M rfl (HB.out.below B9.out) (by omega) z9 ?_; intro v8 w8 hown8 hg8 hl8))
        have HO8 := Lib.hid (isEn_of_own hown8)
        have B8 := Lib.hid (below_own B9.out HO9.out (Nat.le_refl _) hg8)
        go_ret2
        exact ⟨B8.out, .inr ⟨HC.out, _, rfl, HO8.out⟩⟩
      · have HC := Lib.hid (show mrgC L n M m = 4 from mrg_lim HV.out HV2.out hl)
        have hl' : (1000 : Int) < (n : Int) + (m : Int) := by omega
        go_enter Try.func48, Try.ntmps48
        go_wp2_with fail
        refine (H1.out _ (Bl.rf _)).mono ?_
        rintro e1 w1 ⟨rfl, hb⟩
        rw [HV.out]
        go_wp2_with fail
        refine (H2.out _ hb).mono ?_
        rintro e2 w2 ⟨rfl, hb2⟩
        rw [HV2.out]
        go_wp2_with fail
        go_ret2
        exact ⟨hb.tr hb2, .inl ⟨by rw [HC.out]; decide, by rw [HC.out]; rfl⟩⟩
end Go.Proofs.Ytiaamhlcdnlahaa
