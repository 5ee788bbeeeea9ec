/-
  Means and Flags of package flag and of its reference.
-/
import Derived.Test.YtdikflklkmfcfaaFG
namespace Go.Proofs.Ytdikflklkmfcfaa
open Go.RowKit
set_option linter.unusedSimpArgs false
set_option linter.unusedVariables false

/-- The digits that the first k flags mean. -/
def dgs (H : Nat → Int) : Nat → List Nat
  | 0 => []
  | k + 1 => dgs H k ++ [digF (H k).toNat (dgs H k)]
theorem dgs_len (H : Nat → Int) (k : Nat) : (dgs H k).length = k := by
  induction k with
  | zero => rfl
  | succ k ih => simp [dgs, ih]
/-- The set of the first k flags. -/
def flgF (H : Nat → Int) : Nat → Nat
  | 0 => 0
  | k + 1 => pls (flgF H k) (H k).toNat
theorem okF_nat {H : Nat → Int} {k : Nat} (h : okF H k = true) : ∃ f : Nat, H k = f ∧ f < 13 ∧ f < 10 + k := by
  simp only [okF, Bool.and_eq_true, inB_iff, decide_eq_true_eq] at h
  exact ⟨(H k).toNat, by omega, by omega, by omega⟩
theorem flgF_lt {H : Nat → Int} {n k : Nat} (h : hoTo H n = true) (hk : k ≤ n) : flgF H k < 8192 := by
  induction k with
  | zero => show 0 < 8192; omega
  | succ k ih =>
    obtain ⟨f, e, hf, _⟩ := okF_nat (hoTo_at h (k := k) (by omega))
    rw [flgF, e]
    exact pls_lt (ih (by omega)) (by simpa using hf)
theorem vhB_iff {n : Nat} {H : Nat → Int} : vhB n H = true ↔ (1 ≤ n ∧ n ≤ 4) ∧ hoTo H n = true := by
  unfold vhB; rw [Bool.and_eq_true, inB_iff]; constructor <;> (intro ⟨a, b⟩; exact ⟨by omega, b⟩)
set_option maxRecDepth 100000 in
set_option maxHeartbeats 4000000 in
theorem means7_yes (A : Option Addr) (n c : Nat) (H : Nat → Int) (w : World) (hn : n ≤ maxLen) (hA : Sl w A n H) (hv : vhB n H = true) :
    Calls Try.prog 15 #[.slice A n c] w fun e w' => ∃ v, e = .returned (.tuple #[v, .int .i64 0]) ∧ w'.ownsRow w.heap.size 3 1 v n (inN (dgs H n)) ∧ Bl w w' := by
  obtain ⟨i0, hi0, hz0, hz1, hz2⟩ := info_parts7 int_info7
  have HI := Lib.hid (And.intro hi0 (And.intro hz0 (And.intro hz1 hz2)))
  clear hi0 hz0 hz1 hz2
  have HA := Lib.hid hA
  have HN := Lib.hid hn
  obtain ⟨⟨h1, h4⟩, hho⟩ := vhB_iff.1 hv
  have HV := Lib.hid hho
  have HVB := Lib.hid hv
  clear hA hv hho hn
  go_enter Try.func15, Try.ntmps15
  go_wp2_with fail
  refine (validHoist_any A n c H _ HN.out HA.out).mono ?_
  rintro e w1 ⟨rfl, rfl⟩
  rw [HVB.out]
  go_wp2_with (at_make; refine wpList_make_own w rfl _ _ 22 rfl w.heap.size 3 i0 _ 1 Try.underlying22 HI.out.1 HI.out.2.1 HI.out.2.2.1 .i64 .i64 _ n rfl rfl rfl (by rw [HI.out.2.2.2]; omega) (by unfold maxLen; omega) (Nat.le_refl _) ?_; intro w2 hown hgr)
  have R0 := Lib.hid hown
  have B0 := Lib.hid (Below.grown (Below.refl w.heap.size w) hgr (Nat.le_refl _) (fun j e => by cases e))
  clear hown hgr
  go_loopw [4, 15] (fun v i wr => ∃ k : Nat, k ≤ n ∧ i = .int .i64 k ∧ wr.ownsRow w.heap.size 3 1 v k (inN (dgs H k)) ∧ Bl w wr) (fun _ i _ => n - (RowKit.intOf i).toNat)
  case atStart => exact ⟨0, Nat.zero_le _, rfl, R0.out, B0.out⟩
  case round =>
    obtain ⟨k, hk, rfl, hr, hb⟩ := hrel
    have HR := Lib.hid hr
    have HB := Lib.hid hb
    clear hr hb
    have zb := HB.out.size
    by_cases hlt : k < n
    · obtain ⟨b, off, rfl, hbb, hc⟩ := (HA.out.below HB.out) (by omega)
      have c1 := hc k hlt
      clear hc
      obtain ⟨f, hf, hf13, hfk⟩ := okF_nat (hoTo_at HV.out hlt)
      have HF := Lib.hid hf
      rw [hf] at c1
      clear hf
      obtain ⟨hdl, A2, cap2, rfl, hcap2, hmax2, hA2⟩ := own_sl7 HR.out
      have HDL := Lib.hid hdl
      have HA2 := Lib.hid hA2
      obtain ⟨g, hg⟩ : ∃ g, g = digF f (dgs H k) := ⟨_, rfl⟩
      have HG := Lib.hid hg
      clear hg hA2 hdl
      unfold maxLen at hmax2
      go_wp2_with fail
      refine (meaning_any f (dgs H k) A2 k cap2 _ hf13 HDL.out HA2.out hfk).mono ?_
      rintro e w1 ⟨rfl, rfl⟩
      rw [← HG.out]
      go_wp2_with (at_builtin; refine wpList_append_own _ rfl _ _ _ rfl w.heap.size 3 i0 _ 1 8 Try.underlying22 HI.out.1 HI.out.2.1 HI.out.2.2.1 HI.out.2.2.2 rfl (by decide) _ _ _ rfl (HR.out.alloc _) ⟨wr.heap.size, 0, none⟩ 1 1 [.int .i64 (g : Int)] rfl rfl (cell_one_new _ _ _) (by simp [Value.oneCell']) (by unfold maxLen; omega) (by omega) (by have := HB.out.size; (try simp only [World.size_alloc]); omega) ?_; intro v' w3 hown hgrow _)
      have B3 : Bl w w3 := Below.grown (HB.out.trans (by go_grown)) hgrow (by have := HB.out.size; (try simp only [World.size_alloc]); omega) (fun j hj => (HR.out.lt j hj).1)
      have HO3 := Lib.hid hown
      clear hown hgrow
      go_wp2_with fail
      go_roundw
      case rel => exact ⟨k + 1, by omega, by go_num, by rw [show dgs H (k + 1) = dgs H k ++ [g] by rw [dgs, HF.out, Int.toNat_natCast, ← HG.out]]; have h := HO3.out; rw [show inN (dgs H k ++ [g]) = inN (dgs H k) ++ [.int .i64 (g : Int)] by simp [inN]]; exact h, B3⟩
      case measure => simp [RowKit.intOf]; omega
    · obtain rfl : k = n := by omega
      go_wp2_with fail
      go_ret2
      exact ⟨_, rfl, HR.out, HB.out⟩
theorem means7_no (A : Option Addr) (n c : Nat) (H : Nat → Int) (w : World) (hn : n ≤ maxLen) (hA : Sl w A n H) (hv : vhB n H = false) :
    Calls Try.prog 15 #[.slice A n c] w fun e w' => e = .returned (.tuple #[.slice none 0 0, .int .i64 1]) ∧ w = w' := by
  have HVB := Lib.hid hv
  clear hv
  go_enter Try.func15, Try.ntmps15
  go_wp2_with fail
  refine (validHoist_any A n c H _ hn hA).mono ?_
  rintro e w1 ⟨rfl, rfl⟩
  rw [HVB.out]
  go_wp2_with fail
  go_ret2
  exact ⟨rfl, rfl⟩
set_option maxRecDepth 100000 in
set_option maxHeartbeats 4000000 in
theorem rmns_any (A : Option Addr) (n c : Nat) (H : Nat → Int) (w : World) (hA : Sl w A n H) (hv : vhB n H = true) :
    Calls Try.prog 38 #[.slice A n c] w fun e w' => ∃ v, e = .returned v ∧ w'.ownsRow w.heap.size 3 1 v n (inN (dgs H n)) ∧ Bl w w' := by
  obtain ⟨i0, hi0, hz0, hz1, hz2⟩ := info_parts7 int_info7
  have HI := Lib.hid (And.intro hi0 (And.intro hz0 (And.intro hz1 hz2)))
  clear hi0 hz0 hz1 hz2
  have HA := Lib.hid hA
  obtain ⟨⟨h1, h4⟩, hho⟩ := vhB_iff.1 hv
  have HV := Lib.hid hho
  clear hA hv hho
  go_enter Try.func38, Try.ntmps38
  go_wp2_with fail
  go_loopw [3, 8] (fun v i wr => ∃ k : Nat, k ≤ n ∧ i = .int .i64 k ∧ wr.ownsRow w.heap.size 3 1 v k (inN (dgs H k)) ∧ Bl w wr) (fun _ i _ => n - (RowKit.intOf i).toNat)
  case atStart => exact ⟨0, Nat.zero_le _, rfl, World.ownsRow_nil _ _ _ _, Below.refl _ _⟩
  case round =>
    obtain ⟨k, hk, rfl, hr, hb⟩ := hrel
    have HR := Lib.hid hr
    have HB := Lib.hid hb
    clear hr hb
    have zb := HB.out.size
    by_cases hlt : k < n
    · obtain ⟨b, off, rfl, hbb, hc⟩ := (HA.out.below HB.out) (by omega)
      have c1 := hc k hlt
      clear hc
      obtain ⟨f, hf, hf13, hfk⟩ := okF_nat (hoTo_at HV.out hlt)
      have HF := Lib.hid hf
      rw [hf] at c1
      clear hf
      obtain ⟨hdl, A2, cap2, rfl, hcap2, hmax2, hA2⟩ := own_sl7 HR.out
      have HDL := Lib.hid hdl
      have HA2 := Lib.hid hA2
      obtain ⟨g, hg⟩ : ∃ g, g = digF f (dgs H k) := ⟨_, rfl⟩
      have HG := Lib.hid hg
      clear hg hA2 hdl
      unfold maxLen at hmax2
      by_cases hf10 : f < 10
      · obtain rfl : g = f := by rw [HG.out, digF, if_pos hf10]
        go_wp2_with (at_builtin; refine wpList_append_own _ rfl _ _ _ rfl w.heap.size 3 i0 _ 1 8 Try.underlying22 HI.out.1 HI.out.2.1 HI.out.2.2.1 HI.out.2.2.2 rfl (by decide) _ _ _ rfl (HR.out.alloc _) ⟨wr.heap.size, 0, none⟩ 1 1 [.int .i64 (g : Int)] rfl rfl (cell_one_new _ _ _) (by simp [Value.oneCell']) (by unfold maxLen; omega) (by omega) (by have := HB.out.size; (try simp only [World.size_alloc]); omega) ?_; intro v' w3 hown hgrow _)
        have B3 : Bl w w3 := Below.grown (HB.out.trans (by go_grown)) hgrow (by have := HB.out.size; (try simp only [World.size_alloc]); omega) (fun j hj => (HR.out.lt j hj).1)
        have HO3 := Lib.hid hown
        clear hown hgrow
        go_wp2_with fail
        go_roundw
        case rel => exact ⟨k + 1, by omega, by go_num, by rw [show dgs H (k + 1) = dgs H k ++ [g] by rw [dgs, HF.out, Int.toNat_natCast, ← HG.out]]; have h := HO3.out; rw [show inN (dgs H k ++ [g]) = inN (dgs H k) ++ [.int .i64 (g : Int)] by simp [inN]]; exact h, B3⟩
        case measure => simp [RowKit.intOf]; omega
      · obtain ⟨b2, off2, rfl, hbb2, hc2⟩ := HA2.out (by omega)
        obtain ⟨j, hj⟩ : ∃ j, f = j + 10 := ⟨f - 10, by omega⟩
        subst hj
        have c2 := hc2 j (by omega)
        have eg : gI (dgs H k) j = (g : Int) := by rw [HG.out, digF, if_neg hf10, gI]; simp
        rw [eg] at c2
        clear hc2 eg
        have i1 : (((j + 10 : Nat) : Int) - 10).toNat = j := by omega
        have i2 : j < k := by omega
        have i3 : (0 : Int) ≤ ((j + 10 : Nat) : Int) - 10 := by omega
        have i4 : ((j + 10 : Nat) : Int) - 10 < (k : Int) := by omega
        have i5 : (10 : Int) ≤ ((j + 10 : Nat) : Int) := by omega
        go_wp2_with (at_builtin; refine wpList_append_own _ rfl _ _ _ rfl w.heap.size 3 i0 _ 1 8 Try.underlying22 HI.out.1 HI.out.2.1 HI.out.2.2.1 HI.out.2.2.2 rfl (by decide) _ _ _ rfl (HR.out.alloc _) ⟨wr.heap.size, 0, none⟩ 1 1 [.int .i64 (g : Int)] rfl rfl (cell_one_new _ _ _) (by simp [Value.oneCell']) (by unfold maxLen; omega) (by omega) (by have := HB.out.size; (try simp only [World.size_alloc]); omega) ?_; intro v' w3 hown hgrow _)
        have B3 : Bl w w3 := Below.grown (HB.out.trans (by go_grown)) hgrow (by have := HB.out.size; (try simp only [World.size_alloc]); omega) (fun j hj => (HR.out.lt j hj).1)
        have HO3 := Lib.hid hown
        clear hown hgrow
        go_wp2_with fail
        go_roundw
        case rel => exact ⟨k + 1, by omega, by go_num, by rw [show dgs H (k + 1) = dgs H k ++ [g] by rw [dgs, HF.out, Int.toNat_natCast, ← HG.out]]; have h := HO3.out; rw [show inN (dgs H k ++ [g]) = inN (dgs H k) ++ [.int .i64 (g : Int)] by simp [inN]]; exact h, B3⟩
        case measure => simp [RowKit.intOf]; omega
    · obtain rfl : k = n := by omega
      go_wp2_with fail
      go_ret
      exact ⟨_, rfl, HR.out, HB.out⟩
/-- What Flags returns. -/
def flR (n : Nat) (H : Nat → Int) : Value := if vhB n H = true then .tuple #[.int .i64 ((flgF H n : Nat) : Int), .int .i64 0] else .tuple #[.int .i64 0, .int .i64 1]
set_option maxHeartbeats 8000000 in
theorem flags7_any (A : Option Addr) (n c : Nat) (H : Nat → Int) (w : World) (hn : n ≤ maxLen) (hA : Sl w A n H) :
    Calls Try.prog 16 #[.slice A n c] w fun e w' => e = .returned (flR n H) ∧ w = w' := by
  have HN := Lib.hid hn
  have HA := Lib.hid hA
  clear hA hn
  cases hv : vhB n H with
  | false =>
    have HVB := Lib.hid hv
    have HR := Lib.hid (show flR n H = .tuple #[.int .i64 0, .int .i64 1] by rw [flR, hv]; rfl)
    clear hv
    go_enter Try.func16, Try.ntmps16
    go_wp2_with fail
    refine (validHoist_any A n c H _ HN.out HA.out).mono ?_
    rintro e w1 ⟨rfl, rfl⟩
    rw [HVB.out]
    go_wp2_with fail
    go_ret2
    exact ⟨HR.out ▸ rfl, rfl⟩
  | true =>
    have HVB := Lib.hid hv
    have HR := Lib.hid (show flR n H = .tuple #[.int .i64 ((flgF H n : Nat) : Int), .int .i64 0] by rw [flR, hv]; rfl)
    obtain ⟨⟨h1, h4⟩, hho⟩ := vhB_iff.1 hv
    have HV := Lib.hid hho
    clear hv hho
    go_enter Try.func16, Try.ntmps16
    go_wp2_with fail
    refine (validHoist_any A n c H _ HN.out HA.out).mono ?_
    rintro e w1 ⟨rfl, rfl⟩
    rw [HVB.out]
    go_wp2_with fail
    go_loop [4, 12] (fun l i => ∃ k : Nat, k ≤ n ∧ i = .int .i64 k ∧ l = .int .i64 ((flgF H k : Nat) : Int)) (fun _ i => n - (intOf i).toNat)
    case atStart => exact ⟨0, Nat.zero_le _, rfl, rfl⟩
    case round =>
      obtain ⟨k, hk, rfl, rfl⟩ := hrel
      by_cases hlt : k < n
      · obtain ⟨b, off, rfl, hbb, hc⟩ := HA.out (by omega)
        have c1 := hc k hlt
        clear hc
        obtain ⟨f, hf, hf13, hfk⟩ := okF_nat (hoTo_at HV.out hlt)
        have hlf := flgF_lt HV.out (k := k) (by omega)
        have HS := Lib.hid (show flgF H (k + 1) = pls (flgF H k) f by rw [flgF, hf]; simp)
        rw [hf] at c1
        clear hf
        obtain ⟨L, hL⟩ : ∃ L, L = flgF H k := ⟨_, rfl⟩
        rw [← hL] at hlf HS ⊢
        clear hL
        go_wp2_with fail
        refine (plus_any L f _ hlf hf13).mono ?_
        rintro e w1 ⟨rfl, rfl⟩
        go_wp2_with fail
        go_round
        case rel => exact ⟨k + 1, by omega, by go_num, by rw [HS.out]⟩
        case measure => simp [intOf]; omega
      · obtain rfl : k = n := by omega
        go_wp2_with fail
        go_ret2
        exact ⟨HR.out ▸ rfl, rfl⟩