/-
  Contracts of the reference of package night: Valid, ValidClouds, isClear.
-/
import Derived.Test.YtbmenpfpeadckaaNM
namespace Go.Proofs.Ytbmenpfpeadckaa
open Go.RowKit
set_option linter.unusedSimpArgs false
set_option linter.unusedVariables false

theorem rv_no {L : Nat → Ch} {k n : Nat} (hk : k < n) (h : vcB (L k) = false ∨ anyTo (fun j => rpB (L j) (L k)) k = true) : rvB L n = false := by
  induction n with
  | zero => omega
  | succ n ih =>
    by_cases e : k = n
    · subst e; rcases h with h | h <;> simp [rvB, h]
    · simp [rvB, ih (by omega)]
set_option maxRecDepth 100000 in
set_option maxHeartbeats 3200000 in
theorem rvalid8_any (A : Option Addr) (n c : Nat) (L : Nat → Ch) (w : World) (hA : Chl w A n L) (hS : ∀ j, j < n → (L j).nm.size ≤ maxLen) (hn : n ≤ c) (hc : c ≤ maxLen) :
    Calls Try.prog 76 #[.slice A n c] w fun e w' => e = .returned (.bool (vdB L n)) ∧ Bl w w' := by
  have HA := Lib.hid hA
  have HS := Lib.hid hS
  have HNO := Lib.hid (fun k (hk : k < n) (h : vcB (L k) = false ∨ anyTo (fun j => rpB (L j) (L k)) k = true) => (show vdB L n = false by rw [← rv_vd, rv_no hk h]; rfl))
  have HYE := Lib.hid (show rvB L n = true → vdB L n = decide ((n : Int) ≤ 20) from fun h => by rw [← rv_vd, h, Bool.true_and, Bool.eq_iff_iff]; simp; omega)
  clear hA hS
  unfold maxLen at hc
  go_enter Try.func76, Try.ntmps76
  go_wp2_with fail
  go_loopw [9] (fun i wr => ∃ k : Nat, k ≤ n ∧ i = .int .i64 k ∧ Hid (rvB L k = true) ∧ Bl w wr) (fun i _ => n - (RowKit.intOf i).toNat)
  case atStart => exact ⟨0, Nat.zero_le _, rfl, rfl, Bl.rf _⟩
  case round =>
    obtain ⟨k, hk, rfl, HO, hB⟩ := hrel
    have zB := hB.size
    by_cases hlt : k < n
    · obtain ⟨b, off, rfl, hbb, hcc⟩ := (HA.out.below hB) (by omega)
      obtain ⟨c0, c1, c2, c3, c4⟩ := hcc k hlt
      clear hcc
      have HN := Lib.hid (HNO.out k hlt)
      have HS1 := Lib.hid (fun (q : vcB (L k) = true) (r : anyTo (fun j => rpB (L j) (L k)) k = false) => (show rvB L (k + 1) = true by rw [rvB, HO.out, q, r]; rfl))
      have hs := HS.out k hlt
      obtain ⟨x, hx⟩ : ∃ x, x = L k := ⟨_, rfl⟩
      rw [← hx] at c0 c1 c2 c3 c4 HN HS1 hs
      have HXS := Lib.hid hs
      clear hx hs
      go_wp2_with fail
      refine (validChance_any x _ HXS.out).mono ?_
      rintro e1 w1 ⟨rfl, hb⟩
      have x0 := kcb hb (b := wr.heap.size) (o := 0) (v := .string x.nm) (by go_cell)
      have x1 := kcb hb (b := wr.heap.size) (o := 1) (v := .int .i64 x.fr) (by go_cell)
      have BW : Bl wr w1 := Below.trans (by go_grown) (hb.mono (by (try simp only [World.size_alloc]); omega))
      have l1 := ltb x0
      clear hb
      cases hv : vcB x with
      | false =>
        have HR := Lib.hid (HN.out (.inl hv))
        go_wp2_with fail
        go_ret
        exact ⟨ret_boolN HR.out.symm, hB.tr BW⟩
      | true =>
        have HV := Lib.hid hv
        clear hv
        have B1 := hB.tr BW
        have HC := Lib.hid (HA.out.below B1)
        have hkc : k ≤ c := by omega
        go_wp2_with fail
        obtain ⟨Wo, hWo⟩ : ∃ Wo, Wo = w1 := ⟨_, rfl⟩
        subst hWo
        go_loopw [21] (fun i wz => ∃ j : Nat, j ≤ k ∧ i = .int .i64 j ∧ Hid (anyTo (fun j => rpB (L j) x) j = false) ∧ Bl Wo wz) (fun i _ => k - (RowKit.intOf i).toNat)
        case atStart => exact ⟨0, Nat.zero_le _, rfl, rfl, Bl.rf _⟩
        case round =>
          obtain ⟨j, hj, rfl, HJ, hZ⟩ := hrel
          have zZ := hZ.size
          by_cases hjk : j < k
          · obtain ⟨b', off', eA, hbb', hcc'⟩ := (HC.out.below hZ) (by omega)
            obtain ⟨rfl, rfl⟩ : b = b' ∧ off = off' := by cases eA; exact ⟨rfl, rfl⟩
            clear eA
            obtain ⟨d0, d1, d2, d3, d4⟩ := hcc' j (by omega)
            clear hcc'
            have HT := Lib.hid (fun (q : rpB (L j) x = true) => HN.out (.inr (anyTo_at (P := fun j => rpB (L j) x) hjk q)))
            have HF := Lib.hid (fun (q : rpB (L j) x = false) => (show anyTo (fun j => rpB (L j) x) (j + 1) = false by rw [anyTo, HJ.out, Bool.false_or]; exact q))
            obtain ⟨y, hy⟩ : ∃ y, y = L j := ⟨_, rfl⟩
            rw [← hy] at d0 d1 d2 d3 d4 HT HF
            clear hy
            have x0 := kcb hZ x0
            have x1 := kcb hZ x1
            have lx := ltb x0
            by_cases est : y.nm = x.nm
            · have HR := Lib.hid (HT.out (by rw [rpB, decide_eq_true est]; rfl))
              have hE : (y.nm.toList == x.nm.toList) = true := by rw [est]; simp
              go_wp2_with fail
              go_ret
              exact ⟨ret_boolN HR.out.symm, B1.tr (hZ.tr (by go_grown))⟩
            · have hE := key_neN est
              have HRP := Lib.hid (rp_bf est)
              by_cases f1 : x.fr < y.fr
              · have HR := Lib.hid (HT.out (by rw [rpB, decide_eq_true f1, Bool.or_true]; rfl))
                go_wp2_with fail
                go_ret
                exact ⟨ret_boolN HR.out.symm, B1.tr (hZ.tr (by go_grown))⟩
              · by_cases f2 : y.fr = x.fr
                · have f2' : (y.fr == x.fr) = true := by simp [f2]
                  cases hl : ltS y.nm x.nm with
                  | true =>
                    have HR := Lib.hid (HF.out (by rw [HRP.out, bfB, decide_eq_true f2, hl]; simp))
                    have hl' : Op.bytesLess y.nm.toList x.nm.toList = true := hl
                    go_wp2_with fail
                    go_roundw
                    case rel => exact ⟨j + 1, by omega, by go_num, HR.out, hZ.tr (by go_grown)⟩
                    case measure => simp [RowKit.intOf]; omega
                  | false =>
                    have HR := Lib.hid (HT.out (by rw [HRP.out, bfB, decide_eq_true f2, hl, decide_eq_false (show ¬ y.fr < x.fr by omega)]; rfl))
                    have hl' : Op.bytesLess y.nm.toList x.nm.toList = false := hl
                    go_wp2_with fail
                    go_ret
                    exact ⟨ret_boolN HR.out.symm, B1.tr (hZ.tr (by go_grown))⟩
                · have f2' : (y.fr == x.fr) = false := by simp [f2]
                  have HR := Lib.hid (HF.out (by rw [HRP.out, bfB, decide_eq_true (show y.fr < x.fr by omega)]; rfl))
                  go_wp2_with fail
                  go_roundw
                  case rel => exact ⟨j + 1, by omega, by go_num, HR.out, hZ.tr (by go_grown)⟩
                  case measure => simp [RowKit.intOf]; omega
          · obtain rfl : j = k := by omega
            have HR := Lib.hid (HS1.out HV.out HJ.out)
            go_wp2_with fail
            go_roundw
            case rel => exact ⟨j + 1, by omega, by go_num, HR.out, B1.tr hZ⟩
            case measure => simp [RowKit.intOf]; omega
    · obtain rfl : k = n := by omega
      have HR := Lib.hid (HYE.out HO.out)
      go_wp2_with fail
      go_ret
      exact ⟨ret_boolN HR.out.symm, hB⟩
end Go.Proofs.Ytbmenpfpeadckaa
