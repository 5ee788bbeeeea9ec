/-
  Contracts of the reference of package night: clouds; Turn and Follows of both.
-/
import Derived.Test.YtbmenpfpeadckaaNO
namespace Go.Proofs.Ytbmenpfpeadckaa
open Go.RowKit
set_option linter.unusedSimpArgs false
set_option linter.unusedVariables false

set_option maxRecDepth 100000 in
set_option maxHeartbeats 3200000 in
theorem validClouds_any (A : Option Addr) (n c : Nat) (S : Nat → Sp2) (w : World) (hA : Spl w A n S) (hn : n ≤ maxLen) : Calls Try.prog 77 #[.slice A n c] w fun e w' => e = .returned (.bool (cldB S n)) ∧ Bl w w' := by
  have HA := Lib.hid hA
  clear hA
  unfold maxLen at hn
  go_enter Try.func77, Try.ntmps77
  go_wp2_with fail
  go_loopw [7] (fun i wr => ∃ k : Nat, k ≤ n ∧ i = .int .i64 k ∧ Hid (anyTo (fun j => badC (S j)) k = false) ∧ Bl w wr) (fun i _ => n - (RowKit.intOf i).toNat)
  case atStart => exact ⟨0, Nat.zero_le _, rfl, rfl, Bl.rf _⟩
  case round =>
    obtain ⟨k, hk, rfl, HJ, hB⟩ := hrel
    have zB := hB.size
    by_cases hlt : k < n
    · obtain ⟨b, off, rfl, hbb, hcc⟩ := (HA.out.below hB) (by omega)
      obtain ⟨c0, c1⟩ := hcc k hlt
      clear hcc
      have HT := Lib.hid (fun (q : badC (S k) = true) => (show cldB S n = false by rw [cldB, anyTo_at (P := fun j => badC (S j)) hlt q, Bool.and_comm]; rfl))
      have HF := Lib.hid (fun (q : badC (S k) = false) => (show anyTo (fun j => badC (S j)) (k + 1) = false by rw [anyTo, HJ.out, Bool.false_or]; exact q))
      obtain ⟨y, hy⟩ : ∃ y, y = S k := ⟨_, rfl⟩
      rw [← hy] at c0 c1 HT HF
      clear hy
      by_cases q0 : y.lo < 0
      · have HR := Lib.hid (HT.out (by simp [badC, q0]))
        go_wp2_with fail
        go_ret
        exact ⟨ret_boolN HR.out.symm, hB.tr (by go_grown)⟩
      · by_cases q1 : y.hi < y.lo
        · have HR := Lib.hid (HT.out (by simp [badC, q1]))
          go_wp2_with fail
          go_ret
          exact ⟨ret_boolN HR.out.symm, hB.tr (by go_grown)⟩
        · by_cases q2 : 86400000 < y.hi
          · have HR := Lib.hid (HT.out (by simp [badC, q2]))
            go_wp2_with fail
            go_ret
            exact ⟨ret_boolN HR.out.symm, hB.tr (by go_grown)⟩
          · have HR := Lib.hid (HF.out (by simp [badC]; omega))
            go_wp2_with fail
            go_roundw
            case rel => exact ⟨k + 1, by omega, by go_num, HR.out, hB.tr (by go_grown)⟩
            case measure => simp [RowKit.intOf]; omega
    · obtain rfl : k = n := by omega
      have HR := Lib.hid (show cldB S k = decide ((k : Int) ≤ 50) by rw [cldB, HJ.out, Bool.not_false, Bool.and_true, Bool.eq_iff_iff]; simp; omega)
      go_wp2_with fail
      go_ret
      exact ⟨ret_boolN HR.out.symm, hB⟩
set_option maxRecDepth 100000 in
set_option maxHeartbeats 3200000 in
theorem risClear_any (x : Ch) (A : Option Addr) (n c : Nat) (S : Nat → Sp2) (w : World) (hA : Spl w A n S) (hn : n ≤ maxLen) : Calls Try.prog 81 #[encC x, .slice A n c] w fun e w' => e = .returned (.bool (clrB S n x)) ∧ Bl w w' := by
  have HA := Lib.hid hA
  clear hA
  unfold maxLen at hn
  go_enter Try.func81, Try.ntmps81
  go_wp2_with fail
  obtain ⟨W, hW⟩ : ∃ W, W = w.alloc (.cells #[.string x.nm, .int .i64 x.fr, .int .i64 x.to, .int .i64 x.tl, .int .i64 x.wo] 56) := ⟨_, rfl⟩
  have BW : Bl w W := by rw [hW]; go_grown
  have e1 : W.cell? ⟨w.heap.size, 1, none⟩ = some (.int .i64 x.fr) := by rw [hW]; simp
  have e2 : W.cell? ⟨w.heap.size, 2, none⟩ = some (.int .i64 x.to) := by rw [hW]; simp
  rw [← hW]
  clear hW
  go_loopw [9] (fun i wr => ∃ k : Nat, k ≤ n ∧ i = .int .i64 k ∧ Hid (anyTo (fun j => inC8w x (S j)) k = false) ∧ Bl W wr) (fun i _ => n - (RowKit.intOf i).toNat)
  case atStart => exact ⟨0, Nat.zero_le _, rfl, rfl, Bl.rf _⟩
  case round =>
    obtain ⟨k, hk, rfl, HJ, hB⟩ := hrel
    have zB := hB.size
    have e1 := kcb hB e1
    have e2 := kcb hB e2
    have le := ltb e1
    by_cases hlt : k < n
    · obtain ⟨b, off, rfl, hbb, hcc⟩ := (HA.out.below (BW.tr hB)) (by omega)
      obtain ⟨c0, c1⟩ := hcc k hlt
      clear hcc
      have HT := Lib.hid (fun (q : inC8w x (S k) = true) => (show clrB S n x = false by rw [clrB, anyTo_at (P := fun j => inC8w x (S j)) hlt q]; rfl))
      have HF := Lib.hid (fun (q : inC8w x (S k) = false) => (show anyTo (fun j => inC8w x (S j)) (k + 1) = false by rw [anyTo, HJ.out, Bool.false_or]; exact q))
      obtain ⟨y, hy⟩ : ∃ y, y = S k := ⟨_, rfl⟩
      rw [← hy] at c0 c1 HT HF
      clear hy
      by_cases q0 : y.lo < x.to
      · by_cases q1 : x.fr ≤ y.hi
        · have HR := Lib.hid (HT.out (by simp [inC8w, q0, q1]))
          go_wp2_with fail
          go_ret
          exact ⟨ret_boolN HR.out.symm, BW.tr (hB.tr (by go_grown))⟩
        · have HR := Lib.hid (HF.out (by simp [inC8w]; omega))
          go_wp2_with fail
          go_roundw
          case rel => exact ⟨k + 1, by omega, by go_num, HR.out, hB.tr (by go_grown)⟩
          case measure => simp [RowKit.intOf]; omega
      · have HR := Lib.hid (HF.out (by simp [inC8w]; omega))
        go_wp2_with fail
        go_roundw
        case rel => exact ⟨k + 1, by omega, by go_num, HR.out, hB.tr (by go_grown)⟩
        case measure => simp [RowKit.intOf]; omega
    · obtain rfl : k = n := by omega
      have HR := Lib.hid (show clrB S k x = true by rw [clrB, HJ.out]; rfl)
      go_wp2_with fail
      go_ret
      exact ⟨ret_boolN HR.out.symm, BW.tr hB⟩
set_option maxHeartbeats 400000 in
theorem turned8_any (p : Int) (w : World) : Calls Try.prog 78 #[.int .i64 p] w fun e w' => e = .returned (.bool (inB p 0 10000)) ∧ w = w' := by
  go_enter Try.func78, Try.ntmps78
  go_wp2
  all_goals (go_ret; exact ⟨ret_boolN (by simp [inB]; try omega), rfl⟩)
set_option maxHeartbeats 800000 in
theorem rturnN_any (a b : Ch) (per : Int) (w : World) (ha : -90000 ≤ a.tl ∧ a.tl ≤ 90000) (hb : -90000 ≤ b.tl ∧ b.tl ≤ 90000) (hp : 0 ≤ per ∧ per ≤ 10000) :
    Calls Try.prog 106 #[encC a, encC b, .int .i64 per] w fun e w' => e = .returned (.int .i64 (trn a b per)) ∧ Bl w w' := by
  have ht := trn_bd ha hb hp
  obtain ⟨a1, a2⟩ := ha
  obtain ⟨b1, b2⟩ := hb
  obtain ⟨p1, p2⟩ := hp
  obtain ⟨t1, t2⟩ := ht
  by_cases h : b.tl < a.tl
  · have HT := Lib.hid (show trn a b per = (a.tl - b.tl) * per by rw [trn, show max (a.tl - b.tl) (b.tl - a.tl) = a.tl - b.tl by omega, Int.mul_comm])
    obtain ⟨T, hT⟩ : ∃ T, trn a b per = T := ⟨_, rfl⟩
    rw [hT] at HT t1 t2 ⊢
    have e1 : wrap64 ((a.tl - b.tl) * per) = T := by rw [IntWalk.wrap64_in _ (by rw [← HT.out]; omega), HT.out]
    have e2 : IntKind.i64.wrap ((a.tl - b.tl) * per) = T := by rw [IntWalk.i64_in _ (by rw [← HT.out]; omega), HT.out]
    clear hT
    go_enter Try.func106, Try.ntmps106
    go_wp2_with fail
    go_ret
    exact ⟨rfl, by go_grown⟩
  · have HT := Lib.hid (show trn a b per = (b.tl - a.tl) * per by rw [trn, show max (a.tl - b.tl) (b.tl - a.tl) = b.tl - a.tl by omega, Int.mul_comm])
    obtain ⟨T, hT⟩ : ∃ T, trn a b per = T := ⟨_, rfl⟩
    rw [hT] at HT t1 t2 ⊢
    have e1 : wrap64 ((b.tl - a.tl) * per) = T := by rw [IntWalk.wrap64_in _ (by rw [← HT.out]; omega), HT.out]
    have e2 : IntKind.i64.wrap ((b.tl - a.tl) * per) = T := by rw [IntWalk.i64_in _ (by rw [← HT.out]; omega), HT.out]
    clear hT
    go_enter Try.func106, Try.ntmps106
    go_wp2_with fail
    go_ret
    exact ⟨rfl, by go_grown⟩
/-- What Turn returns. -/
def tuR (a b : Ch) (per : Int) : Int × Int := if (vcB a && vcB b) = true then (if inB per 0 10000 = true then (trn a b per, 0) else (0, 7)) else (0, 1)
theorem tuR_a {a b : Ch} {per : Int} (h : vcB a = false) : tuR a b per = (0, 1) := by simp [tuR, h]
theorem tuR_b {a b : Ch} {per : Int} (h : vcB b = false) : tuR a b per = (0, 1) := by simp [tuR, h]
theorem tuR_p {a b : Ch} {per : Int} (ha : vcB a = true) (hb : vcB b = true) (h : inB per 0 10000 = false) : tuR a b per = (0, 7) := by simp [tuR, ha, hb, h]
theorem tuR_ok {a b : Ch} {per : Int} (ha : vcB a = true) (hb : vcB b = true) (h : inB per 0 10000 = true) : tuR a b per = (trn a b per, 0) := by simp [tuR, ha, hb, h]