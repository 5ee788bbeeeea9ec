/-
  The walk of NightChances.
-/
import Derived.Test.YtbmenpfpeadckaaNR
import Derived.Test.YtbmenpfpeadckaaNL
namespace Go.Proofs.Ytbmenpfpeadckaa
open Go.RowKit
set_option linter.unusedSimpArgs false
set_option linter.unusedVariables false

def namTo (L : Nat → Ch) : Nat → Bool
  | 0 => true
  | k + 1 => namTo L k && decide ((L k).nm.size ≤ 100)
def namB (L : Nat → Ch) (n : Nat) : Bool := namTo L n && decide (n ≤ 30)
theorem namTo_no {L : Nat → Ch} {k n : Nat} (hk : k < n) (h : ¬ (L k).nm.size ≤ 100) : namTo L n = false := by
  induction n with
  | zero => omega
  | succ n ih =>
    by_cases e : k = n
    · subst e; simp [namTo, h]
    · simp [namTo, ih (by omega)]
set_option maxRecDepth 100000 in
set_option maxHeartbeats 1600000 in
theorem named_any (A : Option Addr) (n c : Nat) (L : Nat → Ch) (w : World) (hA : Chl w A n L) (hS : ∀ j, j < n → (L j).nm.size ≤ maxLen) (hn : n ≤ maxLen) :
    Calls Try.prog 33 #[.slice A n c] w fun e w' => e = .returned (.bool (namB L n)) ∧ Bl w w' := by
  have HA := Lib.hid hA
  have HS := Lib.hid hS
  clear hA hS
  unfold maxLen at hn
  go_enter Try.func33, Try.ntmps33
  go_wp2_with fail
  go_loopw [7] (fun i wr => ∃ k : Nat, k ≤ n ∧ i = .int .i64 k ∧ Hid (namTo L k = true) ∧ Bl w wr) (fun i _ => n - (RowKit.intOf i).toNat)
  case atStart => exact ⟨0, Nat.zero_le _, rfl, rfl, Bl.rf _⟩
  case round =>
    obtain ⟨k, hk, rfl, HO, hB⟩ := hrel
    have zB := hB.size
    by_cases hlt : k < n
    · obtain ⟨b, off, rfl, hbb, hcc⟩ := (HA.out.below hB) (by omega)
      obtain ⟨c0, c1, c2, c3, c4⟩ := hcc k hlt
      clear hcc
      have hs := HS.out k hlt
      unfold maxLen at hs
      have HNO := Lib.hid (fun (q : ¬ (L k).nm.size ≤ 100) => (show namB L n = false by rw [namB, namTo_no hlt q]; rfl))
      have HYE := Lib.hid (fun (q : (L k).nm.size ≤ 100) => (show namTo L (k + 1) = true by rw [namTo, HO.out, decide_eq_true q]; rfl))
      obtain ⟨x, hx⟩ : ∃ x, x = L k := ⟨_, rfl⟩
      rw [← hx] at c0 c1 c2 c3 c4 HNO HYE hs
      clear hx
      by_cases q : x.nm.size ≤ 100
      · have HR := Lib.hid (HYE.out q)
        go_wp2_with fail
        go_roundw
        case rel => exact ⟨k + 1, by omega, by go_num, HR.out, hB.tr (by go_grown)⟩
        case measure => simp [RowKit.intOf]; omega
      · have HR := Lib.hid (HNO.out q)
        go_wp2_with fail
        go_ret
        exact ⟨ret_boolN HR.out.symm, hB.tr (by go_grown)⟩
    · obtain rfl : k = n := by omega
      have HR := Lib.hid (show namB L k = decide ((k : Int) ≤ 30) by rw [namB, HO.out, Bool.true_and, Bool.eq_iff_iff]; simp; omega)
      go_wp2_with fail
      go_ret
      exact ⟨ret_boolN HR.out.symm, hB⟩
theorem clr_use {L : Nat → Ch} {n : Nat} {S : Nat → Sp2} {m : Nat} {w : World} {e : Ending} {w' : World} {cl : Bool} (hc : (vdB L n && cldB S m) = cl) (h : ClrPost L n S m w e w') :
    Bl w w' ∧ ∃ v, e = .returned (.tuple #[v, .int .i64 (if cl = true then 0 else 1)]) ∧ IsL w' 0 v (if cl = true then clrL S m L n else []) := by
  obtain ⟨hb, ⟨h1, rfl⟩ | ⟨h1, v, rfl, hv⟩⟩ := h
  · rw [hc] at h1; subst h1
    exact ⟨hb, _, rfl, isL_nil _ _⟩
  · rw [hc] at h1; subst h1
    exact ⟨hb, v, rfl, hv.mono (Nat.zero_le _)⟩
theorem cls_use {L : Nat → Ch} {n : Nat} {per : Int} {w : World} {e : Ending} {w' : World} (h : ClsPost L n per w e w') :
    Bl w w' ∧ ∃ v, e = .returned (.tuple #[v, .int .i64 (chkN L n (fun _ => ⟨0, 0⟩) 0 per)]) ∧ IsP w' v (if chkN L n (fun _ => ⟨0, 0⟩) 0 per = 0 then outF L per n n else []) := by
  obtain ⟨hb, ⟨h1, rfl⟩ | ⟨h1, v, rfl, hv⟩⟩ := h
  · exact ⟨hb, _, rfl, by rw [if_neg h1]; exact isP_nil _⟩
  · exact ⟨hb, v, by rw [h1], by rw [if_pos h1]; exact hv⟩
theorem same_isL {u v : Value} {l : List Int} {w : World} {lo lo' : Nat} (hu : IsL w lo u l) (hv : IsL w lo' v l) : Calls Try.prog 14 #[u, v] w fun e w' => e = .returned (.bool true) ∧ Bl w w' := by
  obtain ⟨A, c, rfl, q1, q2, hA, _⟩ := hu
  obtain ⟨B, d, rfl, r1, r2, hB, _⟩ := hv
  refine (sameIntsN_any A l.length c _ B l.length d _ w (Nat.le_trans q1 q2) (Nat.le_trans r1 r2) hA hB).mono ?_
  rintro e w' ⟨rfl, N, rfl⟩
  rw [sIB_sameN]
  exact ⟨rfl, bl_dnN _ _⟩
def two (a b : Ch) (j : Nat) : Ch := if j = 0 then a else b
theorem two_chl {w : World} {B : Nat} {a b : Ch} (h0 : w.cell? ⟨B, 0, none⟩ = some (.string a.nm)) (h1 : w.cell? ⟨B, 1, none⟩ = some (.int .i64 a.fr)) (h2 : w.cell? ⟨B, 2, none⟩ = some (.int .i64 a.to)) (h3 : w.cell? ⟨B, 3, none⟩ = some (.int .i64 a.tl)) (h4 : w.cell? ⟨B, 4, none⟩ = some (.int .i64 a.wo)) (h5 : w.cell? ⟨B, 5, none⟩ = some (.string b.nm)) (h6 : w.cell? ⟨B, 6, none⟩ = some (.int .i64 b.fr)) (h7 : w.cell? ⟨B, 7, none⟩ = some (.int .i64 b.to)) (h8 : w.cell? ⟨B, 8, none⟩ = some (.int .i64 b.tl)) (h9 : w.cell? ⟨B, 9, none⟩ = some (.int .i64 b.wo)) : Chl w (some ⟨B, 0, none⟩) 2 (two a b) := fun _ =>
  ⟨B, 0, rfl, ltb h0, fun j hj => by
    rcases (show j = 0 ∨ j = 1 by omega) with rfl | rfl
    · exact ⟨h0, h1, h2, h3, h4⟩
    · exact ⟨h5, h6, h7, h8, h9⟩⟩