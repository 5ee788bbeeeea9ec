/-
  The walk of NightChances.
-/
import Derived.Test.YtbieonibngbhjaaNR
import Derived.Test.YtbieonibngbhjaaNL
namespace Go.Proofs.Ytbieonibngbhjaa
open Go.RowKit
set_option linter.unusedSimpArgs false
set_option linter.unusedVariables false

def namTo (L : Nat → Ch) : Nat → Bool
  | 0 => true
  | k + 1 => namTo L k && decide ((L k).nm.size ≤ 100)
def namB (L : Nat → Ch) (n : Nat) : Bool := namTo L n && decide (n ≤ 30)
theorem namTo_no {L : Nat → Ch} {k n : Nat} (hk : k < n) (h : ¬ (L k).nm.size ≤ 100) : namTo L n = false := by
  induction n with
  | zero => omega
  | succ n ih =>
    by_cases e : k = n
    · subst e; simp [namTo, h]
    · simp [namTo, ih (by omega)]
set_option maxRecDepth 100000 in
set_option maxHeartbeats 1600000 in
theorem named_any (A : Option Addr) (n c : Nat) (L : Nat → Ch) (w : World) (hA : Chl w A n L) (hS : ∀ j, j < n → (L j).nm.size ≤ maxLen) (hn : n ≤ maxLen) :
    Calls Try.prog 5 #[.slice A n c] w fun e w' => e = .returned (.bool (namB L n)) ∧ Bl w w' := by
  have HA := Lib.hid hA
  have HS := Lib.hid hS
  clear hA hS
  unfold maxLen at hn
  go_enter Try.func5, Try.ntmps5
  go_wp2_with fail
  go_loopw [7] (fun i wr => ∃ k : Nat, k ≤ n ∧ i = .int .i64 k ∧ Hid (namTo L k = true) ∧ Bl w wr) (fun i _ => n - (RowKit.intOf i).toNat)
  case atStart => exact ⟨0, Nat.zero_le _, rfl, rfl, Bl.rf _⟩
  case round =>
    obtain ⟨k, hk, rfl, HO, hB⟩ := hrel
    have zB := hB.size
    by_cases hlt : k < n
    · obtain ⟨b, off, rfl, hbb, hcc⟩ := (HA.out.below hB) (by omega)
      obtain ⟨c0, c1, c2, c3, c4⟩ := hcc k hlt
      clear hcc
      have hs := HS.out k hlt
      unfold maxLen at hs
      have HNO := Lib.hid (fun (q : ¬ (L k).nm.size ≤ 100) => (show namB L n = false by rw [namB, namTo_no hlt q]; rfl))
      have HYE := Lib.hid (fun (q : (L k).nm.size ≤ 100) => (show namTo L (k + 1) = true by rw [namTo, HO.out, decide_eq_true q]; rfl))
      obtain ⟨x, hx⟩ : ∃ x, x = L k := ⟨_, rfl⟩
      rw [← hx] at c0 c1 c2 c3 c4 HNO HYE hs
      clear hx
      by_cases q : x.nm.size ≤ 100
      · have HR := Lib.hid (HYE.out q)
        go_wp2_with fail
        go_roundw
        case rel => exact ⟨k + 1, by omega, by go_num, HR.out, hB.tr (by go_grown)⟩
        case measure => simp [RowKit.intOf]; omega
      · have HR := Lib.hid (HNO.out q)
        go_wp2_with fail
        go_ret
        exact ⟨ret_boolN HR.out.symm, hB.tr (by go_grown)⟩
    · obtain rfl : k = n := by omega
      have HR := Lib.hid (show namB L k = decide ((k : Int) ≤ 30) by rw [namB, HO.out, Bool.true_and, Bool.eq_iff_iff]; simp; omega)
      go_wp2_with fail
      go_ret
      exact ⟨ret_boolN HR.out.symm, hB⟩
theorem clr_use {L : Nat → Ch} {n : Nat} {S : Nat → Sp2} {m : Nat} {w : World} {e : Ending} {w' : World} {cl : Bool} (hc : (vdB L n && cldB S m) = cl) (h : ClrPost L n S m w e w') :
    Bl w w' ∧ ∃ v, e = .returned (.tuple #[v, .int .i64 (if cl = true then 0 else 1)]) ∧ IsL w' 0 v (if cl = true then clrL S m L n else []) := by
  obtain ⟨hb, ⟨h1, rfl⟩ | ⟨h1, v, rfl, hv⟩⟩ := h
  · rw [hc] at h1; subst h1
    exact ⟨hb, _, rfl, isL_nil _ _⟩
  · rw [hc] at h1; subst h1
    exact ⟨hb, v, rfl, hv.mono (Nat.zero_le _)⟩
theorem cls_use {L : Nat → Ch} {n : Nat} {per : Int} {w : World} {e : Ending} {w' : World} (h : ClsPost L n per w e w') :
    Bl w w' ∧ ∃ v, e = .returned (.tuple #[v, .int .i64 (chkN L n (fun _ => ⟨0, 0⟩) 0 per)]) ∧ IsP w' v (if chkN L n (fun _ => ⟨0, 0⟩) 0 per = 0 then outF L per n n else []) := by
  obtain ⟨hb, ⟨h1, rfl⟩ | ⟨h1, v, rfl, hv⟩⟩ := h
  · exact ⟨hb, _, rfl, by rw [if_neg h1]; exact isP_nil _⟩
  · exact ⟨hb, v, by rw [h1], by rw [if_pos h1]; exact hv⟩
theorem same_isL {u v : Value} {l : List Int} {w : World} {lo lo' : Nat} (hu : IsL w lo u l) (hv : IsL w lo' v l) : Calls Try.prog 17 #[u, v] w fun e w' => e = .returned (.bool true) ∧ Bl w w' := by
  obtain ⟨A, c, rfl, q1, q2, hA, _⟩ := hu
  obtain ⟨B, d, rfl, r1, r2, hB, _⟩ := hv
  refine (sameIntsN_any A l.length c _ B l.length d _ w (Nat.le_trans q1 q2) (Nat.le_trans r1 r2) hA hB).mono ?_
  rintro e w' ⟨rfl, N, rfl⟩
  rw [sIB_sameN]
  exact ⟨rfl, bl_dnN _ _⟩
def two (a b : Ch) (j : Nat) : Ch := if j = 0 then a else b
theorem two_chl {w : World} {B : Nat} {a b : Ch} (h0 : w.cell? ⟨B, 0, none⟩ = some (.string a.nm)) (h1 : w.cell? ⟨B, 1, none⟩ = some (.int .i64 a.fr)) (h2 : w.cell? ⟨B, 2, none⟩ = some (.int .i64 a.to)) (h3 : w.cell? ⟨B, 3, none⟩ = some (.int .i64 a.tl)) (h4 : w.cell? ⟨B, 4, none⟩ = some (.int .i64 a.wo)) (h5 : w.cell? ⟨B, 5, none⟩ = some (.string b.nm)) (h6 : w.cell? ⟨B, 6, none⟩ = some (.int .i64 b.fr)) (h7 : w.cell? ⟨B, 7, none⟩ = some (.int .i64 b.to)) (h8 : w.cell? ⟨B, 8, none⟩ = some (.int .i64 b.tl)) (h9 : w.cell? ⟨B, 9, none⟩ = some (.int .i64 b.wo)) : Chl w (some ⟨B, 0, none⟩) 2 (two a b) := fun _ =>
  ⟨B, 0, rfl, ltb h0, fun j hj => by
    rcases (show j = 0 ∨ j = 1 by omega) with rfl | rfl
    · exact ⟨h0, h1, h2, h3, h4⟩
    · exact ⟨h5, h6, h7, h8, h9⟩⟩
set_option maxRecDepth 100000 in
set_option maxHeartbeats 6400000 in
theorem chances_walk (A : Option Addr) (n c : Nat) (L : Nat → Ch) (B : Option Addr) (m d : Nat) (S : Nat → Sp2) (per : Int) (a b : Ch) (w : World) (hn : n ≤ c ∧ c ≤ maxLen) (hS : ∀ j, j < n → (L j).nm.size ≤ maxLen) (hA : Chl w A n L) (hm : m ≤ maxLen) (hB : Spl w B m S) (ha : a.nm.size ≤ maxLen) (hb : b.nm.size ≤ maxLen) :
    Calls Try.prog 3 #[.slice A n c, .slice B m d, .int .i64 per, encC a, encC b] w fun e' w' => e' = .returned (.bool true) ∧ Bl w w' := by
  have HA := Lib.hid hA
  have HB := Lib.hid hB
  have HS := Lib.hid hS
  have HN := Lib.hid (Nat.le_trans hn.1 hn.2)
  have HC := Lib.hid hn
  have HM := Lib.hid hm
  have HSA := Lib.hid ha
  have HSB := Lib.hid hb
  have HS2 := Lib.hid (show ∀ j, j < 2 → (two a b j).nm.size ≤ maxLen from fun j _ => by unfold two; split <;> assumption)
  unfold maxLen at hm
  clear hA hB hS hn ha hb
  cases f1 : namB L n with
  | false =>
    have HF1 := Lib.hid f1
    clear f1
    go_enter Try.func3, Try.ntmps3
    go_wp2_with fail
    refine (named_any A n c L _ (HA.out.below (by go_grown)) HS.out HN.out).mono ?_
    rintro q1 w1 ⟨rfl, hb⟩
    rw [HF1.out]
    have a0 := kcb hb (b := w.heap.size) (o := 0) (v := .string a.nm) (by first | assumption | (refine cellUp ?_; assumption) | go_cell)
    have a1 := kcb hb (b := w.heap.size) (o := 1) (v := .int .i64 a.fr) (by first | assumption | (refine cellUp ?_; assumption) | go_cell)
    have a2 := kcb hb (b := w.heap.size) (o := 2) (v := .int .i64 a.to) (by first | assumption | (refine cellUp ?_; assumption) | go_cell)
    have a3 := kcb hb (b := w.heap.size) (o := 3) (v := .int .i64 a.tl) (by first | assumption | (refine cellUp ?_; assumption) | go_cell)
    have a4 := kcb hb (b := w.heap.size) (o := 4) (v := .int .i64 a.wo) (by first | assumption | (refine cellUp ?_; assumption) | go_cell)
    have b0 := kcb hb (b := w.heap.size + 1) (o := 0) (v := .string b.nm) (by first | assumption | (refine cellUp ?_; assumption) | go_cell)
    have b1 := kcb hb (b := w.heap.size + 1) (o := 1) (v := .int .i64 b.fr) (by first | assumption | (refine cellUp ?_; assumption) | go_cell)
    have b2 := kcb hb (b := w.heap.size + 1) (o := 2) (v := .int .i64 b.to) (by first | assumption | (refine cellUp ?_; assumption) | go_cell)
    have b3 := kcb hb (b := w.heap.size + 1) (o := 3) (v := .int .i64 b.tl) (by first | assumption | (refine cellUp ?_; assumption) | go_cell)
    have b4 := kcb hb (b := w.heap.size + 1) (o := 4) (v := .int .i64 b.wo) (by first | assumption | (refine cellUp ?_; assumption) | go_cell)
    have B1 : Bl w w1 := Bl.tr (by go_grown) hb
    have l1 := ltb b0
    have zz1 := B1.size
    clear hb
    go_wp2_with fail
    refine (awakeN_any _).mono ?_
    rintro q9 w9 ⟨rfl, hb⟩
    go_wp2_with fail
    go_ret
    exact ⟨rfl, Bl.tr B1 hb⟩
  | true =>
    have HF1 := Lib.hid f1
    clear f1
    cases f2 : namB (two a b) 2 with
    | false =>
      have HF2 := Lib.hid f2
      clear f2
      go_enter Try.func3, Try.ntmps3
      go_wp2_with fail
      refine (named_any A n c L _ (HA.out.below (by go_grown)) HS.out HN.out).mono ?_
      rintro q1 w1 ⟨rfl, hb⟩
      rw [HF1.out]
      have a0 := kcb hb (b := w.heap.size) (o := 0) (v := .string a.nm) (by first | assumption | (refine cellUp ?_; assumption) | go_cell)
      have a1 := kcb hb (b := w.heap.size) (o := 1) (v := .int .i64 a.fr) (by first | assumption | (refine cellUp ?_; assumption) | go_cell)
      have a2 := kcb hb (b := w.heap.size) (o := 2) (v := .int .i64 a.to) (by first | assumption | (refine cellUp ?_; assumption) | go_cell)
      have a3 := kcb hb (b := w.heap.size) (o := 3) (v := .int .i64 a.tl) (by first | assumption | (refine cellUp ?_; assumption) | go_cell)
      have a4 := kcb hb (b := w.heap.size) (o := 4) (v := .int .i64 a.wo) (by first | assumption | (refine cellUp ?_; assumption) | go_cell)
      have b0 := kcb hb (b := w.heap.size + 1) (o := 0) (v := .string b.nm) (by first | assumption | (refine cellUp ?_; assumption) | go_cell)
      have b1 := kcb hb (b := w.heap.size + 1) (o := 1) (v := .int .i64 b.fr) (by first | assumption | (refine cellUp ?_; assumption) | go_cell)
      have b2 := kcb hb (b := w.heap.size + 1) (o := 2) (v := .int .i64 b.to) (by first | assumption | (refine cellUp ?_; assumption) | go_cell)
      have b3 := kcb hb (b := w.heap.size + 1) (o := 3) (v := .int .i64 b.tl) (by first | assumption | (refine cellUp ?_; assumption) | go_cell)
      have b4 := kcb hb (b := w.heap.size + 1) (o := 4) (v := .int .i64 b.wo) (by first | assumption | (refine cellUp ?_; assumption) | go_cell)
      have B1 : Bl w w1 := Bl.tr (by go_grown) hb
      have l1 := ltb b0
      have zz1 := B1.size
      clear hb
      go_wp2_with fail
      refine (named_any _ 2 2 (two a b) _ (two_chl (by go_cell) (by go_cell) (by go_cell) (by go_cell) (by go_cell) (by go_cell) (by go_cell) (by go_cell) (by go_cell) (by go_cell)) HS2.out (by decide)).mono ?_
      rintro q2 w2 ⟨rfl, hb⟩
      rw [HF2.out]
      have a0 := kcb hb (b := w.heap.size) (o := 0) (v := .string a.nm) (by first | assumption | (refine cellUp ?_; assumption) | go_cell)
      have a1 := kcb hb (b := w.heap.size) (o := 1) (v := .int .i64 a.fr) (by first | assumption | (refine cellUp ?_; assumption) | go_cell)
      have a2 := kcb hb (b := w.heap.size) (o := 2) (v := .int .i64 a.to) (by first | assumption | (refine cellUp ?_; assumption) | go_cell)
      have a3 := kcb hb (b := w.heap.size) (o := 3) (v := .int .i64 a.tl) (by first | assumption | (refine cellUp ?_; assumption) | go_cell)
      have a4 := kcb hb (b := w.heap.size) (o := 4) (v := .int .i64 a.wo) (by first | assumption | (refine cellUp ?_; assumption) | go_cell)
      have b0 := kcb hb (b := w.heap.size + 1) (o := 0) (v := .string b.nm) (by first | assumption | (refine cellUp ?_; assumption) | go_cell)
      have b1 := kcb hb (b := w.heap.size + 1) (o := 1) (v := .int .i64 b.fr) (by first | assumption | (refine cellUp ?_; assumption) | go_cell)
      have b2 := kcb hb (b := w.heap.size + 1) (o := 2) (v := .int .i64 b.to) (by first | assumption | (refine cellUp ?_; assumption) | go_cell)
      have b3 := kcb hb (b := w.heap.size + 1) (o := 3) (v := .int .i64 b.tl) (by first | assumption | (refine cellUp ?_; assumption) | go_cell)
      have b4 := kcb hb (b := w.heap.size + 1) (o := 4) (v := .int .i64 b.wo) (by first | assumption | (refine cellUp ?_; assumption) | go_cell)
      have B2 : Bl w w2 := Bl.tr (by first | exact B1 | exact Bl.tr B1 (by go_grown)) hb
      have l2 := ltb b0
      have zz2 := B2.size
      clear hb
      go_wp2_with fail
      refine (awakeN_any _).mono ?_
      rintro q9 w9 ⟨rfl, hb⟩
      go_wp2_with fail
      go_ret
      exact ⟨rfl, Bl.tr B2 hb⟩
    | true =>
      have HF2 := Lib.hid f2
      clear f2
      by_cases f3 : 60 < m
      · go_enter Try.func3, Try.ntmps3
        go_wp2_with fail
        refine (named_any A n c L _ (HA.out.below (by go_grown)) HS.out HN.out).mono ?_
        rintro q1 w1 ⟨rfl, hb⟩
        rw [HF1.out]
        have a0 := kcb hb (b := w.heap.size) (o := 0) (v := .string a.nm) (by first | assumption | (refine cellUp ?_; assumption) | go_cell)
        have a1 := kcb hb (b := w.heap.size) (o := 1) (v := .int .i64 a.fr) (by first | assumption | (refine cellUp ?_; assumption) | go_cell)
        have a2 := kcb hb (b := w.heap.size) (o := 2) (v := .int .i64 a.to) (by first | assumption | (refine cellUp ?_; assumption) | go_cell)
        have a3 := kcb hb (b := w.heap.size) (o := 3) (v := .int .i64 a.tl) (by first | assumption | (refine cellUp ?_; assumption) | go_cell)
        have a4 := kcb hb (b := w.heap.size) (o := 4) (v := .int .i64 a.wo) (by first | assumption | (refine cellUp ?_; assumption) | go_cell)
        have b0 := kcb hb (b := w.heap.size + 1) (o := 0) (v := .string b.nm) (by first | assumption | (refine cellUp ?_; assumption) | go_cell)
        have b1 := kcb hb (b := w.heap.size + 1) (o := 1) (v := .int .i64 b.fr) (by first | assumption | (refine cellUp ?_; assumption) | go_cell)
        have b2 := kcb hb (b := w.heap.size + 1) (o := 2) (v := .int .i64 b.to) (by first | assumption | (refine cellUp ?_; assumption) | go_cell)
        have b3 := kcb hb (b := w.heap.size + 1) (o := 3) (v := .int .i64 b.tl) (by first | assumption | (refine cellUp ?_; assumption) | go_cell)
        have b4 := kcb hb (b := w.heap.size + 1) (o := 4) (v := .int .i64 b.wo) (by first | assumption | (refine cellUp ?_; assumption) | go_cell)
        have B1 : Bl w w1 := Bl.tr (by go_grown) hb
        have l1 := ltb b0
        have zz1 := B1.size
        clear hb
        go_wp2_with fail
        refine (named_any _ 2 2 (two a b) _ (two_chl (by go_cell) (by go_cell) (by go_cell) (by go_cell) (by go_cell) (by go_cell) (by go_cell) (by go_cell) (by go_cell) (by go_cell)) HS2.out (by decide)).mono ?_
        rintro q2 w2 ⟨rfl, hb⟩
        rw [HF2.out]
        have a0 := kcb hb (b := w.heap.size) (o := 0) (v := .string a.nm) (by first | assumption | (refine cellUp ?_; assumption) | go_cell)
        have a1 := kcb hb (b := w.heap.size) (o := 1) (v := .int .i64 a.fr) (by first | assumption | (refine cellUp ?_; assumption) | go_cell)
        have a2 := kcb hb (b := w.heap.size) (o := 2) (v := .int .i64 a.to) (by first | assumption | (refine cellUp ?_; assumption) | go_cell)
        have a3 := kcb hb (b := w.heap.size) (o := 3) (v := .int .i64 a.tl) (by first | assumption | (refine cellUp ?_; assumption) | go_cell)
        have a4 := kcb hb (b := w.heap.size) (o := 4) (v := .int .i64 a.wo) (by first | assumption | (refine cellUp ?_; assumption) | go_cell)
        have b0 := kcb hb (b := w.heap.size + 1) (o := 0) (v := .string b.nm) (by first | assumption | (refine cellUp ?_; assumption) | go_cell)
        have b1 := kcb hb (b := w.heap.size + 1) (o := 1) (v := .int .i64 b.fr) (by first | assumption | (refine cellUp ?_; assumption) | go_cell)
        have b2 := kcb hb (b := w.heap.size + 1) (o := 2) (v := .int .i64 b.to) (by first | assumption | (refine cellUp ?_; assumption) | go_cell)
        have b3 := kcb hb (b := w.heap.size + 1) (o := 3) (v := .int .i64 b.tl) (by first | assumption | (refine cellUp ?_; assumption) | go_cell)
        have b4 := kcb hb (b := w.heap.size + 1) (o := 4) (v := .int .i64 b.wo) (by first | assumption | (refine cellUp ?_; assumption) | go_cell)
        have B2 : Bl w w2 := Bl.tr (by first | exact B1 | exact Bl.tr B1 (by go_grown)) hb
        have l2 := ltb b0
        have zz2 := B2.size
        clear hb
        go_wp2_with fail
        refine (awakeN_any _).mono ?_
        rintro q9 w9 ⟨rfl, hb⟩
        go_wp2_with fail
        go_ret
        exact ⟨rfl, Bl.tr B2 hb⟩
      · obtain ⟨cl, hcl⟩ : ∃ cl, (vdB L n && cldB S m) = cl := ⟨_, rfl⟩
        have HCL := Lib.hid hcl
        obtain ⟨vd, hvd⟩ : ∃ vd, vdB L n = vd := ⟨_, rfl⟩
        have HVD := Lib.hid hvd
        obtain ⟨ec, hec⟩ : ∃ ec : Int, ec = (if cl = true then 0 else 1) := ⟨_, rfl⟩
        obtain ⟨lc, hlc⟩ : ∃ lc : List Int, lc = (if cl = true then clrL S m L n else []) := ⟨_, rfl⟩
        have HCU := Lib.hid (fun (X : World) (e : Ending) (X' : World) (h : ClrPost L n S m X e X') => (show Bl X X' ∧ ∃ v, e = .returned (.tuple #[v, .int .i64 ec]) ∧ IsL X' 0 v lc by rw [hec, hlc]; exact clr_use hcl h))
        obtain ⟨es, hes⟩ : ∃ es : Int, es = chkN L n (fun _ => ⟨0, 0⟩) 0 per := ⟨_, rfl⟩
        obtain ⟨ls, hls⟩ : ∃ ls : List (Int × Int), ls = (if chkN L n (fun _ => ⟨0, 0⟩) 0 per = 0 then outF L per n n else []) := ⟨_, rfl⟩
        have HSU := Lib.hid (fun (X : World) (e : Ending) (X' : World) (h : ClsPost L n per X e X') => (show Bl X X' ∧ ∃ v, e = .returned (.tuple #[v, .int .i64 es]) ∧ IsP X' v ls by rw [hes, hls]; exact cls_use h))
        have hll : ls.length ≤ maxLen := by
          rw [hls]
          split
          · rename_i h0
            have h1 := vd_lenQ (chk_okR h0).1
            have h2 := outF_len L per h1 n
            unfold maxLen; omega
          · simp
        have HLL := Lib.hid hll
        obtain ⟨t1, ht1⟩ : ∃ t1, (tuR a b per).1 = t1 := ⟨_, rfl⟩
        obtain ⟨t2, ht2⟩ : ∃ t2, (tuR a b per).2 = t2 := ⟨_, rfl⟩
        obtain ⟨g1, hg1⟩ : ∃ g1, (foR a b per).1 = g1 := ⟨_, rfl⟩
        obtain ⟨g2, hg2⟩ : ∃ g2, (foR a b per).2 = g2 := ⟨_, rfl⟩
        have HT := Lib.hid (And.intro (And.intro ht1 ht2) (And.intro hg1 hg2))
        have e1 : (vd == vd) = true := by simp
        have e2 : (ec == ec) = true := by simp
        have e3 : (es == es) = true := by simp
        have e4 : (t1 == t1) = true := by simp
        have e5 : (t2 == t2) = true := by simp
        have e6 : (g1 == g1) = true := by simp
        have e7 : (g2 == g2) = true := by simp
        clear hcl hvd hec hlc hes hls ht1 ht2 hg1 hg2 hll
        go_enter Try.func3, Try.ntmps3
        go_wp2_with fail
        refine (named_any A n c L _ (HA.out.below (by go_grown)) HS.out HN.out).mono ?_
        rintro q1 w1 ⟨rfl, hb⟩
        rw [HF1.out]
        have a0 := kcb hb (b := w.heap.size) (o := 0) (v := .string a.nm) (by first | assumption | (refine cellUp ?_; assumption) | go_cell)
        have a1 := kcb hb (b := w.heap.size) (o := 1) (v := .int .i64 a.fr) (by first | assumption | (refine cellUp ?_; assumption) | go_cell)
        have a2 := kcb hb (b := w.heap.size) (o := 2) (v := .int .i64 a.to) (by first | assumption | (refine cellUp ?_; assumption) | go_cell)
        have a3 := kcb hb (b := w.heap.size) (o := 3) (v := .int .i64 a.tl) (by first | assumption | (refine cellUp ?_; assumption) | go_cell)
        have a4 := kcb hb (b := w.heap.size) (o := 4) (v := .int .i64 a.wo) (by first | assumption | (refine cellUp ?_; assumption) | go_cell)
        have b0 := kcb hb (b := w.heap.size + 1) (o := 0) (v := .string b.nm) (by first | assumption | (refine cellUp ?_; assumption) | go_cell)
        have b1 := kcb hb (b := w.heap.size + 1) (o := 1) (v := .int .i64 b.fr) (by first | assumption | (refine cellUp ?_; assumption) | go_cell)
        have b2 := kcb hb (b := w.heap.size + 1) (o := 2) (v := .int .i64 b.to) (by first | assumption | (refine cellUp ?_; assumption) | go_cell)
        have b3 := kcb hb (b := w.heap.size + 1) (o := 3) (v := .int .i64 b.tl) (by first | assumption | (refine cellUp ?_; assumption) | go_cell)
        have b4 := kcb hb (b := w.heap.size + 1) (o := 4) (v := .int .i64 b.wo) (by first | assumption | (refine cellUp ?_; assumption) | go_cell)
        have B1 : Bl w w1 := Bl.tr (by go_grown) hb
        have l1 := ltb b0
        have zz1 := B1.size
        clear hb
        go_wp2_with fail
        refine (named_any _ 2 2 (two a b) _ (two_chl (by go_cell) (by go_cell) (by go_cell) (by go_cell) (by go_cell) (by go_cell) (by go_cell) (by go_cell) (by go_cell) (by go_cell)) HS2.out (by decide)).mono ?_
        rintro q2 w2 ⟨rfl, hb⟩
        rw [HF2.out]
        have a0 := kcb hb (b := w.heap.size) (o := 0) (v := .string a.nm) (by first | assumption | (refine cellUp ?_; assumption) | go_cell)
        have a1 := kcb hb (b := w.heap.size) (o := 1) (v := .int .i64 a.fr) (by first | assumption | (refine cellUp ?_; assumption) | go_cell)
        have a2 := kcb hb (b := w.heap.size) (o := 2) (v := .int .i64 a.to) (by first | assumption | (refine cellUp ?_; assumption) | go_cell)
        have a3 := kcb hb (b := w.heap.size) (o := 3) (v := .int .i64 a.tl) (by first | assumption | (refine cellUp ?_; assumption) | go_cell)
        have a4 := kcb hb (b := w.heap.size) (o := 4) (v := .int .i64 a.wo) (by first | assumption | (refine cellUp ?_; assumption) | go_cell)
        have b0 := kcb hb (b := w.heap.size + 1) (o := 0) (v := .string b.nm) (by first | assumption | (refine cellUp ?_; assumption) | go_cell)
        have b1 := kcb hb (b := w.heap.size + 1) (o := 1) (v := .int .i64 b.fr) (by first | assumption | (refine cellUp ?_; assumption) | go_cell)
        have b2 := kcb hb (b := w.heap.size + 1) (o := 2) (v := .int .i64 b.to) (by first | assumption | (refine cellUp ?_; assumption) | go_cell)
        have b3 := kcb hb (b := w.heap.size + 1) (o := 3) (v := .int .i64 b.tl) (by first | assumption | (refine cellUp ?_; assumption) | go_cell)
        have b4 := kcb hb (b := w.heap.size + 1) (o := 4) (v := .int .i64 b.wo) (by first | assumption | (refine cellUp ?_; assumption) | go_cell)
        have B2 : Bl w w2 := Bl.tr (by first | exact B1 | exact Bl.tr B1 (by go_grown)) hb
        have l2 := ltb b0
        have zz2 := B2.size
        clear hb
        go_wp2_with fail
        refine (clear_any A n c L B m d S _ (HA.out.below (by first | exact B2 | exact Bl.tr B2 (by go_grown))) HS.out HC.out.1 HC.out.2 (HB.out.below (by first | exact B2 | exact Bl.tr B2 (by go_grown))) HM.out).mono ?_
        rintro q3 w3 hq3
        obtain ⟨hb, va, rfl, hva⟩ := HCU.out _ _ _ hq3
        clear hq3
        have a0 := kcb hb (b := w.heap.size) (o := 0) (v := .string a.nm) (by first | assumption | (refine cellUp ?_; assumption) | go_cell)
        have a1 := kcb hb (b := w.heap.size) (o := 1) (v := .int .i64 a.fr) (by first | assumption | (refine cellUp ?_; assumption) | go_cell)
        have a2 := kcb hb (b := w.heap.size) (o := 2) (v := .int .i64 a.to) (by first | assumption | (refine cellUp ?_; assumption) | go_cell)
        have a3 := kcb hb (b := w.heap.size) (o := 3) (v := .int .i64 a.tl) (by first | assumption | (refine cellUp ?_; assumption) | go_cell)
        have a4 := kcb hb (b := w.heap.size) (o := 4) (v := .int .i64 a.wo) (by first | assumption | (refine cellUp ?_; assumption) | go_cell)
        have b0 := kcb hb (b := w.heap.size + 1) (o := 0) (v := .string b.nm) (by first | assumption | (refine cellUp ?_; assumption) | go_cell)
        have b1 := kcb hb (b := w.heap.size + 1) (o := 1) (v := .int .i64 b.fr) (by first | assumption | (refine cellUp ?_; assumption) | go_cell)
        have b2 := kcb hb (b := w.heap.size + 1) (o := 2) (v := .int .i64 b.to) (by first | assumption | (refine cellUp ?_; assumption) | go_cell)
        have b3 := kcb hb (b := w.heap.size + 1) (o := 3) (v := .int .i64 b.tl) (by first | assumption | (refine cellUp ?_; assumption) | go_cell)
        have b4 := kcb hb (b := w.heap.size + 1) (o := 4) (v := .int .i64 b.wo) (by first | assumption | (refine cellUp ?_; assumption) | go_cell)
        have B3 : Bl w w3 := Bl.tr (by first | exact B2 | exact Bl.tr B2 (by go_grown)) hb
        have l3 := ltb b0
        have zz3 := B3.size
        have HVA := Lib.hid hva
        clear hb
        clear hva
        go_wp2_with fail
        refine (rclear_any A n c L B m d S _ (HA.out.below (by first | exact B3 | exact Bl.tr B3 (by go_grown))) HS.out HC.out.1 HC.out.2 (HB.out.below (by first | exact B3 | exact Bl.tr B3 (by go_grown))) HM.out).mono ?_
        rintro q4 w4 hq4
        obtain ⟨hb, vb, rfl, hvb⟩ := HCU.out _ _ _ hq4
        clear hq4
        have a0 := kcb hb (b := w.heap.size) (o := 0) (v := .string a.nm) (by first | assumption | (refine cellUp ?_; assumption) | go_cell)
        have a1 := kcb hb (b := w.heap.size) (o := 1) (v := .int .i64 a.fr) (by first | assumption | (refine cellUp ?_; assumption) | go_cell)
        have a2 := kcb hb (b := w.heap.size) (o := 2) (v := .int .i64 a.to) (by first | assumption | (refine cellUp ?_; assumption) | go_cell)
        have a3 := kcb hb (b := w.heap.size) (o := 3) (v := .int .i64 a.tl) (by first | assumption | (refine cellUp ?_; assumption) | go_cell)
        have a4 := kcb hb (b := w.heap.size) (o := 4) (v := .int .i64 a.wo) (by first | assumption | (refine cellUp ?_; assumption) | go_cell)
        have b0 := kcb hb (b := w.heap.size + 1) (o := 0) (v := .string b.nm) (by first | assumption | (refine cellUp ?_; assumption) | go_cell)
        have b1 := kcb hb (b := w.heap.size + 1) (o := 1) (v := .int .i64 b.fr) (by first | assumption | (refine cellUp ?_; assumption) | go_cell)
        have b2 := kcb hb (b := w.heap.size + 1) (o := 2) (v := .int .i64 b.to) (by first | assumption | (refine cellUp ?_; assumption) | go_cell)
        have b3 := kcb hb (b := w.heap.size + 1) (o := 3) (v := .int .i64 b.tl) (by first | assumption | (refine cellUp ?_; assumption) | go_cell)
        have b4 := kcb hb (b := w.heap.size + 1) (o := 4) (v := .int .i64 b.wo) (by first | assumption | (refine cellUp ?_; assumption) | go_cell)
        have B4 : Bl w w4 := Bl.tr (by first | exact B3 | exact Bl.tr B3 (by go_grown)) hb
        have l4 := ltb b0
        have zz4 := B4.size
        have HVB := Lib.hid hvb
        have HVA := Lib.hid (HVA.out.below (Bl.tr (by first | exact Bl.rf _ | go_grown) hb))
        clear hb
        clear hvb
        go_wp2_with fail
        refine (clashes_any A n c L per _ (HA.out.below (by first | exact B4 | exact Bl.tr B4 (by go_grown))) HS.out HC.out.1 HC.out.2).mono ?_
        rintro q5 w5 hq5
        obtain ⟨hb, vc, rfl, hvc⟩ := HSU.out _ _ _ hq5
        clear hq5
        have a0 := kcb hb (b := w.heap.size) (o := 0) (v := .string a.nm) (by first | assumption | (refine cellUp ?_; assumption) | go_cell)
        have a1 := kcb hb (b := w.heap.size) (o := 1) (v := .int .i64 a.fr) (by first | assumption | (refine cellUp ?_; assumption) | go_cell)
        have a2 := kcb hb (b := w.heap.size) (o := 2) (v := .int .i64 a.to) (by first | assumption | (refine cellUp ?_; assumption) | go_cell)
        have a3 := kcb hb (b := w.heap.size) (o := 3) (v := .int .i64 a.tl) (by first | assumption | (refine cellUp ?_; assumption) | go_cell)
        have a4 := kcb hb (b := w.heap.size) (o := 4) (v := .int .i64 a.wo) (by first | assumption | (refine cellUp ?_; assumption) | go_cell)
        have b0 := kcb hb (b := w.heap.size + 1) (o := 0) (v := .string b.nm) (by first | assumption | (refine cellUp ?_; assumption) | go_cell)
        have b1 := kcb hb (b := w.heap.size + 1) (o := 1) (v := .int .i64 b.fr) (by first | assumption | (refine cellUp ?_; assumption) | go_cell)
        have b2 := kcb hb (b := w.heap.size + 1) (o := 2) (v := .int .i64 b.to) (by first | assumption | (refine cellUp ?_; assumption) | go_cell)
        have b3 := kcb hb (b := w.heap.size + 1) (o := 3) (v := .int .i64 b.tl) (by first | assumption | (refine cellUp ?_; assumption) | go_cell)
        have b4 := kcb hb (b := w.heap.size + 1) (o := 4) (v := .int .i64 b.wo) (by first | assumption | (refine cellUp ?_; assumption) | go_cell)
        have B5 : Bl w w5 := Bl.tr (by first | exact B4 | exact Bl.tr B4 (by go_grown)) hb
        have l5 := ltb b0
        have zz5 := B5.size
        have HVC := Lib.hid hvc
        have HVA := Lib.hid (HVA.out.below (Bl.tr (by first | exact Bl.rf _ | go_grown) hb))
        have HVB := Lib.hid (HVB.out.below (Bl.tr (by first | exact Bl.rf _ | go_grown) hb))
        clear hb
        clear hvc
        go_wp2_with fail
        refine (rclashes_any A n c L per _ (HA.out.below (by first | exact B5 | exact Bl.tr B5 (by go_grown))) HS.out HC.out.1 HC.out.2).mono ?_
        rintro q6 w6 hq6
        obtain ⟨hb, ve, rfl, hve⟩ := HSU.out _ _ _ hq6
        clear hq6
        have a0 := kcb hb (b := w.heap.size) (o := 0) (v := .string a.nm) (by first | assumption | (refine cellUp ?_; assumption) | go_cell)
        have a1 := kcb hb (b := w.heap.size) (o := 1) (v := .int .i64 a.fr) (by first | assumption | (refine cellUp ?_; assumption) | go_cell)
        have a2 := kcb hb (b := w.heap.size) (o := 2) (v := .int .i64 a.to) (by first | assumption | (refine cellUp ?_; assumption) | go_cell)
        have a3 := kcb hb (b := w.heap.size) (o := 3) (v := .int .i64 a.tl) (by first | assumption | (refine cellUp ?_; assumption) | go_cell)
        have a4 := kcb hb (b := w.heap.size) (o := 4) (v := .int .i64 a.wo) (by first | assumption | (refine cellUp ?_; assumption) | go_cell)
        have b0 := kcb hb (b := w.heap.size + 1) (o := 0) (v := .string b.nm) (by first | assumption | (refine cellUp ?_; assumption) | go_cell)
        have b1 := kcb hb (b := w.heap.size + 1) (o := 1) (v := .int .i64 b.fr) (by first | assumption | (refine cellUp ?_; assumption) | go_cell)
        have b2 := kcb hb (b := w.heap.size + 1) (o := 2) (v := .int .i64 b.to) (by first | assumption | (refine cellUp ?_; assumption) | go_cell)
        have b3 := kcb hb (b := w.heap.size + 1) (o := 3) (v := .int .i64 b.tl) (by first | assumption | (refine cellUp ?_; assumption) | go_cell)
        have b4 := kcb hb (b := w.heap.size + 1) (o := 4) (v := .int .i64 b.wo) (by first | assumption | (refine cellUp ?_; assumption) | go_cell)
        have B6 : Bl w w6 := Bl.tr (by first | exact B5 | exact Bl.tr B5 (by go_grown)) hb
        have l6 := ltb b0
        have zz6 := B6.size
        have HVD2 := Lib.hid hve
        have HVA := Lib.hid (HVA.out.below (Bl.tr (by first | exact Bl.rf _ | go_grown) hb))
        have HVB := Lib.hid (HVB.out.below (Bl.tr (by first | exact Bl.rf _ | go_grown) hb))
        have HVC := Lib.hid (HVC.out.below (Bl.tr (by first | exact Bl.rf _ | go_grown) hb))
        clear hb
        clear hve
        go_wp2_with fail
        refine (turnTN_any a b per _ HSA.out HSB.out).mono ?_
        rintro q7 w7 ⟨rfl, hb⟩
        rw [HT.out.1.1, HT.out.1.2]
        have a0 := kcb hb (b := w.heap.size) (o := 0) (v := .string a.nm) (by first | assumption | (refine cellUp ?_; assumption) | go_cell)
        have a1 := kcb hb (b := w.heap.size) (o := 1) (v := .int .i64 a.fr) (by first | assumption | (refine cellUp ?_; assumption) | go_cell)
        have a2 := kcb hb (b := w.heap.size) (o := 2) (v := .int .i64 a.to) (by first | assumption | (refine cellUp ?_; assumption) | go_cell)
        have a3 := kcb hb (b := w.heap.size) (o := 3) (v := .int .i64 a.tl) (by first | assumption | (refine cellUp ?_; assumption) | go_cell)
        have a4 := kcb hb (b := w.heap.size) (o := 4) (v := .int .i64 a.wo) (by first | assumption | (refine cellUp ?_; assumption) | go_cell)
        have b0 := kcb hb (b := w.heap.size + 1) (o := 0) (v := .string b.nm) (by first | assumption | (refine cellUp ?_; assumption) | go_cell)
        have b1 := kcb hb (b := w.heap.size + 1) (o := 1) (v := .int .i64 b.fr) (by first | assumption | (refine cellUp ?_; assumption) | go_cell)
        have b2 := kcb hb (b := w.heap.size + 1) (o := 2) (v := .int .i64 b.to) (by first | assumption | (refine cellUp ?_; assumption) | go_cell)
        have b3 := kcb hb (b := w.heap.size + 1) (o := 3) (v := .int .i64 b.tl) (by first | assumption | (refine cellUp ?_; assumption) | go_cell)
        have b4 := kcb hb (b := w.heap.size + 1) (o := 4) (v := .int .i64 b.wo) (by first | assumption | (refine cellUp ?_; assumption) | go_cell)
        have B7 : Bl w w7 := Bl.tr (by first | exact B6 | exact Bl.tr B6 (by go_grown)) hb
        have l7 := ltb b0
        have zz7 := B7.size
        have HVA := Lib.hid (HVA.out.below (Bl.tr (by first | exact Bl.rf _ | go_grown) hb))
        have HVB := Lib.hid (HVB.out.below (Bl.tr (by first | exact Bl.rf _ | go_grown) hb))
        have HVC := Lib.hid (HVC.out.below (Bl.tr (by first | exact Bl.rf _ | go_grown) hb))
        have HVD2 := Lib.hid (HVD2.out.below (Bl.tr (by first | exact Bl.rf _ | go_grown) hb))
        clear hb
        go_wp2_with fail
        refine (rturnTN_any a b per _ HSA.out HSB.out).mono ?_
        rintro q8 w8 ⟨rfl, hb⟩
        rw [HT.out.1.1, HT.out.1.2]
        have a0 := kcb hb (b := w.heap.size) (o := 0) (v := .string a.nm) (by first | assumption | (refine cellUp ?_; assumption) | go_cell)
        have a1 := kcb hb (b := w.heap.size) (o := 1) (v := .int .i64 a.fr) (by first | assumption | (refine cellUp ?_; assumption) | go_cell)
        have a2 := kcb hb (b := w.heap.size) (o := 2) (v := .int .i64 a.to) (by first | assumption | (refine cellUp ?_; assumption) | go_cell)
        have a3 := kcb hb (b := w.heap.size) (o := 3) (v := .int .i64 a.tl) (by first | assumption | (refine cellUp ?_; assumption) | go_cell)
        have a4 := kcb hb (b := w.heap.size) (o := 4) (v := .int .i64 a.wo) (by first | assumption | (refine cellUp ?_; assumption) | go_cell)
        have b0 := kcb hb (b := w.heap.size + 1) (o := 0) (v := .string b.nm) (by first | assumption | (refine cellUp ?_; assumption) | go_cell)
        have b1 := kcb hb (b := w.heap.size + 1) (o := 1) (v := .int .i64 b.fr) (by first | assumption | (refine cellUp ?_; assumption) | go_cell)
        have b2 := kcb hb (b := w.heap.size + 1) (o := 2) (v := .int .i64 b.to) (by first | assumption | (refine cellUp ?_; assumption) | go_cell)
        have b3 := kcb hb (b := w.heap.size + 1) (o := 3) (v := .int .i64 b.tl) (by first | assumption | (refine cellUp ?_; assumption) | go_cell)
        have b4 := kcb hb (b := w.heap.size + 1) (o := 4) (v := .int .i64 b.wo) (by first | assumption | (refine cellUp ?_; assumption) | go_cell)
        have B8 : Bl w w8 := Bl.tr (by first | exact B7 | exact Bl.tr B7 (by go_grown)) hb
        have l8 := ltb b0
        have zz8 := B8.size
        have HVA := Lib.hid (HVA.out.below (Bl.tr (by first | exact Bl.rf _ | go_grown) hb))
        have HVB := Lib.hid (HVB.out.below (Bl.tr (by first | exact Bl.rf _ | go_grown) hb))
        have HVC := Lib.hid (HVC.out.below (Bl.tr (by first | exact Bl.rf _ | go_grown) hb))
        have HVD2 := Lib.hid (HVD2.out.below (Bl.tr (by first | exact Bl.rf _ | go_grown) hb))
        clear hb
        go_wp2_with fail
        refine (followsT_any a b per _ HSA.out HSB.out).mono ?_
        rintro q9 w9 ⟨rfl, hb⟩
        rw [HT.out.2.1, HT.out.2.2]
        have a0 := kcb hb (b := w.heap.size) (o := 0) (v := .string a.nm) (by first | assumption | (refine cellUp ?_; assumption) | go_cell)
        have a1 := kcb hb (b := w.heap.size) (o := 1) (v := .int .i64 a.fr) (by first | assumption | (refine cellUp ?_; assumption) | go_cell)
        have a2 := kcb hb (b := w.heap.size) (o := 2) (v := .int .i64 a.to) (by first | assumption | (refine cellUp ?_; assumption) | go_cell)
        have a3 := kcb hb (b := w.heap.size) (o := 3) (v := .int .i64 a.tl) (by first | assumption | (refine cellUp ?_; assumption) | go_cell)
        have a4 := kcb hb (b := w.heap.size) (o := 4) (v := .int .i64 a.wo) (by first | assumption | (refine cellUp ?_; assumption) | go_cell)
        have b0 := kcb hb (b := w.heap.size + 1) (o := 0) (v := .string b.nm) (by first | assumption | (refine cellUp ?_; assumption) | go_cell)
        have b1 := kcb hb (b := w.heap.size + 1) (o := 1) (v := .int .i64 b.fr) (by first | assumption | (refine cellUp ?_; assumption) | go_cell)
        have b2 := kcb hb (b := w.heap.size + 1) (o := 2) (v := .int .i64 b.to) (by first | assumption | (refine cellUp ?_; assumption) | go_cell)
        have b3 := kcb hb (b := w.heap.size + 1) (o := 3) (v := .int .i64 b.tl) (by first | assumption | (refine cellUp ?_; assumption) | go_cell)
        have b4 := kcb hb (b := w.heap.size + 1) (o := 4) (v := .int .i64 b.wo) (by first | assumption | (refine cellUp ?_; assumption) | go_cell)
        have B9 : Bl w w9 := Bl.tr (by first | exact B8 | exact Bl.tr B8 (by go_grown)) hb
        have l9 := ltb b0
        have zz9 := B9.size
        have HVA := Lib.hid (HVA.out.below (Bl.tr (by first | exact Bl.rf _ | go_grown) hb))
        have HVB := Lib.hid (HVB.out.below (Bl.tr (by first | exact Bl.rf _ | go_grown) hb))
        have HVC := Lib.hid (HVC.out.below (Bl.tr (by first | exact Bl.rf _ | go_grown) hb))
        have HVD2 := Lib.hid (HVD2.out.below (Bl.tr (by first | exact Bl.rf _ | go_grown) hb))
        clear hb
        go_wp2_with fail
        refine (rfollowsT_any a b per _ HSA.out HSB.out).mono ?_
        rintro q10 w10 ⟨rfl, hb⟩
        rw [HT.out.2.1, HT.out.2.2]
        have a0 := kcb hb (b := w.heap.size) (o := 0) (v := .string a.nm) (by first | assumption | (refine cellUp ?_; assumption) | go_cell)
        have a1 := kcb hb (b := w.heap.size) (o := 1) (v := .int .i64 a.fr) (by first | assumption | (refine cellUp ?_; assumption) | go_cell)
        have a2 := kcb hb (b := w.heap.size) (o := 2) (v := .int .i64 a.to) (by first | assumption | (refine cellUp ?_; assumption) | go_cell)
        have a3 := kcb hb (b := w.heap.size) (o := 3) (v := .int .i64 a.tl) (by first | assumption | (refine cellUp ?_; assumption) | go_cell)
        have a4 := kcb hb (b := w.heap.size) (o := 4) (v := .int .i64 a.wo) (by first | assumption | (refine cellUp ?_; assumption) | go_cell)
        have b0 := kcb hb (b := w.heap.size + 1) (o := 0) (v := .string b.nm) (by first | assumption | (refine cellUp ?_; assumption) | go_cell)
        have b1 := kcb hb (b := w.heap.size + 1) (o := 1) (v := .int .i64 b.fr) (by first | assumption | (refine cellUp ?_; assumption) | go_cell)
        have b2 := kcb hb (b := w.heap.size + 1) (o := 2) (v := .int .i64 b.to) (by first | assumption | (refine cellUp ?_; assumption) | go_cell)
        have b3 := kcb hb (b := w.heap.size + 1) (o := 3) (v := .int .i64 b.tl) (by first | assumption | (refine cellUp ?_; assumption) | go_cell)
        have b4 := kcb hb (b := w.heap.size + 1) (o := 4) (v := .int .i64 b.wo) (by first | assumption | (refine cellUp ?_; assumption) | go_cell)
        have B10 : Bl w w10 := Bl.tr (by first | exact B9 | exact Bl.tr B9 (by go_grown)) hb
        have l10 := ltb b0
        have zz10 := B10.size
        have HVA := Lib.hid (HVA.out.below (Bl.tr (by first | exact Bl.rf _ | go_grown) hb))
        have HVB := Lib.hid (HVB.out.below (Bl.tr (by first | exact Bl.rf _ | go_grown) hb))
        have HVC := Lib.hid (HVC.out.below (Bl.tr (by first | exact Bl.rf _ | go_grown) hb))
        have HVD2 := Lib.hid (HVD2.out.below (Bl.tr (by first | exact Bl.rf _ | go_grown) hb))
        clear hb
        go_wp2_with fail
        refine (validN_any A n c L _ (HA.out.below (by first | exact B10 | exact Bl.tr B10 (by go_grown))) HS.out HC.out.1 HC.out.2).mono ?_
        rintro q11 w11 ⟨rfl, hb⟩
        rw [HVD.out]
        have a0 := kcb hb (b := w.heap.size) (o := 0) (v := .string a.nm) (by first | assumption | (refine cellUp ?_; assumption) | go_cell)
        have a1 := kcb hb (b := w.heap.size) (o := 1) (v := .int .i64 a.fr) (by first | assumption | (refine cellUp ?_; assumption) | go_cell)
        have a2 := kcb hb (b := w.heap.size) (o := 2) (v := .int .i64 a.to) (by first | assumption | (refine cellUp ?_; assumption) | go_cell)
        have a3 := kcb hb (b := w.heap.size) (o := 3) (v := .int .i64 a.tl) (by first | assumption | (refine cellUp ?_; assumption) | go_cell)
        have a4 := kcb hb (b := w.heap.size) (o := 4) (v := .int .i64 a.wo) (by first | assumption | (refine cellUp ?_; assumption) | go_cell)
        have b0 := kcb hb (b := w.heap.size + 1) (o := 0) (v := .string b.nm) (by first | assumption | (refine cellUp ?_; assumption) | go_cell)
        have b1 := kcb hb (b := w.heap.size + 1) (o := 1) (v := .int .i64 b.fr) (by first | assumption | (refine cellUp ?_; assumption) | go_cell)
        have b2 := kcb hb (b := w.heap.size + 1) (o := 2) (v := .int .i64 b.to) (by first | assumption | (refine cellUp ?_; assumption) | go_cell)
        have b3 := kcb hb (b := w.heap.size + 1) (o := 3) (v := .int .i64 b.tl) (by first | assumption | (refine cellUp ?_; assumption) | go_cell)
        have b4 := kcb hb (b := w.heap.size + 1) (o := 4) (v := .int .i64 b.wo) (by first | assumption | (refine cellUp ?_; assumption) | go_cell)
        have B11 : Bl w w11 := Bl.tr (by first | exact B10 | exact Bl.tr B10 (by go_grown)) hb
        have l11 := ltb b0
        have zz11 := B11.size
        have HVA := Lib.hid (HVA.out.below (Bl.tr (by first | exact Bl.rf _ | go_grown) hb))
        have HVB := Lib.hid (HVB.out.below (Bl.tr (by first | exact Bl.rf _ | go_grown) hb))
        have HVC := Lib.hid (HVC.out.below (Bl.tr (by first | exact Bl.rf _ | go_grown) hb))
        have HVD2 := Lib.hid (HVD2.out.below (Bl.tr (by first | exact Bl.rf _ | go_grown) hb))
        clear hb
        go_wp2_with fail
        refine (rvalid8_any A n c L _ (HA.out.below (by first | exact B11 | exact Bl.tr B11 (by go_grown))) HS.out HC.out.1 HC.out.2).mono ?_
        rintro q12 w12 ⟨rfl, hb⟩
        rw [HVD.out]
        have a0 := kcb hb (b := w.heap.size) (o := 0) (v := .string a.nm) (by first | assumption | (refine cellUp ?_; assumption) | go_cell)
        have a1 := kcb hb (b := w.heap.size) (o := 1) (v := .int .i64 a.fr) (by first | assumption | (refine cellUp ?_; assumption) | go_cell)
        have a2 := kcb hb (b := w.heap.size) (o := 2) (v := .int .i64 a.to) (by first | assumption | (refine cellUp ?_; assumption) | go_cell)
        have a3 := kcb hb (b := w.heap.size) (o := 3) (v := .int .i64 a.tl) (by first | assumption | (refine cellUp ?_; assumption) | go_cell)
        have a4 := kcb hb (b := w.heap.size) (o := 4) (v := .int .i64 a.wo) (by first | assumption | (refine cellUp ?_; assumption) | go_cell)
        have b0 := kcb hb (b := w.heap.size + 1) (o := 0) (v := .string b.nm) (by first | assumption | (refine cellUp ?_; assumption) | go_cell)
        have b1 := kcb hb (b := w.heap.size + 1) (o := 1) (v := .int .i64 b.fr) (by first | assumption | (refine cellUp ?_; assumption) | go_cell)
        have b2 := kcb hb (b := w.heap.size + 1) (o := 2) (v := .int .i64 b.to) (by first | assumption | (refine cellUp ?_; assumption) | go_cell)
        have b3 := kcb hb (b := w.heap.size + 1) (o := 3) (v := .int .i64 b.tl) (by first | assumption | (refine cellUp ?_; assumption) | go_cell)
        have b4 := kcb hb (b := w.heap.size + 1) (o := 4) (v := .int .i64 b.wo) (by first | assumption | (refine cellUp ?_; assumption) | go_cell)
        have B12 : Bl w w12 := Bl.tr (by first | exact B11 | exact Bl.tr B11 (by go_grown)) hb
        have l12 := ltb b0
        have zz12 := B12.size
        have HVA := Lib.hid (HVA.out.below (Bl.tr (by first | exact Bl.rf _ | go_grown) hb))
        have HVB := Lib.hid (HVB.out.below (Bl.tr (by first | exact Bl.rf _ | go_grown) hb))
        have HVC := Lib.hid (HVC.out.below (Bl.tr (by first | exact Bl.rf _ | go_grown) hb))
        have HVD2 := Lib.hid (HVD2.out.below (Bl.tr (by first | exact Bl.rf _ | go_grown) hb))
        clear hb
        go_wp2_with fail
        refine (same_isL HVA.out HVB.out).mono ?_
        rintro q13 w13 ⟨rfl, hb⟩
        have a0 := kcb hb (b := w.heap.size) (o := 0) (v := .string a.nm) (by first | assumption | (refine cellUp ?_; assumption) | go_cell)
        have a1 := kcb hb (b := w.heap.size) (o := 1) (v := .int .i64 a.fr) (by first | assumption | (refine cellUp ?_; assumption) | go_cell)
        have a2 := kcb hb (b := w.heap.size) (o := 2) (v := .int .i64 a.to) (by first | assumption | (refine cellUp ?_; assumption) | go_cell)
        have a3 := kcb hb (b := w.heap.size) (o := 3) (v := .int .i64 a.tl) (by first | assumption | (refine cellUp ?_; assumption) | go_cell)
        have a4 := kcb hb (b := w.heap.size) (o := 4) (v := .int .i64 a.wo) (by first | assumption | (refine cellUp ?_; assumption) | go_cell)
        have b0 := kcb hb (b := w.heap.size + 1) (o := 0) (v := .string b.nm) (by first | assumption | (refine cellUp ?_; assumption) | go_cell)
        have b1 := kcb hb (b := w.heap.size + 1) (o := 1) (v := .int .i64 b.fr) (by first | assumption | (refine cellUp ?_; assumption) | go_cell)
        have b2 := kcb hb (b := w.heap.size + 1) (o := 2) (v := .int .i64 b.to) (by first | assumption | (refine cellUp ?_; assumption) | go_cell)
        have b3 := kcb hb (b := w.heap.size + 1) (o := 3) (v := .int .i64 b.tl) (by first | assumption | (refine cellUp ?_; assumption) | go_cell)
        have b4 := kcb hb (b := w.heap.size + 1) (o := 4) (v := .int .i64 b.wo) (by first | assumption | (refine cellUp ?_; assumption) | go_cell)
        have B13 : Bl w w13 := Bl.tr (by first | exact B12 | exact Bl.tr B12 (by go_grown)) hb
        have l13 := ltb b0
        have zz13 := B13.size
        have HVA := Lib.hid (HVA.out.below (Bl.tr (by first | exact Bl.rf _ | go_grown) hb))
        have HVB := Lib.hid (HVB.out.below (Bl.tr (by first | exact Bl.rf _ | go_grown) hb))
        have HVC := Lib.hid (HVC.out.below (Bl.tr (by first | exact Bl.rf _ | go_grown) hb))
        have HVD2 := Lib.hid (HVD2.out.below (Bl.tr (by first | exact Bl.rf _ | go_grown) hb))
        clear hb
        go_wp2_with fail
        refine (samePairs_any _ _ ls _ HLL.out HVC.out HVD2.out).mono ?_
        rintro q14 w14 ⟨rfl, hb⟩
        have a0 := kcb hb (b := w.heap.size) (o := 0) (v := .string a.nm) (by first | assumption | (refine cellUp ?_; assumption) | go_cell)
        have a1 := kcb hb (b := w.heap.size) (o := 1) (v := .int .i64 a.fr) (by first | assumption | (refine cellUp ?_; assumption) | go_cell)
        have a2 := kcb hb (b := w.heap.size) (o := 2) (v := .int .i64 a.to) (by first | assumption | (refine cellUp ?_; assumption) | go_cell)
        have a3 := kcb hb (b := w.heap.size) (o := 3) (v := .int .i64 a.tl) (by first | assumption | (refine cellUp ?_; assumption) | go_cell)
        have a4 := kcb hb (b := w.heap.size) (o := 4) (v := .int .i64 a.wo) (by first | assumption | (refine cellUp ?_; assumption) | go_cell)
        have b0 := kcb hb (b := w.heap.size + 1) (o := 0) (v := .string b.nm) (by first | assumption | (refine cellUp ?_; assumption) | go_cell)
        have b1 := kcb hb (b := w.heap.size + 1) (o := 1) (v := .int .i64 b.fr) (by first | assumption | (refine cellUp ?_; assumption) | go_cell)
        have b2 := kcb hb (b := w.heap.size + 1) (o := 2) (v := .int .i64 b.to) (by first | assumption | (refine cellUp ?_; assumption) | go_cell)
        have b3 := kcb hb (b := w.heap.size + 1) (o := 3) (v := .int .i64 b.tl) (by first | assumption | (refine cellUp ?_; assumption) | go_cell)
        have b4 := kcb hb (b := w.heap.size + 1) (o := 4) (v := .int .i64 b.wo) (by first | assumption | (refine cellUp ?_; assumption) | go_cell)
        have B14 : Bl w w14 := Bl.tr (by first | exact B13 | exact Bl.tr B13 (by go_grown)) hb
        have l14 := ltb b0
        have zz14 := B14.size
        clear hb
        go_wp2_with fail
        refine (awakeN_any _).mono ?_
        rintro q9 w9 ⟨rfl, hb⟩
        go_wp2_with fail
        go_ret
        exact ⟨rfl, Bl.tr B14 hb⟩
end Go.Proofs.Ytbieonibngbhjaa
