/-
  Contracts of package ledger and of its reference: Shifted.
-/
import Derived.Test.YtiaamhlcdnlahaaLM
import Derived.Test.YtiaamhlcdnlahaaLF
namespace Go.Proofs.Ytiaamhlcdnlahaa
open Go.RowKit Go.Maps
set_option linter.unusedSimpArgs false
set_option linter.unusedVariables false

def shE (L : Nat → En) (by_ : Int) (j : Nat) : En := ⟨(L j).day + by_, (L j).fo, (L j).er⟩
def okS (L : Nat → En) (by_ : Int) : Nat → Bool
  | 0 => true
  | k + 1 => okS L by_ k && dayB ((L k).day + by_)
theorem okS_no {L : Nat → En} {by_ : Int} {k n : Nat} (hk : k < n) (h : dayB ((L k).day + by_) = false) : okS L by_ n = false := by
  induction n with
  | zero => omega
  | succ n ih =>
    by_cases e : k = n
    · subst e; simp [okS, h]
    · simp [okS, ih (by omega)]
theorem okS_all {L : Nat → En} {by_ : Int} {n : Nat} (h : ∀ k, k < n → enB (L k) = true) : allE (shE L by_) n = okS L by_ n := by
  induction n with
  | zero => rfl
  | succ n ih =>
    rw [allE, okS, ih fun k hk => h k (by omega)]
    congr 1
    have := en_iff.1 (h n (by omega))
    show (dayB ((L n).day + by_) && decide (-86400000 ≤ (L n).er) && decide ((L n).er ≤ 86400000)) = _
    rw [decide_eq_true this.2.2.1, decide_eq_true this.2.2.2, Bool.and_true, Bool.and_true]
theorem okS_iff {L : Nat → En} {by_ : Int} {n : Nat} : okS L by_ n = true ↔ ∀ k, k < n → dayB ((L k).day + by_) = true := by
  constructor
  · intro h k hk
    cases e : dayB ((L k).day + by_) with
    | true => rfl
    | false => rw [okS_no hk e] at h; cases h
  · intro h
    induction n with
    | zero => rfl
    | succ n ih => rw [okS, ih fun k hk => h k (by omega), h n (by omega)]; rfl
/-- The error code of Shifted. -/
def shC (L : Nat → En) (n : Nat) (by_ : Int) : Int := if vlB L n = true then (if -182985 ≤ by_ ∧ by_ ≤ 182985 then (if okS L by_ n = true then 0 else 4) else 7) else 1
theorem sh_inv {L : Nat → En} {n : Nat} {by_ : Int} (h : vlB L n = false) : shC L n by_ = 1 := by simp [shC, h]
theorem sh_rng {L : Nat → En} {n : Nat} {by_ : Int} (h : vlB L n = true) (hr : ¬ (-182985 ≤ by_ ∧ by_ ≤ 182985)) : shC L n by_ = 7 := by rw [shC, if_pos h, if_neg hr]
theorem sh_lim {L : Nat → En} {n : Nat} {by_ : Int} (h : vlB L n = true) (hr : -182985 ≤ by_ ∧ by_ ≤ 182985) (ho : okS L by_ n = false) : shC L n by_ = 4 := by rw [shC, if_pos h, if_pos hr, if_neg (by rw [ho]; decide)]
theorem sh_ok {L : Nat → En} {n : Nat} {by_ : Int} (h : vlB L n = true) (hr : -182985 ≤ by_ ∧ by_ ≤ 182985) (ho : okS L by_ n = true) : shC L n by_ = 0 := by rw [shC, if_pos h, if_pos hr, if_pos ho]
theorem sh_iff {L : Nat → En} {n : Nat} {by_ : Int} : shC L n by_ = 0 ↔ vlB L n = true ∧ (-182985 ≤ by_ ∧ by_ ≤ 182985) ∧ okS L by_ n = true := by
  unfold shC
  split
  · rename_i h
    split
    · rename_i h2
      split
      · rename_i h3; exact ⟨fun _ => ⟨h, h2, h3⟩, fun _ => rfl⟩
      · rename_i h3; exact ⟨fun q => by omega, fun q => absurd q.2.2 h3⟩
    · rename_i h2; exact ⟨fun q => by omega, fun q => absurd q.2.1 h2⟩
  · rename_i h; exact ⟨fun q => by omega, fun q => absurd q.1 h⟩
/-- The first k are there already. -/
def mixE (k : Nat) (T : Nat → En) (j : Nat) : En := if j < k then T j else ⟨0, false, 0⟩
theorem mix_zero (n : Nat) (T : Nat → En) : (madeCells (Value.agg #[.int .i64 0, .bool false, .int .i64 0]).cells (n * 3)).toList = eC (mixE 0 T) n := by
  apply List.ext_getElem?
  intro j
  have hl := eC_len (mixE 0 T) n
  by_cases hj : j < n * 3
  · obtain ⟨d0, d1, d2⟩ := eC_at (mixE 0 T) (n := n) (j := j / 3) (by omega)
    have hm : (madeCells (Value.agg #[.int .i64 0, .bool false, .int .i64 0]).cells (n * 3)).toList[j]? = some (#[Value.int .i64 0, .bool false, .int .i64 0][j % 3]!) := by simp [madeCells, hj, Value.cells]
    rw [hm]
    rcases (show j % 3 = 0 ∨ j % 3 = 1 ∨ j % 3 = 2 by omega) with q | q | q
    · rw [show j = j / 3 * 3 by omega, d0, show j / 3 * 3 % 3 = 0 by omega]; rfl
    · rw [show j = j / 3 * 3 + 1 by omega, d1, show (j / 3 * 3 + 1) % 3 = 1 by omega]; rfl
    · rw [show j = j / 3 * 3 + 2 by omega, d2, show (j / 3 * 3 + 2) % 3 = 2 by omega]; rfl
  · rw [List.getElem?_eq_none (by simp [madeCells]; omega), List.getElem?_eq_none (by omega)]
theorem mix_set {n k : Nat} (hk : k < n) (T : Nat → En) : (((eC (mixE k T) n).set (k * 3) (.int .i64 (T k).day)).set (k * 3 + 1) (.bool (T k).fo)).set (k * 3 + 2) (.int .i64 (T k).er) = eC (mixE (k + 1) T) n := by
  apply List.ext_getElem?
  intro j
  have hl := eC_len (mixE k T) n
  have hl' := eC_len (mixE (k + 1) T) n
  by_cases hj : j < n * 3
  · obtain ⟨d0, d1, d2⟩ := eC_at (mixE k T) (n := n) (j := j / 3) (by omega)
    obtain ⟨e0, e1, e2⟩ := eC_at (mixE (k + 1) T) (n := n) (j := j / 3) (by omega)
    by_cases e : j / 3 = k
    · have hT : mixE (k + 1) T (j / 3) = T k := by rw [mixE, if_pos (by omega), e]
      rw [hT] at e0 e1 e2
      rw [e] at e0 e1 e2
      rcases (show j = k * 3 ∨ j = k * 3 + 1 ∨ j = k * 3 + 2 by omega) with q | q | q
      · subst q; rw [e0, List.getElem?_set_ne (by omega), List.getElem?_set_ne (by omega), List.getElem?_set_self (by omega)]
      · subst q; rw [e1, List.getElem?_set_ne (by omega), List.getElem?_set_self (by simp; omega)]
      · subst q; rw [e2, List.getElem?_set_self (by simp; omega)]
    · have hT : mixE (k + 1) T (j / 3) = mixE k T (j / 3) := by
        unfold mixE
        by_cases q : j / 3 < k
        · rw [if_pos q, if_pos (by omega)]
        · rw [if_neg q, if_neg (by omega)]
      rw [hT] at e0 e1 e2
      rw [List.getElem?_set_ne (by omega), List.getElem?_set_ne (by omega), List.getElem?_set_ne (by omega)]
      rcases (show j = j / 3 * 3 ∨ j = j / 3 * 3 + 1 ∨ j = j / 3 * 3 + 2 by omega) with q | q | q
      · rw [q, d0, e0]
      · rw [q, d1, e1]
      · rw [q, d2, e2]
  · rw [List.getElem?_eq_none (by simp; omega), List.getElem?_eq_none (by omega)]
theorem mix_full {n : Nat} (T : Nat → En) : eC (mixE n T) n = eC T n := eC_congr fun j hj => if_pos hj
theorem own_set3 {wr : World} {g n k : Nat} {T : Nat → En} {d e : Int} {f : Bool} (h : wr.ownsRow g 46 3 (.slice (some ⟨g, 0, none⟩) n n) n (eC (mixE k T) n)) (hk : k < n) (hT : T k = ⟨d, f, e⟩) :
    (((wr.setCell ⟨g, k * 3, none⟩ (.int .i64 d)).setCell ⟨g, k * 3 + 1, none⟩ (.bool f)).setCell ⟨g, k * 3 + 2, none⟩ (.int .i64 e)).ownsRow g 46 3 (.slice (some ⟨g, 0, none⟩) n n) n (eC (mixE (k + 1) T) n) ∧
      wr.grownBy (((wr.setCell ⟨g, k * 3, none⟩ (.int .i64 d)).setCell ⟨g, k * 3 + 1, none⟩ (.bool f)).setCell ⟨g, k * 3 + 2, none⟩ (.int .i64 e)) (some g) := by
  obtain ⟨h1, g1⟩ := h.stored (k * 3) (.int .i64 d)
  obtain ⟨h2, g2⟩ := h1.stored (k * 3 + 1) (.bool f)
  obtain ⟨h3, g3⟩ := h2.stored (k * 3 + 2) (.int .i64 e)
  refine ⟨?_, (g1.trans g2).trans g3⟩
  have hm := mix_set hk T
  rw [hT] at hm
  rw [← hm]
  exact h3
set_option maxRecDepth 100000 in
set_option maxHeartbeats 6400000 in
theorem shifted_any (A : Option Addr) (n c : Nat) (L : Nat → En) (by_ : Int) (w : World) (hA : El w A n L) (hn : n ≤ maxLen) :
    Calls Try.prog 52 #[.slice A n c, .int .i64 by_] w (MrgPost (shC L n by_) n (shE L by_) w) := by
  obtain ⟨i0, hi0, hz0, hz1, hz2⟩ := info_parts6N en_info
  have hmk : n ≤ 1000 → ∀ W : World, (Instr.makeSlice 22 (.int .i64 (n : Int)) (.int .i64 (n : Int))).run Try.prog W = .ok (.slice (some ⟨W.heap.size, 0, none⟩) n n) (W.alloc (.cells (madeCells #[Value.int .i64 0, .bool false, .int .i64 0] (n * 3)) 46)) := fun h W => by
    have hr := run_make (P := Try.prog) W 22 46 i0 _ Try.underlying22 hi0 hz0 .i64 .i64 n n (by omega) (Int.le_refl _) (by rw [hz2]; omega) (by omega)
    simp only [Int.toNat_natCast, hz1] at hr
    exact hr
  have H1 := Lib.hid (fun (X : World) (hb : Bl w X) => validE_any A n c L X (hA.below hb) hn)
  have HA := Lib.hid hA
  clear hA hi0 hz0 hz1 hz2
  unfold maxLen at hn
  cases hv : vlB L n with
  | false =>
    have HV := Lib.hid hv
    have HC := Lib.hid (show shC L n by_ = 1 from sh_inv hv)
    clear hv
    go_enter Try.func52, Try.ntmps52
    go_wp2_with fail
    refine (H1.out _ (Bl.rf _)).mono ?_
    rintro e1 w1 ⟨rfl, hb⟩
    rw [HV.out]
    go_wp2_with fail
    go_ret2
    exact ⟨hb, .inl ⟨by rw [HC.out]; decide, by rw [HC.out]; rfl⟩⟩
  | true =>
    have HV := Lib.hid hv
    have HE := Lib.hid (vl_iff.1 hv)
    have h1000 := HE.out.1
    clear hv
    by_cases r1 : -182985 ≤ by_
    rotate_left
    · have HC := Lib.hid (show shC L n by_ = 7 from sh_rng HV.out (by omega))
      have r1' : by_ < -182985 := by omega
      clear r1
      go_enter Try.func52, Try.ntmps52
      go_wp2_with fail
      refine (H1.out _ (Bl.rf _)).mono ?_
      rintro e1 w1 ⟨rfl, hb⟩
      rw [HV.out]
      go_wp2_with fail
      go_ret2
      exact ⟨hb, .inl ⟨by rw [HC.out]; decide, by rw [HC.out]; rfl⟩⟩
    by_cases r2 : by_ ≤ 182985
    rotate_left
    · have HC := Lib.hid (show shC L n by_ = 7 from sh_rng HV.out (by omega))
      have r2' : 182985 < by_ := by omega
      clear r2
      go_enter Try.func52, Try.ntmps52
      go_wp2_with fail
      refine (H1.out _ (Bl.rf _)).mono ?_
      rintro e1 w1 ⟨rfl, hb⟩
      rw [HV.out]
      go_wp2_with fail
      go_ret2
      exact ⟨hb, .inl ⟨by rw [HC.out]; decide, by rw [HC.out]; rfl⟩⟩
    have r1' : ¬ (by_ < -182985) := by omega
    have r2' : ¬ (182985 < by_) := by omega
    have HR := Lib.hid (And.intro r1 r2)
    go_enter Try.func52, Try.ntmps52
    go_wp2_with fail
    refine (H1.out _ (Bl.rf _)).mono ?_
    rintro e1 w1 ⟨rfl, hb⟩
    rw [HV.out]
    have hmk := hmk h1000
    have HB1 := Lib.hid hb
    have zb := hb.size
    clear hb r1 r2
    go_wp2_with fail
    obtain ⟨g, hg⟩ : ∃ g, g = w1.heap.size := ⟨_, rfl⟩
    have HO0 := Lib.hid (show (w1.alloc (.cells (madeCells #[Value.int .i64 0, .bool false, .int .i64 0] (n * 3)) 46)).ownsRow w1.heap.size 46 3 (.slice (some ⟨w1.heap.size, 0, none⟩) n n) n (eC (mixE 0 (shE L by_)) n) by
      rw [← mix_zero]; exact World.ownsRow_lit w1 _ n (Nat.le_refl _) (by unfold maxLen; omega) (size_madeCells _ _))
    have HW2 := Lib.hid (show Bl w (w1.alloc (.cells (madeCells #[Value.int .i64 0, .bool false, .int .i64 0] (n * 3)) 46)) from HB1.out.tr (by go_grown))
    have hlg : g < (w1.alloc (.cells (madeCells #[Value.int .i64 0, .bool false, .int .i64 0] (n * 3)) 46)).heap.size := by rw [World.size_alloc]; omega
    rw [← hg] at HO0
    rw [← hg]
    obtain ⟨w2, hw2⟩ : ∃ w2, w2 = w1.alloc (.cells (madeCells #[Value.int .i64 0, .bool false, .int .i64 0] (n * 3)) 46) := ⟨_, rfl⟩
    rw [← hw2] at HO0 HW2 hlg
    rw [← hw2]
    have HGG := Lib.hid (show w.heap.size ≤ g by omega)
    clear hw2 hg hmk
    go_loopw [23] (fun i wr => ∃ k : Nat, k ≤ n ∧ i = .int .i64 k ∧ Hid (okS L by_ k = true) ∧ Hid (wr.ownsRow g 46 3 (.slice (some ⟨g, 0, none⟩) n n) n (eC (mixE k (shE L by_)) n)) ∧ Hid (Bl w wr) ∧ g < wr.heap.size) (fun i _ => n - (RowKit.intOf i).toNat)
    case atStart => exact ⟨0, Nat.zero_le _, rfl, rfl, HO0.out, HW2.out, hlg⟩
    case round =>
      obtain ⟨k, hk, rfl, HK, HO, HB, hlr⟩ := hrel
      have zr := HB.out.size
      by_cases hlt : k < n
      · obtain ⟨b', off, rfl, hbb, hc⟩ := (HA.out.below HB.out) (by omega)
        obtain ⟨c0, c1, c2⟩ := hc k hlt
        clear hc
        have HEK := Lib.hid (en_iff.1 (HE.out.2 k hlt))
        have hek := HEK.out
        have HYE := Lib.hid (fun (q : dayB ((L k).day + by_) = true) => (show okS L by_ (k + 1) = true by rw [okS, HK.out, q]; rfl))
        have HNO := Lib.hid (fun (q : dayB ((L k).day + by_) = false) => (show shC L n by_ = 4 from sh_lim HV.out HR.out (okS_no hlt q)))
        have HT := Lib.hid (show shE L by_ k = ⟨(L k).day + by_, (L k).fo, (L k).er⟩ from rfl)
        obtain ⟨y, hy⟩ : ∃ y, y = L k := ⟨_, rfl⟩
        rw [← hy] at c0 c1 c2 hek HYE HNO HT
        clear hy HEK
        have s1 : wrap64 (y.day + by_) = y.day + by_ := IntWalk.wrap64_in _ (by omega)
        have s2 : IntKind.i64.wrap (y.day + by_) = y.day + by_ := IntWalk.i64_in _ (by omega)
        cases hq : dayB (y.day + by_) with
        | false =>
          have HQ := Lib.hid hq
          have HC := Lib.hid (HNO.out hq)
          clear hq
          go_wp2_with fail
          refine (isDay_any _ _).mono ?_
          rintro e2 w3 ⟨rfl, rfl⟩
          rw [HQ.out]
          go_wp2_with fail
          go_ret2
          exact ⟨HB.out.tr (by go_grown), .inl ⟨by rw [HC.out]; decide, by rw [HC.out]; rfl⟩⟩
        | true =>
          have HQ := Lib.hid hq
          have HKK := Lib.hid (HYE.out hq)
          clear hq
          have o0 := (HO.out.cellAt (k * 3) (by omega)).trans (eC_at _ hlt).1
          have o1 := (HO.out.cellAt (k * 3 + 1) (by omega)).trans (eC_at _ hlt).2.1
          have o2 := (HO.out.cellAt (k * 3 + 2) (by omega)).trans (eC_at _ hlt).2.2
          have f0 := HO.out.frozenAt (k * 3)
          have f1 := HO.out.frozenAt (k * 3 + 1)
          have f2 := HO.out.frozenAt (k * 3 + 2)
          go_wp2_with fail
          refine (isDay_any _ _).mono ?_
          rintro e2 w3 ⟨rfl, rfl⟩
          rw [HQ.out]
          go_wp2_with fail
          have H3 := own_set3 (T := shE L by_) HO.out hlt HT.out
          go_roundw
          case rel => exact ⟨k + 1, by omega, by go_num, HKK.out, H3.1.alloc _, Bl.tr (Below.grown HB.out H3.2 HB.out.size (fun j hj => by cases hj; exact HGG.out)) (by go_grown), by have := H3.2.size; (try simp only [World.size_alloc, World.size_setCell]); omega⟩
          case measure => simp [RowKit.intOf]; omega
      · obtain rfl : k = n := by omega
        have HC := Lib.hid (show shC L k by_ = 0 from sh_ok HV.out HR.out HK.out)
        go_wp2_with fail
        go_ret2
        exact ⟨HB.out, .inr ⟨HC.out, _, rfl, (isEn_of_own (by rw [← mix_full]; exact HO.out)).mono HGG.out⟩⟩
theorem shE_snoc (L : Nat → En) (by_ : Int) (k : Nat) {x : En} (hx : x = shE L by_ k) : eC (catE k (shE L by_) (fun _ => x)) (k + 1) = eC (shE L by_) (k + 1) := eC_congr fun j hj => by
  unfold catE
  by_cases q : j < k
  · rw [if_pos q]
  · rw [if_neg q, show j = k by omega]; exact hx
set_option maxRecDepth 100000 in
set_option maxHeartbeats 6400000 in
theorem rshifted_any (A : Option Addr) (n c : Nat) (L : Nat → En) (by_ : Int) (w : World) (hA : El w A n L) (hn : n ≤ maxLen) :
    Calls Try.prog 53 #[.slice A n c, .int .i64 by_] w (MrgPost (shC L n by_) n (shE L by_) w) := by
  have H1 := Lib.hid (fun (X : World) (hb : Bl w X) => rvalidE_any A n c L X (hA.below hb) hn)
  have HA := Lib.hid hA
  clear hA
  unfold maxLen at hn
  cases hv : vlB L n with
  | false =>
    have HV := Lib.hid hv
    have HC := Lib.hid (show shC L n by_ = 1 from sh_inv hv)
    clear hv
    go_enter Try.func53, Try.ntmps53
    go_wp2_with fail
    refine (H1.out _ (Bl.rf _)).mono ?_
    rintro e1 w1 ⟨rfl, hb⟩
    rw [HV.out]
    go_wp2_with fail
    go_ret2
    exact ⟨hb, .inl ⟨by rw [HC.out]; decide, by rw [HC.out]; rfl⟩⟩
  | true =>
    have HV := Lib.hid hv
    have HE := Lib.hid (vl_iff.1 hv)
    have h1000 := HE.out.1
    clear hv
    by_cases r1 : -182985 ≤ by_
    rotate_left
    · have HC := Lib.hid (show shC L n by_ = 7 from sh_rng HV.out (by omega))
      have r1' : by_ < -182985 := by omega
      clear r1
      go_enter Try.func53, Try.ntmps53
      go_wp2_with fail
      refine (H1.out _ (Bl.rf _)).mono ?_
      rintro e1 w1 ⟨rfl, hb⟩
      rw [HV.out]
      go_wp2_with fail
      go_ret2
      exact ⟨hb, .inl ⟨by rw [HC.out]; decide, by rw [HC.out]; rfl⟩⟩
    by_cases r2 : by_ ≤ 182985
    rotate_left
    · have HC := Lib.hid (show shC L n by_ = 7 from sh_rng HV.out (by omega))
      have r2' : 182985 < by_ := by omega
      clear r2
      go_enter Try.func53, Try.ntmps53
      go_wp2_with fail
      refine (H1.out _ (Bl.rf _)).mono ?_
      rintro e1 w1 ⟨rfl, hb⟩
      rw [HV.out]
      go_wp2_with fail
      go_ret2
      exact ⟨hb, .inl ⟨by rw [HC.out]; decide, by rw [HC.out]; rfl⟩⟩
    have r1' : ¬ (by_ < -182985) := by omega
    have r2' : ¬ (182985 < by_) := by omega
    have HR := Lib.hid (And.intro r1 r2)
    go_enter Try.func53, Try.ntmps53
    go_wp2_with fail
    refine (H1.out _ (Bl.rf _)).mono ?_
    rintro e1 w1 ⟨rfl, hb⟩
    rw [HV.out]
    have HB1 := Lib.hid hb
    have zb := hb.size
    clear hb r1 r2
    go_wp2_with fail
    have NV := Lib.hid (show w1.ownsRow w.heap.size 46 3 (.slice none 0 0) 0 (eC (shE L by_) 0) from World.ownsRow_nil _ _ _ _)
    go_loopw [6, 20] (fun v i wr => ∃ (k : Nat) (sv : Value), sv = v ∧ k ≤ n ∧ i = .int .i64 k ∧ Hid (wr.ownsRow w.heap.size 46 3 sv k (eC (shE L by_) k)) ∧ Hid (Bl w wr)) (fun _ i _ => n - (RowKit.intOf i).toNat)
    case atStart => exact ⟨0, _, rfl, Nat.zero_le _, rfl, NV.out, HB1.out⟩
    case round =>
      obtain ⟨k, sv, rfl, hk, rfl, HO, HB⟩ := hrel
      have zr := HB.out.size
      by_cases hlt : k < n
      · obtain ⟨b', off, rfl, hbb, hc⟩ := (HA.out.below HB.out) (by omega)
        obtain ⟨c0, c1, c2⟩ := hc k hlt
        clear hc
        have hek := en_iff.1 (HE.out.2 k hlt)
        have HT := Lib.hid (show (⟨(L k).day + by_, (L k).fo, (L k).er⟩ : En) = shE L by_ k from rfl)
        obtain ⟨y, hy⟩ : ∃ y, y = L k := ⟨_, rfl⟩
        rw [← hy] at c0 c1 c2 hek HT
        clear hy
        have s1 : wrap64 (y.day + by_) = y.day + by_ := IntWalk.wrap64_in _ (by omega)
        have s2 : IntKind.i64.wrap (y.day + by_) = y.day + by_ := IntWalk.i64_in _ (by omega)
        go_wp2_with (at_builtin; refine wpList_append_el rfl _ _ rfl w.heap.size _ k (shE L by_) rfl (own_bN HO.out (by go_grown)) (some ⟨wr.heap.size + 1, 0, none⟩) 1 1 (fun _ => ⟨y.day + by_, y.fo, y.er⟩) rfl (el_one (by go_cell) (by go_cell) (by go_cell)) (by omega) (by (try simp only [World.size_alloc]); omega) ?_; intro v9 w9 hown9 hg9 hl9)
        have HO9 := Lib.hid (show w9.ownsRow w.heap.size 46 3 v9 (k + 1) (eC (shE L by_) (k + 1)) by rw [← shE_snoc L by_ k HT.out]; exact hown9)
        have HB9 := Lib.hid (show Bl w w9 from below_own (HB.out.tr (by go_grown)) (own_bN HO.out (by go_grown)) (Nat.le_refl _) hg9)
        clear hown9 hg9 hl9
        go_roundw
        case rel => exact ⟨k + 1, _, rfl, by omega, by go_num, HO9.out, HB9.out⟩
        case measure => simp [RowKit.intOf]; omega
      · obtain rfl : k = n := by omega
        have HI := Lib.hid (isEn_of_own HO.out)
        obtain ⟨A2, c2, rfl, q1, q2, q3, q4⟩ := HI.out
        have HS := Lib.hid q3
        have HVS := Lib.hid (show vlB (shE L by_) k = okS L by_ k by rw [vlB, okS_all HE.out.2, decide_eq_true h1000, Bool.true_and])
        clear q1 q2 q3 q4
        cases hq : okS L by_ k with
        | false =>
          have HQ := Lib.hid hq
          have HC := Lib.hid (show shC L k by_ = 4 from sh_lim HV.out HR.out hq)
          clear hq
          go_wp2_with fail
          refine (rvalidE_any A2 k c2 (shE L by_) _ HS.out (by unfold maxLen; omega)).mono ?_
          rintro e4 w4 ⟨rfl, hb4⟩
          rw [HVS.out, HQ.out]
          go_wp2_with fail
          go_ret2
          exact ⟨HB.out.tr hb4, .inl ⟨by rw [HC.out]; decide, by rw [HC.out]; rfl⟩⟩
        | true =>
          have HQ := Lib.hid hq
          have HC := Lib.hid (show shC L k by_ = 0 from sh_ok HV.out HR.out hq)
          clear hq
          go_wp2_with fail
          refine (rvalidE_any A2 k c2 (shE L by_) _ HS.out (by unfold maxLen; omega)).mono ?_
          rintro e4 w4 ⟨rfl, hb4⟩
          rw [HVS.out, HQ.out]
          go_wp2_with fail
          go_ret2
          exact ⟨HB.out.tr hb4, .inr ⟨HC.out, _, rfl, HI.out.below hb4⟩⟩
end Go.Proofs.Ytiaamhlcdnlahaa
