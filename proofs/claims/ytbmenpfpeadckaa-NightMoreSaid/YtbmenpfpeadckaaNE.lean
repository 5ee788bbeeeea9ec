/-
  Contracts of package night: chances that no cloud is in the way of; what most functions check; Turn, Follows.
-/
import Derived.Test.YtbmenpfpeadckaaND
namespace Go.Proofs.Ytbmenpfpeadckaa
open Go.RowKit
set_option linter.unusedSimpArgs false
set_option linter.unusedVariables false

def intL (l : List Int) : List Value := l.map (Value.int .i64)
theorem intL_len (l : List Int) : (intL l).length = l.length := by simp [intL]
theorem intL_snoc (l : List Int) (x : Int) : intL (l ++ [x]) = intL l ++ [.int .i64 x] := by simp [intL]
/-- A slice value reads as a list of numbers, in memory behind a block. -/
def IsL (w : World) (lo : Nat) (v : Value) (l : List Int) : Prop :=
  ∃ A c, v = .slice A l.length c ∧ l.length ≤ c ∧ c ≤ maxLen ∧ Sl w A l.length (fun j => l.getD j 0) ∧ ∀ a, A = some a → lo ≤ a.block
theorem isL_of_own {w : World} {base : Nat} {e : TypeId} {v : Value} {n : Nat} {l : List Int} (hn : n = l.length) (h : w.ownsRow base e 1 v n (intL l)) : IsL w base v l := by
  subst hn
  rcases h.2 with ⟨rfl, h0⟩ | ⟨g, cap, cur, rfl, hb, hg, hnc, hcm, hcs, htake⟩
  · exact ⟨none, 0, by rw [h0], by omega, Nat.zero_le _, fun hn => by omega, fun a e => by cases e⟩
  · refine ⟨some ⟨g, 0, none⟩, cap, rfl, hnc, hcm, fun hn => ⟨g, 0, rfl, (Array.getElem?_eq_some_iff.1 hg).1, fun j hj => ?_⟩, fun a e => by cases e; exact hb⟩
    have := h.cellAt j (by omega)
    rw [Nat.zero_add, this]
    simp [intL, List.getD, List.getElem?_eq_getElem hj]
theorem IsL.below {w w' : World} {lo : Nat} {v : Value} {l : List Int} (h : IsL w lo v l) (hb : Bl w w') : IsL w' lo v l := by
  obtain ⟨A, c, h0, h1, h2, h3, h4⟩ := h
  exact ⟨A, c, h0, h1, h2, h3.below hb, h4⟩
theorem IsL.mono {w : World} {lo lo' : Nat} {v : Value} {l : List Int} (h : IsL w lo v l) (hl : lo' ≤ lo) : IsL w lo' v l := by
  obtain ⟨A, c, h0, h1, h2, h3, h4⟩ := h
  exact ⟨A, c, h0, h1, h2, h3, fun a e => Nat.le_trans hl (h4 a e)⟩
/-- The chances that no cloud is in the way of. -/
def clrL (S : Nat → Sp2) (m : Nat) (L : Nat → Ch) : Nat → List Int
  | 0 => []
  | k + 1 => if clrB S m (L k) = true then clrL S m L k ++ [(k : Int)] else clrL S m L k
theorem clrL_len (S : Nat → Sp2) (m : Nat) (L : Nat → Ch) (k : Nat) : (clrL S m L k).length ≤ k := by
  induction k with
  | zero => exact Nat.le_refl _
  | succ k ih =>
    unfold clrL
    split
    · simp; omega
    · omega
theorem own_bN {w w' : World} {base : Nat} {e : TypeId} {size : Nat} {v : Value} {n : Nat} {xs : List Value} (h : w.ownsRow base e size v n xs) (hb : Bl w w') : w'.ownsRow base e size v n xs := by
  have hg : w.grownBy w' none := ⟨hb.os, hb.tape, hb.output, hb.size, fun i hi _ => hb.block i hi⟩
  refine h.kept hg ?_
  cases hv : v.ownBlock with
  | none => exact .inl rfl
  | some k => exact .inr (by simp)
set_option maxRecDepth 100000 in
set_option maxHeartbeats 3200000 in
theorem clearOf_any (A : Option Addr) (n c : Nat) (L : Nat → Ch) (B : Option Addr) (m d : Nat) (S : Nat → Sp2) (w : World) (hA : Chl w A n L) (hn : n ≤ 20) (hB : Spl w B m S) (hm : m ≤ maxLen) :
    Calls Try.prog 36 #[.slice A n c, .slice B m d] w fun e w' => Bl w w' ∧ ∃ v, e = .returned v ∧ w'.ownsRow w.heap.size 3 1 v (clrL S m L n).length (intL (clrL S m L n)) := by
  obtain ⟨i0, hi0, hz0, hz1, hz2⟩ := info_parts6N int_infoN
  have HI := Lib.hid (And.intro hi0 (And.intro hz0 (And.intro hz1 hz2)))
  clear hi0 hz0 hz1 hz2
  have HA := Lib.hid hA
  have HBS := Lib.hid hB
  have HM := Lib.hid hm
  clear hA hB hm
  go_enter Try.func36, Try.ntmps36
  go_wp2_with fail
  have NV : World.ownsRow w w.heap.size 3 1 (.slice none 0 0) 0 [] := World.ownsRow_nil _ _ _ _
  go_loopw [5, 10] (fun v i wr => ∃ k : Nat, k ≤ n ∧ i = .int .i64 k ∧ Hid (wr.ownsRow w.heap.size 3 1 v (clrL S m L k).length (intL (clrL S m L k))) ∧ Bl w wr) (fun _ i _ => n - (RowKit.intOf i).toNat)
  case atStart => exact ⟨0, Nat.zero_le _, rfl, NV, Bl.rf _⟩
  case round =>
    obtain ⟨k, hk, rfl, HO, hB⟩ := hrel
    have zB := hB.size
    by_cases hlt : k < n
    · obtain ⟨b, off, rfl, hbb, hcc⟩ := (HA.out.below hB) (by omega)
      obtain ⟨c0, c1, c2, c3, c4⟩ := hcc k hlt
      clear hcc
      have len := clrL_len S m L k
      have HYE := Lib.hid (fun (q : clrB S m (L k) = true) => (show clrL S m L (k + 1) = clrL S m L k ++ [(k : Int)] by rw [clrL, if_pos q]))
      have HNO := Lib.hid (fun (q : clrB S m (L k) = false) => (show clrL S m L (k + 1) = clrL S m L k by rw [clrL, if_neg (by rw [q]; decide)]))
      obtain ⟨x, hx⟩ : ∃ x, x = L k := ⟨_, rfl⟩
      rw [← hx] at c0 c1 c2 c3 c4 HYE HNO
      clear hx
      have HBB := Lib.hid hB
      go_wp2_with fail
      refine (isClear_any x B m d S _ (HBS.out.below (hB.tr (by go_grown))) HM.out).mono ?_
      rintro e1 w1 ⟨rfl, hb⟩
      have X1 : Bl wr w1 := Below.trans (by go_grown) (hb.mono (by (try simp only [World.size_alloc]); omega))
      have z1 := X1.size
      have HO1 := Lib.hid (own_bN HO.out X1)
      have B1 := hB.tr X1
      clear hb
      cases q : clrB S m x with
      | true =>
        have HL := Lib.hid (HYE.out q)
        have hnew := Lib.hid (heap_alloc_new w1 (.cells #[.int .i64 (k : Int)] 3))
        go_wp2_with (at_builtin; refine wpList_append_lies _ rfl _ _ _ rfl w.heap.size 3 i0 _ 1 8 Try.underlying24 HI.out.1 HI.out.2.1 HI.out.2.2.1 HI.out.2.2.2 rfl (by omega) _ (clrL S m L k).length (intL (clrL S m L k)) rfl (HO1.out.alloc _) ⟨w1.heap.size, 0, none⟩ 1 1 [.int .i64 (k : Int)] rfl rfl (World.news_of_block hnew.out) (by simp [Value.oneCell']) (by omega) (by unfold maxLen; omega) (by omega) (by (try simp only [World.size_alloc]); omega) _ rfl ?_; intro gg cap w9 hown1 hgrow hat hlt9)
        have HO9 := Lib.hid (show w9.ownsRow w.heap.size 3 1 (.slice (some ⟨gg, 0, none⟩) ((clrL S m L k).length + 1) cap) (clrL S m L (k + 1)).length (intL (clrL S m L (k + 1))) by
          rw [HL.out, intL_snoc, List.length_append, List.length_singleton]; exact hown1)
        have hl := HO1.out.lt
        have B9 : Bl w w9 := Below.grown (w := w1.alloc (.cells #[.int .i64 (k : Int)] 3)) (B1.tr (by go_grown)) hgrow (by (try simp only [World.size_alloc]); omega) (fun j hj => (hl j hj).1)
        clear hown1 hgrow hat
        go_roundw
        case rel => exact ⟨k + 1, by omega, by go_num, HO9.out, B9⟩
        case measure => simp [RowKit.intOf]; omega
      | false =>
        have HL := Lib.hid (HNO.out q)
        have HO9 := Lib.hid (show w1.ownsRow w.heap.size 3 1 _ (clrL S m L (k + 1)).length (intL (clrL S m L (k + 1))) by rw [HL.out]; exact HO1.out)
        go_wp2_with fail
        go_roundw
        case rel => exact ⟨k + 1, by omega, by go_num, HO9.out, B1⟩
        case measure => simp [RowKit.intOf]; omega
    · obtain rfl : k = n := by omega
      go_wp2_with fail
      go_ret
      exact ⟨hB, _, rfl, HO.out⟩
/-- What most functions check. -/
def chkN (L : Nat → Ch) (n : Nat) (S : Nat → Sp2) (m : Nat) (per : Int) : Int := if (vdB L n && cldB S m) = true then (if inB per 0 10000 = true then 0 else 7) else 1
set_option maxRecDepth 100000 in
set_option maxHeartbeats 1600000 in
theorem checkN_any (A : Option Addr) (n c : Nat) (L : Nat → Ch) (B : Option Addr) (m d : Nat) (S : Nat → Sp2) (per : Int) (w : World) (hA : Chl w A n L) (hS : ∀ j, j < n → (L j).nm.size ≤ maxLen) (hn : n ≤ c) (hc : c ≤ maxLen) (hB : Spl w B m S) (hm : m ≤ maxLen) :
    Calls Try.prog 34 #[.slice A n c, .slice B m d, .int .i64 per] w fun e w' => e = .returned (.int .i64 (chkN L n S m per)) ∧ Bl w w' := by
  have HV := Lib.hid (fun (X : World) (hb : Bl w X) => validN_any A n c L X (hA.below hb) hS hn hc)
  have HC := Lib.hid (fun (X : World) (hb : Bl w X) => areClouds_any B m d S X (hB.below hb) hm)
  clear hA hB hS
  cases hv : vdB L n with
  | false =>
    have H1 := Lib.hid hv
    have HR := Lib.hid (show chkN L n S m per = 1 by simp [chkN, hv])
    clear hv
    go_enter Try.func34, Try.ntmps34
    go_wp2_with fail
    refine (HV.out _ (by first | exact Bl.rf _ | go_grown)).mono ?_
    rintro e1 w1 ⟨rfl, hb⟩
    rw [H1.out]
    go_wp2_with fail
    go_ret
    exact ⟨ret_intN HR.out.symm, hb⟩
  | true =>
    have H1 := Lib.hid hv
    cases hk : cldB S m with
    | false =>
      have H2 := Lib.hid hk
      have HR := Lib.hid (show chkN L n S m per = 1 by simp [chkN, hk])
      clear hv hk
      go_enter Try.func34, Try.ntmps34
      go_wp2_with fail
      refine (HV.out _ (by first | exact Bl.rf _ | go_grown)).mono ?_
      rintro e1 w1 ⟨rfl, hb⟩
      rw [H1.out]
      go_wp2_with fail
      refine (HC.out _ hb).mono ?_
      rintro e2 w2 ⟨rfl, hb2⟩
      rw [H2.out]
      go_wp2_with fail
      go_ret
      exact ⟨ret_intN HR.out.symm, hb.tr hb2⟩
    | true =>
      have H2 := Lib.hid hk
      cases hp : inB per 0 10000 with
      | false =>
        have H3 := Lib.hid hp
        have HR := Lib.hid (show chkN L n S m per = 7 by simp [chkN, hv, hk, hp])
        clear hv hk hp
        go_enter Try.func34, Try.ntmps34
        go_wp2_with fail
        refine (HV.out _ (by first | exact Bl.rf _ | go_grown)).mono ?_
        rintro e1 w1 ⟨rfl, hb⟩
        rw [H1.out]
        go_wp2_with fail
        refine (HC.out _ hb).mono ?_
        rintro e2 w2 ⟨rfl, hb2⟩
        rw [H2.out]
        go_wp2_with fail
        refine (isPerN_any per _).mono ?_
        rintro e3 w3 ⟨rfl, rfl⟩
        rw [H3.out]
        go_wp2_with fail
        go_ret
        exact ⟨ret_intN HR.out.symm, hb.tr hb2⟩
      | true =>
        have H3 := Lib.hid hp
        have HR := Lib.hid (show chkN L n S m per = 0 by simp [chkN, hv, hk, hp])
        clear hv hk hp
        go_enter Try.func34, Try.ntmps34
        go_wp2_with fail
        refine (HV.out _ (by first | exact Bl.rf _ | go_grown)).mono ?_
        rintro e1 w1 ⟨rfl, hb⟩
        rw [H1.out]
        go_wp2_with fail
        refine (HC.out _ hb).mono ?_
        rintro e2 w2 ⟨rfl, hb2⟩
        rw [H2.out]
        go_wp2_with fail
        refine (isPerN_any per _).mono ?_
        rintro e3 w3 ⟨rfl, rfl⟩
        rw [H3.out]
        go_wp2_with fail
        go_ret
        exact ⟨ret_intN HR.out.symm, hb.tr hb2⟩
end Go.Proofs.Ytbmenpfpeadckaa
