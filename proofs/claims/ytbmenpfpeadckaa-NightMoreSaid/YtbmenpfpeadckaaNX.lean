/-
  Contracts of package night and of its reference: Worth.
-/
import Derived.Test.YtbmenpfpeadckaaNW
namespace Go.Proofs.Ytbmenpfpeadckaa
open Go.RowKit
set_option linter.unusedSimpArgs false
set_option linter.unusedVariables false

theorem inx_of {n : Nat} {l : List Int} (h : ixNo n (fun j => l.getD j 0) l.length = false) : inx n l := fun i hi => by
  obtain ⟨j, hj, rfl⟩ := List.mem_iff_getElem.1 hi
  have := ixNo_at h hj
  rw [List.getD, List.getElem?_eq_getElem hj] at this
  exact this
/-- What Worth returns. -/
def wrR (L : Nat → Ch) (n : Nat) (l : List Int) : Int × Int :=
  if vdB L n = true then (if ixNo n (fun j => l.getD j 0) l.length = true then (0, 5) else if anyTo (dscB (fun j => l.getD j 0)) l.length = true then (0, 9) else (wthF L l l.length, 0)) else (0, 1)
theorem wr_a {L : Nat → Ch} {n : Nat} {l : List Int} (h : vdB L n = false) : wrR L n l = (0, 1) := by simp [wrR, h]
theorem wr_b {L : Nat → Ch} {n : Nat} {l : List Int} (h : vdB L n = true) (h2 : ixNo n (fun j => l.getD j 0) l.length = true) : wrR L n l = (0, 5) := by rw [wrR, if_pos h, if_pos h2]
theorem wr_c {L : Nat → Ch} {n : Nat} {l : List Int} (h : vdB L n = true) (h2 : ixNo n (fun j => l.getD j 0) l.length = false) (h3 : anyTo (dscB (fun j => l.getD j 0)) l.length = true) : wrR L n l = (0, 9) := by
  rw [wrR, if_pos h, if_neg (by rw [h2]; decide), if_pos h3]
theorem wr_d {L : Nat → Ch} {n : Nat} {l : List Int} (h : vdB L n = true) (h2 : ixNo n (fun j => l.getD j 0) l.length = false) (h3 : anyTo (dscB (fun j => l.getD j 0)) l.length = false) : wrR L n l = (wthF L l l.length, 0) := by
  rw [wrR, if_pos h, if_neg (by rw [h2]; decide), if_neg (by rw [h3]; decide)]
set_option maxRecDepth 100000 in
set_option maxHeartbeats 3200000 in
theorem worthT_any (A : Option Addr) (n c : Nat) (L : Nat → Ch) (B : Option Addr) (m d : Nat) (l : List Int) (w : World) (hA : Chl w A n L) (hS : ∀ j, j < n → (L j).nm.size ≤ maxLen) (hn : n ≤ c) (hc : c ≤ maxLen) (hl : IsL w 0 (.slice B m d) l) (hm : m = l.length) (h4 : l.length ≤ 400) :
    Calls Try.prog 18 #[.slice A n c, .slice B m d] w fun e w' => e = .returned (.tuple #[.int .i64 (wrR L n l).1, .int .i64 (wrR L n l).2]) ∧ Bl w w' := by
  have HV := Lib.hid (validN_any A n c L w hA hS hn hc)
  have HA := Lib.hid hA
  have HL := Lib.hid hl
  have HM := Lib.hid (show m ≤ maxLen by unfold maxLen; omega)
  have HM4 := Lib.hid h4
  have HME := Lib.hid hm
  have HS := Lib.hid (show Sl w B m (fun j => l.getD j 0) from by
    obtain ⟨A', c', e, _, _, hs, _⟩ := hl
    injection e with e1 e2 e3
    subst e1
    rw [hm]; exact hs)
  have h400 : m ≤ 400 := by omega
  clear hA hS hl hc
  cases hv : vdB L n with
  | false =>
    have HVA := Lib.hid hv
    have HR := Lib.hid (wr_a (l := l) hv)
    clear hv hm h4
    go_enter Try.func18, Try.ntmps18
    go_wp2_with fail
    refine (HV.out).mono ?_
    rintro e1 w1 ⟨rfl, hb⟩
    rw [HVA.out]
    have B1 := Lib.hid hb
    clear hb
    go_wp2_with fail
    refine bodyPost_ret (v := .tuple #[.int .i64 (wrR L n l).1, .int .i64 (wrR L n l).2]) ?_ rfl ⟨rfl, B1.out⟩
    rw [HR.out]
    simp [results, Try.results18, go_sem]
  | true =>
    have HVA := Lib.hid hv
    have H20 := Lib.hid (vd_lenQ hv)
    have HWO := Lib.hid (fun j (hj : j < n) => (show 0 ≤ (L j).wo ∧ (L j).wo ≤ 1000000 from ⟨(vc_iff.1 (ms_vc (vd_at hv hj)).2).2.2.2.2.2.2.1, (vc_iff.1 (ms_vc (vd_at hv hj)).2).2.2.2.2.2.2.2⟩))
    cases hx : ixNo n (fun j => l.getD j 0) m with
    | true =>
      have HIX := Lib.hid hx
      have HR := Lib.hid (wr_b hv (by rw [← hm]; exact hx))
      clear hv hx hm h4
      go_enter Try.func18, Try.ntmps18
      go_wp2_with fail
      refine (HV.out).mono ?_
      rintro e1 w1 ⟨rfl, hb⟩
      rw [HVA.out]
      have B1 := Lib.hid hb
      clear hb
      go_wp2_with fail
      refine (areIndexes_any A n c B m d (fun j => l.getD j 0) _ (HS.out.below B1.out) HM.out).mono ?_
      rintro e2 w2 ⟨rfl, hb⟩
      rw [HIX.out]
      have B2 := Lib.hid (B1.out.tr hb)
      clear hb
      go_wp2_with fail
      refine bodyPost_ret (v := .tuple #[.int .i64 (wrR L n l).1, .int .i64 (wrR L n l).2]) ?_ rfl ⟨rfl, B2.out⟩
      rw [HR.out]
      simp [results, Try.results18, go_sem]
    | false =>
      have HIX := Lib.hid hx
      have HIN := Lib.hid (inx_of (n := n) (l := l) (by rw [← hm]; exact hx))
      cases hd : anyTo (dscB (fun j => l.getD j 0)) m with
      | true =>
        have HD := Lib.hid hd
        have HR := Lib.hid (wr_c hv (by rw [← hm]; exact hx) (by rw [← hm]; exact hd))
        clear hv hx hd hm h4
        go_enter Try.func18, Try.ntmps18
        go_wp2_with fail
        refine (HV.out).mono ?_
        rintro e1 w1 ⟨rfl, hb⟩
        rw [HVA.out]
        have B1 := Lib.hid hb
        clear hb
        go_wp2_with fail
        refine (areIndexes_any A n c B m d (fun j => l.getD j 0) _ (HS.out.below B1.out) HM.out).mono ?_
        rintro e2 w2 ⟨rfl, hb⟩
        rw [HIX.out]
        have B2 := Lib.hid (B1.out.tr hb)
        clear hb
        go_wp2_with fail
        refine (isAscending_any B m d (fun j => l.getD j 0) _ (HS.out.below B2.out) HM.out).mono ?_
        rintro e3 w3 ⟨rfl, N, rfl⟩
        rw [HD.out]
        have BX := Lib.hid (B2.out.tr (bl_dnN _ N))
        go_wp2_with fail
        refine bodyPost_ret (v := .tuple #[.int .i64 (wrR L n l).1, .int .i64 (wrR L n l).2]) ?_ rfl ⟨rfl, BX.out⟩
        rw [HR.out]
        simp [results, Try.results18, go_sem]
      | false =>
        have HD := Lib.hid hd
        have HR := Lib.hid (wr_d hv (by rw [← hm]; exact hx) (by rw [← hm]; exact hd))
        clear hv hx hd hm h4
        go_enter Try.func18, Try.ntmps18
        go_wp2_with fail
        refine (HV.out).mono ?_
        rintro e1 w1 ⟨rfl, hb⟩
        rw [HVA.out]
        have B1 := Lib.hid hb
        clear hb
        go_wp2_with fail
        refine (areIndexes_any A n c B m d (fun j => l.getD j 0) _ (HS.out.below B1.out) HM.out).mono ?_
        rintro e2 w2 ⟨rfl, hb⟩
        rw [HIX.out]
        have B2 := Lib.hid (B1.out.tr hb)
        clear hb
        go_wp2_with fail
        refine (isAscending_any B m d (fun j => l.getD j 0) _ (HS.out.below B2.out) HM.out).mono ?_
        rintro e3 w3 ⟨rfl, N, rfl⟩
        rw [HD.out]
        have BX := Lib.hid (B2.out.tr (bl_dnN _ N))
        go_wp2_with fail
        refine (worthN_any A n c L _ l _ 0 (HA.out.below BX.out) H20.out HWO.out (HL.out.below BX.out) HIN.out HM4.out).mono ?_
        rintro e4 w4 ⟨rfl, rfl⟩
        go_wp2_with fail
        refine bodyPost_ret (v := .tuple #[.int .i64 (wrR L n l).1, .int .i64 (wrR L n l).2]) ?_ rfl ⟨rfl, BX.out⟩
        rw [HR.out]
        simp [results, Try.results18, go_sem]