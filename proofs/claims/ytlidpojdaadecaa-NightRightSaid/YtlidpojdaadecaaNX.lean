/-
  Contracts of package night and of its reference: Worth.
-/
import Derived.Test.YtlidpojdaadecaaNW
namespace Go.Proofs.Ytlidpojdaadecaa
open Go.RowKit
set_option linter.unusedSimpArgs false
set_option linter.unusedVariables false

theorem inx_of {n : Nat} {l : List Int} (h : ixNo n (fun j => l.getD j 0) l.length = false) : inx n l := fun i hi => by
  obtain ⟨j, hj, rfl⟩ := List.mem_iff_getElem.1 hi
  have := ixNo_at h hj
  rw [List.getD, List.getElem?_eq_getElem hj] at this
  exact this
/-- What Worth returns. -/
def wrR (L : Nat → Ch) (n : Nat) (l : List Int) : Int × Int :=
  if vdB L n = true then (if ixNo n (fun j => l.getD j 0) l.length = true then (0, 5) else if anyTo (dscB (fun j => l.getD j 0)) l.length = true then (0, 9) else (wthF L l l.length, 0)) else (0, 1)
theorem wr_a {L : Nat → Ch} {n : Nat} {l : List Int} (h : vdB L n = false) : wrR L n l = (0, 1) := by simp [wrR, h]
theorem wr_b {L : Nat → Ch} {n : Nat} {l : List Int} (h : vdB L n = true) (h2 : ixNo n (fun j => l.getD j 0) l.length = true) : wrR L n l = (0, 5) := by rw [wrR, if_pos h, if_pos h2]
theorem wr_c {L : Nat → Ch} {n : Nat} {l : List Int} (h : vdB L n = true) (h2 : ixNo n (fun j => l.getD j 0) l.length = false) (h3 : anyTo (dscB (fun j => l.getD j 0)) l.length = true) : wrR L n l = (0, 9) := by
  rw [wrR, if_pos h, if_neg (by rw [h2]; decide), if_pos h3]
theorem wr_d {L : Nat → Ch} {n : Nat} {l : List Int} (h : vdB L n = true) (h2 : ixNo n (fun j => l.getD j 0) l.length = false) (h3 : anyTo (dscB (fun j => l.getD j 0)) l.length = false) : wrR L n l = (wthF L l l.length, 0) := by
  rw [wrR, if_pos h, if_neg (by rw [h2]; decide), if_neg (by rw [h3]; decide)]
set_option maxRecDepth 100000 in
set_option maxHeartbeats 3200000 in
theorem worthT_any (A : Option Addr) (n c : Nat) (L : Nat → Ch) (B : Option Addr) (m d : Nat) (l : List Int) (w : World) (hA : Chl w A n L) (hS : ∀ j, j < n → (L j).nm.size ≤ maxLen) (hn : n ≤ c) (hc : c ≤ maxLen) (hl : IsL w 0 (.slice B m d) l) (hm : m = l.length) (h4 : l.length ≤ 400) :
    Calls Try.prog 10 #[.slice A n c, .slice B m d] w fun e w' => e = .returned (.tuple #[.int .i64 (wrR L n l).1, .int .i64 (wrR L n l).2]) ∧ Bl w w' := by
  have HV := Lib.hid (validN_any A n c L w hA hS hn hc)
  have HA := Lib.hid hA
  have HL := Lib.hid hl
  have HM := Lib.hid (show m ≤ maxLen by unfold maxLen; omega)
  have HM4 := Lib.hid h4
  have HME := Lib.hid hm
  have HS := Lib.hid (show Sl w B m (fun j => l.getD j 0) from by
    obtain ⟨A', c', e, _, _, hs, _⟩ := hl
    injection e with e1 e2 e3
    subst e1
    rw [hm]; exact hs)
  have h400 : m ≤ 400 := by omega
  clear hA hS hl hc
  cases hv : vdB L n with
  | false =>
    have HVA := Lib.hid hv
    have HR := Lib.hid (wr_a (l := l) hv)
    clear hv hm h4
    go_enter Try.func10, Try.ntmps10
    go_wp2_with fail
    refine (HV.out).mono ?_
    rintro e1 w1 ⟨rfl, hb⟩
    rw [HVA.out]
    have B1 := Lib.hid hb
    clear hb
    go_wp2_with fail
    refine bodyPost_ret (v := .tuple #[.int .i64 (wrR L n l).1, .int .i64 (wrR L n l).2]) ?_ rfl ⟨rfl, B1.out⟩
    rw [HR.out]
    simp [results, Try.results10, go_sem]
  | true =>
    have HVA := Lib.hid hv
    have H20 := Lib.hid (vd_lenQ hv)
    have HWO := Lib.hid (fun j (hj : j < n) => (show 0 ≤ (L j).wo ∧ (L j).wo ≤ 1000000 from ⟨(vc_iff.1 (ms_vc (vd_at hv hj)).2).2.2.2.2.2.2.1, (vc_iff.1 (ms_vc (vd_at hv hj)).2).2.2.2.2.2.2.2⟩))
    cases hx : ixNo n (fun j => l.getD j 0) m with
    | true =>
      have HIX := Lib.hid hx
      have HR := Lib.hid (wr_b hv (by rw [← hm]; exact hx))
      clear hv hx hm h4
      go_enter Try.func10, Try.ntmps10
      go_wp2_with fail
      refine (HV.out).mono ?_
      rintro e1 w1 ⟨rfl, hb⟩
      rw [HVA.out]
      have B1 := Lib.hid hb
      clear hb
      go_wp2_with fail
      refine (areIndexes_any A n c B m d (fun j => l.getD j 0) _ (HS.out.below B1.out) HM.out).mono ?_
      rintro e2 w2 ⟨rfl, hb⟩
      rw [HIX.out]
      have B2 := Lib.hid (B1.out.tr hb)
      clear hb
      go_wp2_with fail
      refine bodyPost_ret (v := .tuple #[.int .i64 (wrR L n l).1, .int .i64 (wrR L n l).2]) ?_ rfl ⟨rfl, B2.out⟩
      rw [HR.out]
      simp [results, Try.results10, go_sem]
    | false =>
      have HIX := Lib.hid hx
      have HIN := Lib.hid (inx_of (n := n) (l := l) (by rw [← hm]; exact hx))
      cases hd : anyTo (dscB (fun j => l.getD j 0)) m with
      | true =>
        have HD := Lib.hid hd
        have HR := Lib.hid (wr_c hv (by rw [← hm]; exact hx) (by rw [← hm]; exact hd))
        clear hv hx hd hm h4
        go_enter Try.func10, Try.ntmps10
        go_wp2_with fail
        refine (HV.out).mono ?_
        rintro e1 w1 ⟨rfl, hb⟩
        rw [HVA.out]
        have B1 := Lib.hid hb
        clear hb
        go_wp2_with fail
        refine (areIndexes_any A n c B m d (fun j => l.getD j 0) _ (HS.out.below B1.out) HM.out).mono ?_
        rintro e2 w2 ⟨rfl, hb⟩
        rw [HIX.out]
        have B2 := Lib.hid (B1.out.tr hb)
        clear hb
        go_wp2_with fail
        refine (isAscending_any B m d (fun j => l.getD j 0) _ (HS.out.below B2.out) HM.out).mono ?_
        rintro e3 w3 ⟨rfl, N, rfl⟩
        rw [HD.out]
        have BX := Lib.hid (B2.out.tr (bl_dnN _ N))
        go_wp2_with fail
        refine bodyPost_ret (v := .tuple #[.int .i64 (wrR L n l).1, .int .i64 (wrR L n l).2]) ?_ rfl ⟨rfl, BX.out⟩
        rw [HR.out]
        simp [results, Try.results10, go_sem]
      | false =>
        have HD := Lib.hid hd
        have HR := Lib.hid (wr_d hv (by rw [← hm]; exact hx) (by rw [← hm]; exact hd))
        clear hv hx hd hm h4
        go_enter Try.func10, Try.ntmps10
        go_wp2_with fail
        refine (HV.out).mono ?_
        rintro e1 w1 ⟨rfl, hb⟩
        rw [HVA.out]
        have B1 := Lib.hid hb
        clear hb
        go_wp2_with fail
        refine (areIndexes_any A n c B m d (fun j => l.getD j 0) _ (HS.out.below B1.out) HM.out).mono ?_
        rintro e2 w2 ⟨rfl, hb⟩
        rw [HIX.out]
        have B2 := Lib.hid (B1.out.tr hb)
        clear hb
        go_wp2_with fail
        refine (isAscending_any B m d (fun j => l.getD j 0) _ (HS.out.below B2.out) HM.out).mono ?_
        rintro e3 w3 ⟨rfl, N, rfl⟩
        rw [HD.out]
        have BX := Lib.hid (B2.out.tr (bl_dnN _ N))
        go_wp2_with fail
        refine (worthN_any A n c L _ l _ 0 (HA.out.below BX.out) H20.out HWO.out (HL.out.below BX.out) HIN.out HM4.out).mono ?_
        rintro e4 w4 ⟨rfl, rfl⟩
        go_wp2_with fail
        refine bodyPost_ret (v := .tuple #[.int .i64 (wrR L n l).1, .int .i64 (wrR L n l).2]) ?_ rfl ⟨rfl, BX.out⟩
        rw [HR.out]
        simp [results, Try.results10, go_sem]
set_option maxRecDepth 100000 in
set_option maxHeartbeats 3200000 in
theorem rworthT_any (A : Option Addr) (n c : Nat) (L : Nat → Ch) (B : Option Addr) (m d : Nat) (l : List Int) (w : World) (hA : Chl w A n L) (hS : ∀ j, j < n → (L j).nm.size ≤ maxLen) (hn : n ≤ c) (hc : c ≤ maxLen) (hl : IsL w 0 (.slice B m d) l) (hm : m = l.length) (h4 : l.length ≤ 400) :
    Calls Try.prog 11 #[.slice A n c, .slice B m d] w fun e w' => e = .returned (.tuple #[.int .i64 (wrR L n l).1, .int .i64 (wrR L n l).2]) ∧ Bl w w' := by
  have HV := Lib.hid (rvalid8_any A n c L w hA hS hn hc)
  have HA := Lib.hid hA
  have HL := Lib.hid hl
  have HM := Lib.hid (show m ≤ maxLen by unfold maxLen; omega)
  have HM4 := Lib.hid h4
  have HME := Lib.hid hm
  have HS := Lib.hid (show Sl w B m (fun j => l.getD j 0) from by
    obtain ⟨A', c', e, _, _, hs, _⟩ := hl
    injection e with e1 e2 e3
    subst e1
    rw [hm]; exact hs)
  have h400 : m ≤ 400 := by omega
  clear hA hS hl hc
  cases hv : vdB L n with
  | false =>
    have HVA := Lib.hid hv
    have HR := Lib.hid (wr_a (l := l) hv)
    clear hv hm h4
    go_enter Try.func11, Try.ntmps11
    go_wp2_with fail
    refine (HV.out).mono ?_
    rintro e1 w1 ⟨rfl, hb⟩
    rw [HVA.out]
    have B1 := Lib.hid hb
    clear hb
    go_wp2_with fail
    refine bodyPost_ret (v := .tuple #[.int .i64 (wrR L n l).1, .int .i64 (wrR L n l).2]) ?_ rfl ⟨rfl, B1.out⟩
    rw [HR.out]
    simp [results, Try.results11, go_sem]
  | true =>
    have HVA := Lib.hid hv
    have H20 := Lib.hid (vd_lenQ hv)
    have HWO := Lib.hid (fun j (hj : j < n) => (show 0 ≤ (L j).wo ∧ (L j).wo ≤ 1000000 from ⟨(vc_iff.1 (ms_vc (vd_at hv hj)).2).2.2.2.2.2.2.1, (vc_iff.1 (ms_vc (vd_at hv hj)).2).2.2.2.2.2.2.2⟩))
    cases hx : ixNo n (fun j => l.getD j 0) m with
    | true =>
      have HIX := Lib.hid hx
      have HR := Lib.hid (wr_b hv (by rw [← hm]; exact hx))
      clear hv hx hm h4
      go_enter Try.func11, Try.ntmps11
      go_wp2_with fail
      refine (HV.out).mono ?_
      rintro e1 w1 ⟨rfl, hb⟩
      rw [HVA.out]
      have B1 := Lib.hid hb
      clear hb
      go_wp2_with fail
      refine (there_any A n c B m d (fun j => l.getD j 0) _ (HS.out.below B1.out) HM.out).mono ?_
      rintro e2 w2 ⟨rfl, rfl⟩
      rw [HIX.out]
      have B2 := B1
      go_wp2_with fail
      refine bodyPost_ret (v := .tuple #[.int .i64 (wrR L n l).1, .int .i64 (wrR L n l).2]) ?_ rfl ⟨rfl, B2.out⟩
      rw [HR.out]
      simp [results, Try.results11, go_sem]
    | false =>
      have HIX := Lib.hid hx
      have HIN := Lib.hid (inx_of (n := n) (l := l) (by rw [← hm]; exact hx))
      cases hd : anyTo (dscB (fun j => l.getD j 0)) m with
      | true =>
        have HD := Lib.hid hd
        have HR := Lib.hid (wr_c hv (by rw [← hm]; exact hx) (by rw [← hm]; exact hd))
        clear hv hx hd hm h4
        go_enter Try.func11, Try.ntmps11
        go_wp2_with fail
        refine (HV.out).mono ?_
        rintro e1 w1 ⟨rfl, hb⟩
        rw [HVA.out]
        have B1 := Lib.hid hb
        clear hb
        go_wp2_with fail
        refine (there_any A n c B m d (fun j => l.getD j 0) _ (HS.out.below B1.out) HM.out).mono ?_
        rintro e2 w2 ⟨rfl, rfl⟩
        rw [HIX.out]
        have B2 := B1
        go_wp2_with fail
        go_loopw [6] (fun i wr => ∃ k N : Nat, 1 ≤ k ∧ (k ≤ m ∨ k = 1) ∧ i = .int .i64 k ∧ Hid (anyTo (dscB (fun j => l.getD j 0)) k = false) ∧ wr = World.drewN w1 N) (fun i _ => m - (intOf i).toNat)
        case atStart => exact ⟨1, 0, Nat.le_refl _, .inr rfl, rfl, anyTo_one rfl, rfl⟩
        case round =>
          obtain ⟨k, N, hk1, hk, rfl, HO, rfl⟩ := hrel
          have BX := Lib.hid (B2.out.tr (bl_dnN _ N))
          by_cases hlt : k < m
          · obtain ⟨b, off, rfl, hbb, hcc⟩ := (HS.out.below B2.out) (by omega)
            obtain ⟨j, hj⟩ : ∃ j, j = k - 1 := ⟨_, rfl⟩
            have c1 := hcc k hlt
            have c2 := hcc j (by omega)
            have e1 : IntKind.i64.wrap ((k : Int) - 1) = (j : Int) := by rw [IntWalk.i64_in _ (by omega)]; omega
            have e2 : wrap64 ((k : Int) - 1) = (j : Int) := by rw [IntWalk.wrap64_in _ (by omega)]; omega
            have e3 : (k : Int) - 1 = (j : Int) := by omega
            have jm : j < m := by omega
            dsimp only at c1 c2
            have HDK := Lib.hid (show dscB (fun j => l.getD j 0) k = decide (l.getD k 0 ≤ l.getD j 0) by rw [dscB, decide_eq_true hk1, Bool.true_and, hj])
            have HAT := Lib.hid (fun (q : dscB (fun j => l.getD j 0) k = true) => anyTo_at (P := dscB (fun j => l.getD j 0)) hlt q)
            have HYE := Lib.hid (fun (q : dscB (fun j => l.getD j 0) k = false) => (show anyTo (dscB (fun j => l.getD j 0)) (k + 1) = false by rw [anyTo, HO.out, Bool.false_or]; exact q))
            clear hcc hj
            obtain ⟨x, hx⟩ : ∃ x, x = l.getD k 0 := ⟨_, rfl⟩
            obtain ⟨y, hy⟩ : ∃ y, y = l.getD j 0 := ⟨_, rfl⟩
            rw [← hx] at c1 HDK
            rw [← hy] at c2 HDK
            clear hx hy
            by_cases q : x ≤ y
            · have HN := Lib.hid (HAT.out (by rw [HDK.out]; exact decide_eq_true q))
              go_wp2_with fail
              go_quiet (fail)
              go_wp2_with fail
              refine bodyPost_ret (v := .tuple #[.int .i64 (wrR L n l).1, .int .i64 (wrR L n l).2]) ?_ rfl ⟨rfl, BX.out.tr (bl_dnN _ _)⟩
              rw [HR.out]
              simp [results, Try.results11, go_sem]
            · have HN := Lib.hid (HYE.out (by rw [HDK.out]; exact decide_eq_false q))
              go_wp2_with fail
              go_quiet (fail)
              go_wp2_with fail
              go_roundw
              case rel => exact ⟨k + 1, _, by omega, by omega, by go_num, HN.out, rfl⟩
              case measure => simp [intOf]; omega
          · have HEND := Lib.hid (show anyTo (dscB (fun j => l.getD j 0)) m = false by
              rcases hk with h | h
              · obtain rfl : k = m := by omega
                exact HO.out
              · have h2 : m = 0 ∨ m = 1 := by omega
                rcases h2 with h3 | h3
                · rw [h3]; rfl
                · rw [h3]; exact anyTo_one rfl)
            exact absurd (HD.out.symm.trans HEND.out) (by decide)
      | false =>
        have HD := Lib.hid hd
        have HR := Lib.hid (wr_d hv (by rw [← hm]; exact hx) (by rw [← hm]; exact hd))
        clear hv hx hd hm h4
        go_enter Try.func11, Try.ntmps11
        go_wp2_with fail
        refine (HV.out).mono ?_
        rintro e1 w1 ⟨rfl, hb⟩
        rw [HVA.out]
        have B1 := Lib.hid hb
        clear hb
        go_wp2_with fail
        refine (there_any A n c B m d (fun j => l.getD j 0) _ (HS.out.below B1.out) HM.out).mono ?_
        rintro e2 w2 ⟨rfl, rfl⟩
        rw [HIX.out]
        have B2 := B1
        go_wp2_with fail
        go_loopw [6] (fun i wr => ∃ k N : Nat, 1 ≤ k ∧ (k ≤ m ∨ k = 1) ∧ i = .int .i64 k ∧ Hid (anyTo (dscB (fun j => l.getD j 0)) k = false) ∧ wr = World.drewN w1 N) (fun i _ => m - (intOf i).toNat)
        case atStart => exact ⟨1, 0, Nat.le_refl _, .inr rfl, rfl, anyTo_one rfl, rfl⟩
        case round =>
          obtain ⟨k, N, hk1, hk, rfl, HO, rfl⟩ := hrel
          have BX := Lib.hid (B2.out.tr (bl_dnN _ N))
          by_cases hlt : k < m
          · obtain ⟨b, off, rfl, hbb, hcc⟩ := (HS.out.below B2.out) (by omega)
            obtain ⟨j, hj⟩ : ∃ j, j = k - 1 := ⟨_, rfl⟩
            have c1 := hcc k hlt
            have c2 := hcc j (by omega)
            have e1 : IntKind.i64.wrap ((k : Int) - 1) = (j : Int) := by rw [IntWalk.i64_in _ (by omega)]; omega
            have e2 : wrap64 ((k : Int) - 1) = (j : Int) := by rw [IntWalk.wrap64_in _ (by omega)]; omega
            have e3 : (k : Int) - 1 = (j : Int) := by omega
            have jm : j < m := by omega
            dsimp only at c1 c2
            have HDK := Lib.hid (show dscB (fun j => l.getD j 0) k = decide (l.getD k 0 ≤ l.getD j 0) by rw [dscB, decide_eq_true hk1, Bool.true_and, hj])
            have HAT := Lib.hid (fun (q : dscB (fun j => l.getD j 0) k = true) => anyTo_at (P := dscB (fun j => l.getD j 0)) hlt q)
            have HYE := Lib.hid (fun (q : dscB (fun j => l.getD j 0) k = false) => (show anyTo (dscB (fun j => l.getD j 0)) (k + 1) = false by rw [anyTo, HO.out, Bool.false_or]; exact q))
            clear hcc hj
            obtain ⟨x, hx⟩ : ∃ x, x = l.getD k 0 := ⟨_, rfl⟩
            obtain ⟨y, hy⟩ : ∃ y, y = l.getD j 0 := ⟨_, rfl⟩
            rw [← hx] at c1 HDK
            rw [← hy] at c2 HDK
            clear hx hy
            by_cases q : x ≤ y
            · have HN := Lib.hid (HAT.out (by rw [HDK.out]; exact decide_eq_true q))
              exact absurd (HD.out.symm.trans HN.out) (by decide)
            · have HN := Lib.hid (HYE.out (by rw [HDK.out]; exact decide_eq_false q))
              go_wp2_with fail
              go_quiet (fail)
              go_wp2_with fail
              go_roundw
              case rel => exact ⟨k + 1, _, by omega, by omega, by go_num, HN.out, rfl⟩
              case measure => simp [intOf]; omega
          · have HEND := Lib.hid (show anyTo (dscB (fun j => l.getD j 0)) m = false by
              rcases hk with h | h
              · obtain rfl : k = m := by omega
                exact HO.out
              · have h2 : m = 0 ∨ m = 1 := by omega
                rcases h2 with h3 | h3
                · rw [h3]; rfl
                · rw [h3]; exact anyTo_one rfl)
            go_wp2_with fail
            refine (rworthN_any A n c L _ l _ 0 (HA.out.below BX.out) H20.out HWO.out (HL.out.below BX.out) HIN.out HM4.out).mono ?_
            rintro e4 w4 ⟨rfl, rfl⟩
            go_wp2_with fail
            refine bodyPost_ret (v := .tuple #[.int .i64 (wrR L n l).1, .int .i64 (wrR L n l).2]) ?_ rfl ⟨rfl, BX.out⟩
            rw [HR.out]
            simp [results, Try.results11, go_sem]
end Go.Proofs.Ytlidpojdaadecaa
