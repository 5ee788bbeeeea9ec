/-
  Contracts of package night and of its reference: Right of the reference, Worth of both.
-/
import Derived.Test.YtlidpojdaadecaaNV
import Derived.BigQuiet
namespace Go.Proofs.Ytlidpojdaadecaa
open Go.RowKit
set_option linter.unusedSimpArgs false
set_option linter.unusedVariables false

set_option maxRecDepth 100000 in
set_option maxHeartbeats 3200000 in
theorem rrightN_any (A : Option Addr) (n c : Nat) (L : Nat → Ch) (C : Option Addr) (ms e0 : Nat) (S : Nat → Sp2) (per : Int) (B : Option Addr) (m d : Nat) (T : Nat → Int) (w : World) (hA : Chl w A n L) (hS : ∀ j, j < n → (L j).nm.size ≤ maxLen) (hn : n ≤ c) (hc : c ≤ maxLen) (hC : Spl w C ms S) (hms : ms ≤ maxLen) (hB : Sl w B m T) (hm : m ≤ maxLen) :
    Calls Try.prog 14 #[.slice A n c, .slice C ms e0, .int .i64 per, .slice B m d] w fun e w' => e = .returned (.bool (rtB L n S ms per T m)) ∧ Bl w w' := by
  have HK := Lib.hid (asked8_any A n c L C ms e0 S per w hA hS hn hc hC hms)
  have HCL := Lib.hid (fun (x : Ch) (X : World) (hb : Bl w X) => risClear_any x C ms e0 S X (hC.below hb) hms)
  have HA := Lib.hid hA
  have HB := Lib.hid hB
  have HM := Lib.hid hm
  clear hA hB hC hS
  unfold maxLen at hm hc
  obtain ⟨er, her⟩ : ∃ er, er = chkN L n S ms per := ⟨_, rfl⟩
  have HER := Lib.hid her
  by_cases h : er = 0
  · have HRT0 := Lib.hid (show rtB L n S ms per T m = (!ixNo n T m && (!anyTo (nclrB L S ms T) m && !anyTo (brkB L per T) m)) by rw [rtB, ← her, h]; rfl)
    subst h
    obtain ⟨v1, _, v3⟩ := chk_okR her.symm
    have HV := Lib.hid (fun j (hj : j < n) => (ms_vc (vd_at v1 hj)).2)
    have HP := Lib.hid v3
    have HRT := Lib.hid (show rtB L n S ms per T m = !anyTo (badR L n S ms per T) m by rw [rt_bad v1 v3]; exact HRT0.out)
    clear v1 v3 her
    go_enter Try.func14, Try.ntmps14
    go_wp2_with fail
    refine (HK.out).mono ?_
    rintro e1 w1 ⟨rfl, hb⟩
    rw [← HER.out]
    have B2 := Lib.hid hb
    clear hb
    go_wp2_with fail
    go_loopw [18] (fun i wr => ∃ k : Nat, k ≤ m ∧ i = .int .i64 k ∧ Hid (anyTo (badR L n S ms per T) k = false) ∧ Bl w wr) (fun i _ => m - (intOf i).toNat)
    case atStart => exact ⟨0, Nat.zero_le _, rfl, rfl, B2.out⟩
    case round =>
      obtain ⟨k, hk, rfl, HO, hZ⟩ := hrel
      by_cases hlt : k < m
      · obtain ⟨b, off, rfl, hbb, hcc⟩ := (HB.out.below hZ) (by omega)
        have c1 := hcc k hlt
        have HAT := Lib.hid (fun (q : badR L n S ms per T k = true) => (show rtB L n S ms per T m = false by rw [HRT.out, anyTo_at (P := badR L n S ms per T) hlt q]; rfl))
        have HYE := Lib.hid (fun (q : badR L n S ms per T k = false) => (show anyTo (badR L n S ms per T) (k + 1) = false by rw [anyTo, HO.out, Bool.false_or]; exact q))
        have HD := Lib.hid (show badR L n S ms per T k = (!ixB n (T k) || nclrB L S ms T k || (decide (1 ≤ k) && (decide (T k ≤ T (k - 1)) || !flw (L (T (k - 1)).toNat) (L (T k).toNat) per))) from rfl)
        have HZ := Lib.hid hZ
        by_cases f1 : T k < 0
        · have HN := Lib.hid (HAT.out (by rw [HD.out]; simp [ixB]; omega))
          obtain ⟨t, ht⟩ : ∃ t, t = T k := ⟨_, rfl⟩
          rw [← ht] at f1 c1
          clear hcc hZ ht
          go_wp2_with fail
          go_ret
          exact ⟨ret_boolN HN.out.symm, HZ.out⟩
        · by_cases f2 : (n : Int) ≤ T k
          · have HN := Lib.hid (HAT.out (by rw [HD.out]; simp [ixB]; omega))
            obtain ⟨t, ht⟩ : ∃ t, t = T k := ⟨_, rfl⟩
            rw [← ht] at f1 f2 c1
            clear hcc hZ ht
            go_wp2_with fail
            go_ret
            exact ⟨ret_boolN HN.out.symm, HZ.out⟩
          · obtain ⟨ib, hib⟩ : ∃ ib : Nat, (ib : Int) = T k := ⟨(T k).toNat, by omega⟩
            have hib1 : ib < n := by omega
            have HIX := Lib.hid (show ixB n (T k) = true from ix_iff.2 ⟨by omega, by omega⟩)
            have HIB := Lib.hid hib
            rw [← hib] at c1
            clear f1 f2 hib
            obtain ⟨b2, off2, rfl, hbb2, hcd⟩ := (HA.out.below hZ) (by omega)
            obtain ⟨x0, x1, x2, x3, x4⟩ := hcd ib hib1
            have hvx := HV.out ib hib1
            have HNC := Lib.hid (show nclrB L S ms T k = !clrB S ms (L ib) by rw [nclrB, ← HIB.out, Int.toNat_natCast])
            obtain ⟨x, hx⟩ : ∃ x, x = L ib := ⟨_, rfl⟩
            rw [← hx] at x0 x1 x2 x3 x4 hvx HNC
            have HVX := Lib.hid hvx
            have HX := Lib.hid hx
            clear hx hvx
            cases q : clrB S ms x with
            | false =>
              have HQ2 := Lib.hid q
              have HN := Lib.hid (HAT.out (by rw [HD.out, HNC.out, q]; simp))
              clear q hcc hcd hZ
              go_wp2_with fail
              refine (HCL.out x _ HZ.out).mono ?_
              rintro e3 w3 ⟨rfl, hb3⟩
              have B3 := Lib.hid (HZ.out.tr hb3)
              clear hb3
              rw [HQ2.out]
              go_wp2_with fail
              go_ret
              exact ⟨ret_boolN HN.out.symm, B3.out⟩
            | true =>
              have HQ2 := Lib.hid q
              have HD2 := Lib.hid (show badR L n S ms per T k = (decide (1 ≤ k) && (decide (T k ≤ T (k - 1)) || !flw (L (T (k - 1)).toNat) (L (T k).toNat) per)) by rw [HD.out, HIX.out, HNC.out, q]; rfl)
              clear q
              by_cases k1 : 1 ≤ k
              · have c2 := hcc (k - 1) (by omega)
                have e1 : IntKind.i64.wrap ((k : Int) - 1) = (k : Int) - 1 := IntWalk.i64_in _ (by omega)
                have e2 : wrap64 ((k : Int) - 1) = (k : Int) - 1 := IntWalk.wrap64_in _ (by omega)
                have e3 : (0 : Int) ≤ (k : Int) - 1 := by omega
                have e4 : (k : Int) - 1 < (m : Int) := by omega
                have e6 : (0 : Int) < (k : Int) := by omega
                have e7 : (1 : Int) ≤ (k : Int) := by omega
                have e8 : decide ((0 : Int) < (k : Int)) = true := decide_eq_true e6
                have e9 : decide (0 < k) = true := decide_eq_true (by omega)
                have jm : k - 1 < m := by omega
                have HD3 := Lib.hid (show badR L n S ms per T k = (decide ((ib : Int) ≤ T (k - 1)) || !flw (L (T (k - 1)).toNat) (L (T k).toNat) per) by rw [HD2.out, decide_eq_true k1, Bool.true_and, HIB.out])
                obtain ⟨t, ht⟩ : ∃ t, t = T (k - 1) := ⟨_, rfl⟩
                rw [← ht] at c2 HD3
                have HTJ := Lib.hid ht
                clear ht hcc
                by_cases q3 : (ib : Int) ≤ t
                · have HN := Lib.hid (HAT.out (by rw [HD3.out, decide_eq_true q3]; rfl))
                  have q5 : decide ((ib : Int) ≤ t) = true := decide_eq_true q3
                  clear hcd
                  go_wp2_with fail
                  refine (HCL.out x _ HZ.out).mono ?_
                  rintro e9 w9 ⟨rfl, hb9⟩
                  have B9 := Lib.hid (HZ.out.tr hb9)
                  have c1 := kcb hb9 c1
                  have c2 := kcb hb9 c2
                  have x0 := kcb hb9 x0
                  have z9 := hb9.size
                  have hbb9 : b < w9.heap.size := by omega
                  clear hb9
                  rw [HQ2.out]
                  go_wp2_with fail
                  go_quiet (fail)
                  go_wp2_with fail
                  go_ret
                  exact ⟨ret_boolN HN.out.symm, B9.out.tr (bl_dnN _ _)⟩
                · have hja0 : (ib : Int) > t := by omega
                  have HNEG := Lib.hid (show ∀ y, y = L t.toNat → badR L n S ms per T k = !flw y x per from fun y hy => by rw [HD3.out, decide_eq_false q3, Bool.false_or, ← hy, ← HIB.out, Int.toNat_natCast, ← HX.out])
                  have hpj : 0 ≤ T (k - 1) ∧ T (k - 1) < n := by
                    have hb' := anyTo_no.1 HO.out (k - 1) (by omega)
                    unfold badR at hb'
                    simp only [Bool.or_eq_false_iff] at hb'
                    exact ix_iff.1 (by simpa using hb'.1.1)
                  have htj : t = T (k - 1) := HTJ.out
                  rw [← htj] at hpj
                  clear htj
                  obtain ⟨ja, hja⟩ : ∃ ja : Nat, (ja : Int) = t := ⟨t.toNat, by omega⟩
                  have hja1 : ja < n := by omega
                  obtain ⟨y0, y1, y2, y3, y4⟩ := hcd ja hja1
                  have hvy := HV.out ja hja1
                  have HFB := Lib.hid (HNEG.out (L ja) (by rw [← hja, Int.toNat_natCast]))
                  have q5 : decide ((ib : Int) ≤ (ja : Int)) = false := decide_eq_false (by omega)
                  have q6 : decide (ib ≤ ja) = false := decide_eq_false (by omega)
                  have q7 : ¬ ib ≤ ja := by omega
                  rw [← hja] at c2
                  obtain ⟨y, hy⟩ : ∃ y, y = L ja := ⟨_, rfl⟩
                  rw [← hy] at y0 y1 y2 y3 y4 hvy HFB
                  have HVY := Lib.hid hvy
                  clear hy hvy hcd hpj hja0 q3 hja
                  cases q : flw y x per with
                  | false =>
                    have HQ := Lib.hid q
                    have HN := Lib.hid (HAT.out (by rw [HFB.out, q]; rfl))
                    clear q
                    go_wp2_with fail
                    refine (HCL.out x _ HZ.out).mono ?_
                    rintro e9 w9 ⟨rfl, hb9⟩
                    have z9 := hb9.size
                    have S0 : SJ w b (off + (k - 1)) (off + k) ja ib b2 (off2 + ja * 5) (off2 + ib * 5) y x w9 := SJ.t (W := wr) ⟨HZ.out, c2, c1, y0, y1, y2, y3, y4, x0, x1, x2, x3, x4, hbb, hbb2⟩ hb9
                    clear hb9 c1 c2 x0 x1 x2 x3 x4 y0 y1 y2 y3 y4
                    obtain ⟨-, c2, c1, y0, y1, y2, y3, y4, x0, x1, x2, x3, x4, l1, l2⟩ := id S0
                    rw [HQ2.out]
                    go_wp2_with fail
                    go_region_held3 (fun W' => Bl w W' ∧ W'.cell? ⟨b, off + (k - 1), none⟩ = some (.int .i64 (ja : Int)) ∧ W'.cell? ⟨b, off + k, none⟩ = some (.int .i64 (ib : Int)) ∧ W'.cell? ⟨b2, off2 + ja * 5, none⟩ = some (.string y.nm) ∧ W'.cell? ⟨b2, off2 + ja * 5 + 1, none⟩ = some (.int .i64 y.fr) ∧ W'.cell? ⟨b2, off2 + ja * 5 + 2, none⟩ = some (.int .i64 y.to) ∧ W'.cell? ⟨b2, off2 + ja * 5 + 3, none⟩ = some (.int .i64 y.tl) ∧ W'.cell? ⟨b2, off2 + ja * 5 + 4, none⟩ = some (.int .i64 y.wo) ∧ W'.cell? ⟨b2, off2 + ib * 5, none⟩ = some (.string x.nm) ∧ W'.cell? ⟨b2, off2 + ib * 5 + 1, none⟩ = some (.int .i64 x.fr) ∧ W'.cell? ⟨b2, off2 + ib * 5 + 2, none⟩ = some (.int .i64 x.to) ∧ W'.cell? ⟨b2, off2 + ib * 5 + 3, none⟩ = some (.int .i64 x.tl) ∧ W'.cell? ⟨b2, off2 + ib * 5 + 4, none⟩ = some (.int .i64 x.wo) ∧ b < W'.heap.size ∧ b2 < W'.heap.size) (first | exact SJ.t S0 (bl_drN _) | exact SJ.t (by assumption) hh0) (first | (go_at_call 40; refine (rfollows8_any y x per _ HVY.out HVX.out HP.out).mono ?_; rintro e v0 ⟨rfl, hh0⟩; rw [HQ.out]))
                    all_goals
                      rename_i hHeld
                      have hHB := hHeld.1
                      clear hHeld
                      go_wp2_with fail
                      go_ret
                      exact ⟨ret_boolN HN.out.symm, hHB⟩
                  | true =>
                    have HQ := Lib.hid q
                    have HN := Lib.hid (HYE.out (by rw [HFB.out, q]; rfl))
                    clear q
                    go_wp2_with fail
                    refine (HCL.out x _ HZ.out).mono ?_
                    rintro e9 w9 ⟨rfl, hb9⟩
                    have z9 := hb9.size
                    have S0 : SJ w b (off + (k - 1)) (off + k) ja ib b2 (off2 + ja * 5) (off2 + ib * 5) y x w9 := SJ.t (W := wr) ⟨HZ.out, c2, c1, y0, y1, y2, y3, y4, x0, x1, x2, x3, x4, hbb, hbb2⟩ hb9
                    clear hb9 c1 c2 x0 x1 x2 x3 x4 y0 y1 y2 y3 y4
                    obtain ⟨-, c2, c1, y0, y1, y2, y3, y4, x0, x1, x2, x3, x4, l1, l2⟩ := id S0
                    rw [HQ2.out]
                    go_wp2_with fail
                    go_region_held3 (fun W' => Bl w W' ∧ W'.cell? ⟨b, off + (k - 1), none⟩ = some (.int .i64 (ja : Int)) ∧ W'.cell? ⟨b, off + k, none⟩ = some (.int .i64 (ib : Int)) ∧ W'.cell? ⟨b2, off2 + ja * 5, none⟩ = some (.string y.nm) ∧ W'.cell? ⟨b2, off2 + ja * 5 + 1, none⟩ = some (.int .i64 y.fr) ∧ W'.cell? ⟨b2, off2 + ja * 5 + 2, none⟩ = some (.int .i64 y.to) ∧ W'.cell? ⟨b2, off2 + ja * 5 + 3, none⟩ = some (.int .i64 y.tl) ∧ W'.cell? ⟨b2, off2 + ja * 5 + 4, none⟩ = some (.int .i64 y.wo) ∧ W'.cell? ⟨b2, off2 + ib * 5, none⟩ = some (.string x.nm) ∧ W'.cell? ⟨b2, off2 + ib * 5 + 1, none⟩ = some (.int .i64 x.fr) ∧ W'.cell? ⟨b2, off2 + ib * 5 + 2, none⟩ = some (.int .i64 x.to) ∧ W'.cell? ⟨b2, off2 + ib * 5 + 3, none⟩ = some (.int .i64 x.tl) ∧ W'.cell? ⟨b2, off2 + ib * 5 + 4, none⟩ = some (.int .i64 x.wo) ∧ b < W'.heap.size ∧ b2 < W'.heap.size) (first | exact SJ.t S0 (bl_drN _) | exact SJ.t (by assumption) hh0) (first | (go_at_call 40; refine (rfollows8_any y x per _ HVY.out HVX.out HP.out).mono ?_; rintro e v0 ⟨rfl, hh0⟩; rw [HQ.out]))
                    all_goals
                      rename_i hHeld
                      have hHB := hHeld.1
                      clear hHeld
                      go_wp2_with fail
                      go_roundw
                      case rel => exact ⟨k + 1, by omega, by go_num, HN.out, hHB⟩
                      case measure => simp [intOf]; omega
              · have hk0 : ¬ (0 : Int) < (k : Int) := by omega
                have HN := Lib.hid (HYE.out (by rw [HD2.out, decide_eq_false k1]; rfl))
                clear hcc hcd
                have hk00 := Lib.hid k1
                clear k1
                go_wp2_with fail
                refine (HCL.out x _ HZ.out).mono ?_
                rintro e9 w9 ⟨rfl, hb9⟩
                have B9 := Lib.hid (HZ.out.tr hb9)
                clear hb9
                rw [HQ2.out]
                go_wp2_with fail
                obtain ⟨z, hz⟩ : ∃ z : Int, z = (k : Int) := ⟨_, rfl⟩
                rw [← hz]
                have HZZ := Lib.hid hz
                have z0 : decide ((0 : Int) < z) = false := decide_eq_false (by have := hk00.out; omega)
                have z1 : IntKind.i64.wrap (z + 1) = z + 1 := IntWalk.i64_in _ (by omega)
                have z2 : wrap64 (z + 1) = z + 1 := IntWalk.wrap64_in _ (by omega)
                clear hz
                go_quiet (fail)
                go_wp2_with fail
                go_roundw
                case rel => exact ⟨k + 1, by omega, by rw [HZZ.out]; go_num, HN.out, B9.out.tr (bl_dnN _ _)⟩
                case measure => have := HZZ.out; simp [intOf]; omega
      · obtain rfl : k = m := by omega
        have HR := Lib.hid (show rtB L n S ms per T k = true by rw [HRT.out, HO.out]; rfl)
        go_wp2_with fail
        go_ret
        exact ⟨ret_boolN HR.out.symm, hZ⟩
  · have hq : (er != 0) = true := by simp [h]
    have HR := Lib.hid (show rtB L n S ms per T m = false by rw [rtB, ← her, decide_eq_false h]; rfl)
    clear h her
    go_enter Try.func14, Try.ntmps14
    go_wp2_with fail
    refine (HK.out).mono ?_
    rintro e1 w1 ⟨rfl, hb⟩
    rw [← HER.out]
    have B1 := Lib.hid hb
    clear hb
    go_wp2_with fail
    go_ret
    exact ⟨ret_boolN HR.out.symm, B1.out⟩
end Go.Proofs.Ytlidpojdaadecaa
