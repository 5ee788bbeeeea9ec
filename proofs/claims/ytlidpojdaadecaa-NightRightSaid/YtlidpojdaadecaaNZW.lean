/-
  The walk of NightRight.
-/
import Derived.Test.YtlidpojdaadecaaNZ
import Derived.Test.YtlidpojdaadecaaNS
namespace Go.Proofs.Ytlidpojdaadecaa
open Go.RowKit
set_option linter.unusedSimpArgs false
set_option linter.unusedVariables false

theorem SE.t {w : World} {b o1 o2 b2 o3 o4 : Nat} {v1 v2 v3 v4 : Value} {W W' : World} (h : Bl w W ∧ W.cell? ⟨b, o1, none⟩ = some v1 ∧ W.cell? ⟨b, o2, none⟩ = some v2 ∧ W.cell? ⟨b2, o3, none⟩ = some v3 ∧ W.cell? ⟨b2, o4, none⟩ = some v4 ∧ b < W.heap.size ∧ b2 < W.heap.size) (hb : Bl W W') :
    Bl w W' ∧ W'.cell? ⟨b, o1, none⟩ = some v1 ∧ W'.cell? ⟨b, o2, none⟩ = some v2 ∧ W'.cell? ⟨b2, o3, none⟩ = some v3 ∧ W'.cell? ⟨b2, o4, none⟩ = some v4 ∧ b < W'.heap.size ∧ b2 < W'.heap.size :=
  ⟨h.1.tr hb, kcb hb h.2.1, kcb hb h.2.2.1, kcb hb h.2.2.2.1, kcb hb h.2.2.2.2.1, Nat.lt_of_lt_of_le h.2.2.2.2.2.1 hb.size, Nat.lt_of_lt_of_le h.2.2.2.2.2.2 hb.size⟩
set_option maxRecDepth 100000 in
set_option maxHeartbeats 6400000 in
theorem right_walk (A : Option Addr) (n c : Nat) (L : Nat → Ch) (C : Option Addr) (ms e0 : Nat) (S : Nat → Sp2) (per : Int) (B : Option Addr) (m d : Nat) (l : List Int) (w : World) (hn : n ≤ c ∧ c ≤ maxLen) (hS : ∀ j, j < n → (L j).nm.size ≤ maxLen) (hA : Chl w A n L) (hms : ms ≤ maxLen) (hC : Spl w C ms S) (hl : IsL w 0 (.slice B m d) l) (hml : m = l.length) (hm : m ≤ maxLen) :
    Calls Try.prog 3 #[.slice A n c, .slice C ms e0, .int .i64 per, .slice B m d] w fun e' w' => e' = .returned (.bool true) ∧ Bl w w' := by
  have HA := Lib.hid hA
  have HCC := Lib.hid hC
  have HS := Lib.hid hS
  have HN := Lib.hid (Nat.le_trans hn.1 hn.2)
  have HC := Lib.hid hn
  have HMS := Lib.hid hms
  have HM := Lib.hid hm
  have HL := Lib.hid hl
  have HML := Lib.hid hml
  have HB := Lib.hid (show Sl w B m (fun j => l.getD j 0) from by
    obtain ⟨A', c', e, _, _, hs, _⟩ := hl
    injection e with e1 e2 e3
    subst e1
    rw [hml]; exact hs)
  unfold maxLen at hms hm
  clear hA hC hS hn hl hml
  cases f1 : namB L n with
  | false =>
    have HF1 := Lib.hid f1
    clear f1
    go_enter Try.func3, Try.ntmps3
    go_wp2_with fail
    refine (named_any A n c L _ HA.out HS.out HN.out).mono ?_
    rintro q1 w1 ⟨rfl, hb⟩
    rw [HF1.out]
    have B1 := Lib.hid hb
    clear hb
    go_wp2_with fail
    refine (awakeN_any _).mono ?_
    rintro q9 w9 ⟨rfl, hb⟩
    go_wp2_with fail
    go_ret
    exact ⟨rfl, Bl.tr B1.out hb⟩
  | true =>
    have HF1 := Lib.hid f1
    clear f1
    by_cases g1 : 60 < ms
    · go_enter Try.func3, Try.ntmps3
      go_wp2_with fail
      refine (named_any A n c L _ HA.out HS.out HN.out).mono ?_
      rintro q1 w1 ⟨rfl, hb⟩
      rw [HF1.out]
      have B1 := Lib.hid hb
      clear hb
      go_wp2_with fail
      refine (awakeN_any _).mono ?_
      rintro q9 w9 ⟨rfl, hb⟩
      go_wp2_with fail
      go_ret
      exact ⟨rfl, Bl.tr B1.out hb⟩
    · by_cases g2 : 40 < m
      · go_enter Try.func3, Try.ntmps3
        go_wp2_with fail
        refine (named_any A n c L _ HA.out HS.out HN.out).mono ?_
        rintro q1 w1 ⟨rfl, hb⟩
        rw [HF1.out]
        have B1 := Lib.hid hb
        clear hb
        go_wp2_with fail
        refine (awakeN_any _).mono ?_
        rintro q9 w9 ⟨rfl, hb⟩
        go_wp2_with fail
        go_ret
        exact ⟨rfl, Bl.tr B1.out hb⟩
      · have HM4 := Lib.hid (show l.length ≤ 400 by have := HML.out; omega)
        have HM5 := Lib.hid (show m ≤ 400 by omega)
        obtain ⟨r, hr⟩ : ∃ r, r = rtB L n S ms per (fun j => l.getD j 0) m := ⟨_, rfl⟩
        obtain ⟨w1', hw1⟩ : ∃ x, x = (wrR L n l).1 := ⟨_, rfl⟩
        obtain ⟨w2', hw2⟩ : ∃ x, x = (wrR L n l).2 := ⟨_, rfl⟩
        obtain ⟨i1', hi1⟩ : ∃ x, x = (idR L n per (fun j => l.getD j 0) m).1 := ⟨_, rfl⟩
        obtain ⟨i2', hi2⟩ : ∃ x, x = (idR L n per (fun j => l.getD j 0) m).2 := ⟨_, rfl⟩
        have HR := Lib.hid hr
        have HW1 := Lib.hid hw1
        have HW2 := Lib.hid hw2
        have HI1 := Lib.hid hi1
        have HI2 := Lib.hid hi2
        clear hr hw1 hw2 hi1 hi2
        have t1 : (w1' != w1') = false := by simp
        have t2 : (w2' != w2') = false := by simp
        have t3 : (i1' != i1') = false := by simp
        have t4 : (i2' != i2') = false := by simp
        cases r with
        | false =>
          go_enter Try.func3, Try.ntmps3
          go_wp2_with fail
          refine (named_any A n c L _ HA.out HS.out HN.out).mono ?_
          rintro q1 w1 ⟨rfl, hb⟩
          rw [HF1.out]
          have B1 := Lib.hid hb
          clear hb
          go_wp2_with fail
          refine (rightN_any A n c L C ms e0 S per B m d (fun j => l.getD j 0) _ (HA.out.below B1.out) HS.out HC.out.1 HC.out.2 (HCC.out.below B1.out) HMS.out (HB.out.below B1.out) HM.out).mono ?_
          rintro q2 w2 ⟨rfl, hb⟩
          rw [← HR.out]
          have B2 := Lib.hid (B1.out.tr hb)
          clear hb
          go_wp2_with fail
          refine (worthT_any A n c L B m d l _ (HA.out.below B2.out) HS.out HC.out.1 HC.out.2 (HL.out.below B2.out) HML.out HM4.out).mono ?_
          rintro q3 w3 ⟨rfl, hb⟩
          rw [← HW1.out, ← HW2.out]
          have B3 := Lib.hid (B2.out.tr hb)
          clear hb
          go_wp2_with fail
          refine (rworthT_any A n c L B m d l _ (HA.out.below B3.out) HS.out HC.out.1 HC.out.2 (HL.out.below B3.out) HML.out HM4.out).mono ?_
          rintro q4 w4 ⟨rfl, hb⟩
          rw [← HW1.out, ← HW2.out]
          have B4 := Lib.hid (B3.out.tr hb)
          clear hb
          go_wp2_with fail
          refine (idleN_any A n c L per B m d (fun j => l.getD j 0) _ (HA.out.below B4.out) HS.out HC.out.1 HC.out.2 (HB.out.below B4.out) HM5.out).mono ?_
          rintro q5 w5 ⟨rfl, hb⟩
          rw [← HI1.out, ← HI2.out]
          have B5 := Lib.hid (B4.out.tr hb)
          clear hb
          go_wp2_with fail
          refine (ridleN_any A n c L per B m d (fun j => l.getD j 0) _ (HA.out.below B5.out) HS.out HC.out.1 HC.out.2 (HB.out.below B5.out) HM5.out).mono ?_
          rintro q6 w6 ⟨rfl, hb⟩
          rw [← HI1.out, ← HI2.out]
          have B6 := Lib.hid (B5.out.tr hb)
          clear hb
          go_wp2_with fail
          refine (rrightN_any A n c L C ms e0 S per B m d (fun j => l.getD j 0) _ (HA.out.below B6.out) HS.out HC.out.1 HC.out.2 (HCC.out.below B6.out) HMS.out (HB.out.below B6.out) HM.out).mono ?_
          rintro q7 w7 ⟨rfl, hb⟩
          rw [← HR.out]
          have BX := Lib.hid (B6.out.tr hb)
          clear hb
          go_wp2_with fail
          refine (awakeN_any _).mono ?_
          rintro q9 w9 ⟨rfl, hb⟩
          go_wp2_with fail
          go_ret
          exact ⟨rfl, Bl.tr BX.out hb⟩
        | true =>
          by_cases g3 : m = 0
          · have g4 : ((m : Int) == 0) = true := by simp [g3]
            have HG3 := Lib.hid g3
            clear g3
            go_enter Try.func3, Try.ntmps3
            go_wp2_with fail
            refine (named_any A n c L _ HA.out HS.out HN.out).mono ?_
            rintro q1 w1 ⟨rfl, hb⟩
            rw [HF1.out]
            have B1 := Lib.hid hb
            clear hb
            go_wp2_with fail
            refine (rightN_any A n c L C ms e0 S per B m d (fun j => l.getD j 0) _ (HA.out.below B1.out) HS.out HC.out.1 HC.out.2 (HCC.out.below B1.out) HMS.out (HB.out.below B1.out) HM.out).mono ?_
            rintro q2 w2 ⟨rfl, hb⟩
            rw [← HR.out]
            have B2 := Lib.hid (B1.out.tr hb)
            clear hb
            go_wp2_with fail
            refine (worthT_any A n c L B m d l _ (HA.out.below B2.out) HS.out HC.out.1 HC.out.2 (HL.out.below B2.out) HML.out HM4.out).mono ?_
            rintro q3 w3 ⟨rfl, hb⟩
            rw [← HW1.out, ← HW2.out]
            have B3 := Lib.hid (B2.out.tr hb)
            clear hb
            go_wp2_with fail
            refine (rworthT_any A n c L B m d l _ (HA.out.below B3.out) HS.out HC.out.1 HC.out.2 (HL.out.below B3.out) HML.out HM4.out).mono ?_
            rintro q4 w4 ⟨rfl, hb⟩
            rw [← HW1.out, ← HW2.out]
            have B4 := Lib.hid (B3.out.tr hb)
            clear hb
            go_wp2_with fail
            refine (idleN_any A n c L per B m d (fun j => l.getD j 0) _ (HA.out.below B4.out) HS.out HC.out.1 HC.out.2 (HB.out.below B4.out) HM5.out).mono ?_
            rintro q5 w5 ⟨rfl, hb⟩
            rw [← HI1.out, ← HI2.out]
            have B5 := Lib.hid (B4.out.tr hb)
            clear hb
            go_wp2_with fail
            refine (ridleN_any A n c L per B m d (fun j => l.getD j 0) _ (HA.out.below B5.out) HS.out HC.out.1 HC.out.2 (HB.out.below B5.out) HM5.out).mono ?_
            rintro q6 w6 ⟨rfl, hb⟩
            rw [← HI1.out, ← HI2.out]
            have B6 := Lib.hid (B5.out.tr hb)
            clear hb
            go_wp2_with fail
            refine (rrightN_any A n c L C ms e0 S per B m d (fun j => l.getD j 0) _ (HA.out.below B6.out) HS.out HC.out.1 HC.out.2 (HCC.out.below B6.out) HMS.out (HB.out.below B6.out) HM.out).mono ?_
            rintro q7 w7 ⟨rfl, hb⟩
            rw [← HR.out]
            have BX := Lib.hid (B6.out.tr hb)
            clear hb
            go_wp2_with fail
            refine (awakeN_any _).mono ?_
            rintro q9 w9 ⟨rfl, hb⟩
            go_wp2_with fail
            go_ret
            exact ⟨rfl, Bl.tr BX.out hb⟩
          · have g4 : ((m : Int) == 0) = false := by simp; omega
            go_enter Try.func3, Try.ntmps3
            go_wp2_with fail
            refine (named_any A n c L _ HA.out HS.out HN.out).mono ?_
            rintro q1 w1 ⟨rfl, hb⟩
            rw [HF1.out]
            have B1 := Lib.hid hb
            clear hb
            go_wp2_with fail
            refine (rightN_any A n c L C ms e0 S per B m d (fun j => l.getD j 0) _ (HA.out.below B1.out) HS.out HC.out.1 HC.out.2 (HCC.out.below B1.out) HMS.out (HB.out.below B1.out) HM.out).mono ?_
            rintro q2 w2 ⟨rfl, hb⟩
            rw [← HR.out]
            have B2 := Lib.hid (B1.out.tr hb)
            clear hb
            go_wp2_with fail
            refine (worthT_any A n c L B m d l _ (HA.out.below B2.out) HS.out HC.out.1 HC.out.2 (HL.out.below B2.out) HML.out HM4.out).mono ?_
            rintro q3 w3 ⟨rfl, hb⟩
            rw [← HW1.out, ← HW2.out]
            have B3 := Lib.hid (B2.out.tr hb)
            clear hb
            go_wp2_with fail
            refine (rworthT_any A n c L B m d l _ (HA.out.below B3.out) HS.out HC.out.1 HC.out.2 (HL.out.below B3.out) HML.out HM4.out).mono ?_
            rintro q4 w4 ⟨rfl, hb⟩
            rw [← HW1.out, ← HW2.out]
            have B4 := Lib.hid (B3.out.tr hb)
            clear hb
            go_wp2_with fail
            refine (idleN_any A n c L per B m d (fun j => l.getD j 0) _ (HA.out.below B4.out) HS.out HC.out.1 HC.out.2 (HB.out.below B4.out) HM5.out).mono ?_
            rintro q5 w5 ⟨rfl, hb⟩
            rw [← HI1.out, ← HI2.out]
            have B5 := Lib.hid (B4.out.tr hb)
            clear hb
            go_wp2_with fail
            refine (ridleN_any A n c L per B m d (fun j => l.getD j 0) _ (HA.out.below B5.out) HS.out HC.out.1 HC.out.2 (HB.out.below B5.out) HM5.out).mono ?_
            rintro q6 w6 ⟨rfl, hb⟩
            rw [← HI1.out, ← HI2.out]
            have B6 := Lib.hid (B5.out.tr hb)
            clear hb
            go_wp2_with fail
            refine (rrightN_any A n c L C ms e0 S per B m d (fun j => l.getD j 0) _ (HA.out.below B6.out) HS.out HC.out.1 HC.out.2 (HCC.out.below B6.out) HMS.out (HB.out.below B6.out) HM.out).mono ?_
            rintro q7 w7 ⟨rfl, hb⟩
            rw [← HR.out]
            have BX := Lib.hid (B6.out.tr hb)
            clear hb
            go_wp2_with fail
            obtain ⟨v1, v3, hx, hb, hid⟩ := rt_use HR.out.symm
            have HV := Lib.hid (fun j (hj : j < n) => (ms_vc (vd_at v1 hj)).2)
            have HP := Lib.hid v3
            have HXA := Lib.hid (fun j (hj : j < m) => ixNo_at hx hj)
            have HTB := Lib.hid (fun k (hk : k ≤ m) => ts_bd HV.out hx hb v3 hk)
            obtain ⟨ibd1, ibd2⟩ := idF_bd HV.out hx hb v3 (Nat.le_refl m)
            have h1 : i1' = idF L per (fun j => l.getD j 0) m := by rw [HI1.out, hid]
            have h2 : i2' = 0 := by rw [HI2.out, hid]
            have H1 := Lib.hid h1
            rw [← h1] at ibd1 ibd2
            have t5 : (i2' == 0) = true := by rw [h2]; rfl
            clear v1 v3 hx hb hid h1 h2 t1 t2 t3 t4
            go_loopw [18, 106] (fun s i wr => ∃ k : Nat, k ≤ m ∧ i = .int .i64 k ∧ s = .int .i64 (i1' + tsF L per (fun j => l.getD j 0) k) ∧ Bl w wr) (fun _ i _ => m - (intOf i).toNat)
            case atStart => exact ⟨0, Nat.zero_le _, rfl, by simp [tsF], BX.out⟩
            case round =>
              obtain ⟨k, hk, rfl, rfl, hZ⟩ := hrel
              by_cases hlt : k < m
              · obtain ⟨b, off, rfl, hbb, hcc⟩ := (HB.out.below hZ) (by omega)
                have c1 := hcc k hlt
                (try dsimp only at c1)
                have hx1 := HXA.out k hlt
                have b0 := HTB.out k (by omega)
                have b1 := HTB.out (k + 1) (by omega)
                obtain ⟨ib, hib⟩ : ∃ ib : Nat, (ib : Int) = l.getD k 0 := ⟨(l.getD k 0).toNat, by omega⟩
                have hib1 : ib < n := by omega
                have HIBX := Lib.hid (show (l.getD k 0).toNat = ib by rw [← hib, Int.toNat_natCast])
                rw [← hib] at c1
                clear hib hx1
                obtain ⟨b2, off2, rfl, hbb2, hcd⟩ := (HA.out.below hZ) (by omega)
                obtain ⟨x0, x1, x2, x3, x4⟩ := hcd ib hib1
                have vx := vc_iff.1 (HV.out ib hib1)
                have HSX := Lib.hid (HS.out ib hib1)
                have HVX := Lib.hid (HV.out ib hib1)
                obtain ⟨s, hs⟩ : ∃ s, s = i1' + tsF L per (fun j => l.getD j 0) k := ⟨_, rfl⟩
                have HSS := Lib.hid hs
                rw [← hs]
                by_cases k1 : 1 ≤ k
                · have c2 := hcc (k - 1) (by omega)
                  (try dsimp only at c2)
                  have hx2 := HXA.out (k - 1) (by omega)
                  obtain ⟨ja, hja⟩ : ∃ ja : Nat, (ja : Int) = l.getD (k - 1) 0 := ⟨(l.getD (k - 1) 0).toNat, by omega⟩
                  have hja1 : ja < n := by omega
                  have HST := Lib.hid (ts_step L per (fun j => l.getD j 0) k1)
                  have HJAX := Lib.hid (show (l.getD (k - 1) 0).toNat = ja by rw [← hja, Int.toNat_natCast])
                  rw [HIBX.out, HJAX.out] at HST
                  rw [← hja] at c2
                  clear hja hx2 hcc
                  obtain ⟨y0, y1, y2, y3, y4⟩ := hcd ja hja1
                  have vy := vc_iff.1 (HV.out ja hja1)
                  have HSY := Lib.hid (HS.out ja hja1)
                  have HVY := Lib.hid (HV.out ja hja1)
                  clear hcd
                  have ht := trn_bd (a := L ja) (b := L ib) (per := per) ⟨vy.2.2.2.2.1, vy.2.2.2.2.2.1⟩ ⟨vx.2.2.2.2.1, vx.2.2.2.2.2.1⟩ HP.out
                  obtain ⟨x, hx⟩ : ∃ x, x = L ib := ⟨_, rfl⟩
                  obtain ⟨y, hy⟩ : ∃ y, y = L ja := ⟨_, rfl⟩
                  rw [← hx] at x0 x1 x2 x3 x4 vx HST HSX HVX ht
                  rw [← hy] at y0 y1 y2 y3 y4 vy HST HSY HVY ht
                  have HTT := Lib.hid (show tuR y x per = (trn y x per, 0) from tuR_ok HVY.out HVX.out (inB_iff.2 HP.out))
                  obtain ⟨t, hT⟩ : ∃ t, t = trn y x per := ⟨_, rfl⟩
                  rw [← hT] at HST ht HTT
                  obtain ⟨-, f1, f2, f3, -, -, -, -⟩ := vx
                  obtain ⟨U, hU⟩ : ∃ U, U = x.to - x.fr := ⟨_, rfl⟩
                  obtain ⟨V, hV⟩ : ∃ V, V = s + U := ⟨_, rfl⟩
                  obtain ⟨Z, hZ2⟩ : ∃ Z, Z = V + t := ⟨_, rfl⟩
                  have HZZ := Lib.hid (show Z = i1' + tsF L per (fun j => l.getD j 0) (k + 1) by rw [hZ2, hV, hU, hs, HST.out]; omega)
                  have w1 : IntKind.i64.wrap (x.to - x.fr) = U := by rw [IntWalk.i64_in _ (by omega)]; exact hU.symm
                  have w2 : wrap64 (x.to - x.fr) = U := by rw [IntWalk.wrap64_in _ (by omega)]; exact hU.symm
                  have w3 : IntKind.i64.wrap (s + U) = V := by rw [IntWalk.i64_in _ (by omega)]; exact hV.symm
                  have w4 : wrap64 (s + U) = V := by rw [IntWalk.wrap64_in _ (by omega)]; exact hV.symm
                  have w5 : IntKind.i64.wrap (V + t) = Z := by rw [IntWalk.i64_in _ (by omega)]; exact hZ2.symm
                  have w6 : wrap64 (V + t) = Z := by rw [IntWalk.wrap64_in _ (by omega)]; exact hZ2.symm
                  have e1 : IntKind.i64.wrap ((k : Int) - 1) = (k : Int) - 1 := IntWalk.i64_in _ (by omega)
                  have e2 : wrap64 ((k : Int) - 1) = (k : Int) - 1 := IntWalk.wrap64_in _ (by omega)
                  have e3 : (0 : Int) ≤ (k : Int) - 1 := by omega
                  have e4 : (k : Int) - 1 < (m : Int) := by omega
                  have e6 : (0 : Int) < (k : Int) := by omega
                  have e7 : (1 : Int) ≤ (k : Int) := by omega
                  have e8 : decide ((0 : Int) < (k : Int)) = true := decide_eq_true e6
                  have e9 : decide (0 < k) = true := decide_eq_true (by omega)
                  have jm : k - 1 < m := by omega
                  have HB9 := Lib.hid hZ
                  have S1 := Lib.hid (show SJ wr b (off + (k - 1)) (off + k) ja ib b2 (off2 + ja * 5) (off2 + ib * 5) y x wr from ⟨Bl.rf _, c2, c1, y0, y1, y2, y3, y4, x0, x1, x2, x3, x4, hbb, hbb2⟩)
                  clear hT hs hU hV hZ2 ht f1 f2 f3 vy b0 b1 hx hy
                  go_wp2_with fail
                  go_quiet (fail)
                  have S0 : SJ wr b (off + (k - 1)) (off + k) ja ib b2 (off2 + ja * 5) (off2 + ib * 5) y x (wr.drewN nq) := S1.out.t (bl_dnN _ _)
                  go_wp2_with fail
                  go_region_held3 (fun W' => Bl wr W' ∧ W'.cell? ⟨b, off + (k - 1), none⟩ = some (.int .i64 (ja : Int)) ∧ W'.cell? ⟨b, off + k, none⟩ = some (.int .i64 (ib : Int)) ∧ W'.cell? ⟨b2, off2 + ja * 5, none⟩ = some (.string y.nm) ∧ W'.cell? ⟨b2, off2 + ja * 5 + 1, none⟩ = some (.int .i64 y.fr) ∧ W'.cell? ⟨b2, off2 + ja * 5 + 2, none⟩ = some (.int .i64 y.to) ∧ W'.cell? ⟨b2, off2 + ja * 5 + 3, none⟩ = some (.int .i64 y.tl) ∧ W'.cell? ⟨b2, off2 + ja * 5 + 4, none⟩ = some (.int .i64 y.wo) ∧ W'.cell? ⟨b2, off2 + ib * 5, none⟩ = some (.string x.nm) ∧ W'.cell? ⟨b2, off2 + ib * 5 + 1, none⟩ = some (.int .i64 x.fr) ∧ W'.cell? ⟨b2, off2 + ib * 5 + 2, none⟩ = some (.int .i64 x.to) ∧ W'.cell? ⟨b2, off2 + ib * 5 + 3, none⟩ = some (.int .i64 x.tl) ∧ W'.cell? ⟨b2, off2 + ib * 5 + 4, none⟩ = some (.int .i64 x.wo) ∧ b < W'.heap.size ∧ b2 < W'.heap.size) (first | exact S0 | exact SJ.t S0 (bl_drN _) | exact SJ.t (by assumption) hh0) (first | (go_at_call 15; refine (turnTN_any y x per _ HSY.out HSX.out).mono ?_; rintro e v0 ⟨rfl, hh0⟩; rw [HTT.out]; dsimp only))
                  all_goals
                    rename_i hHeld
                    have hHB := Lib.hid (HB9.out.tr hHeld.1)
                    clear hHeld
                    go_wp2_with fail
                    go_roundw
                    case rel => exact ⟨k + 1, by omega, by go_num, by rw [HZZ.out], hHB.out⟩
                    case measure => simp [intOf]; omega
                · have hk0 : k = 0 := by omega
                  have HST := Lib.hid (ts_zero L per (fun j => l.getD j 0) hk0)
                  rw [HIBX.out] at HST
                  obtain ⟨x, hx⟩ : ∃ x, x = L ib := ⟨_, rfl⟩
                  rw [← hx] at x0 x1 x2 x3 x4 vx HST HSX HVX
                  obtain ⟨-, f1, f2, f3, -, -, -, -⟩ := vx
                  obtain ⟨U, hU⟩ : ∃ U, U = x.to - x.fr := ⟨_, rfl⟩
                  obtain ⟨V, hV⟩ : ∃ V, V = s + U := ⟨_, rfl⟩
                  have HZZ := Lib.hid (show V = i1' + tsF L per (fun j => l.getD j 0) (k + 1) by rw [hV, hU, hs, HST.out]; omega)
                  have w1 : IntKind.i64.wrap (x.to - x.fr) = U := by rw [IntWalk.i64_in _ (by omega)]; exact hU.symm
                  have w2 : wrap64 (x.to - x.fr) = U := by rw [IntWalk.wrap64_in _ (by omega)]; exact hU.symm
                  have w3 : IntKind.i64.wrap (s + U) = V := by rw [IntWalk.i64_in _ (by omega)]; exact hV.symm
                  have w4 : wrap64 (s + U) = V := by rw [IntWalk.wrap64_in _ (by omega)]; exact hV.symm
                  have HB9 := Lib.hid hZ
                  have HK0 := Lib.hid hk0
                  clear hcc hcd hs hU hV f1 f2 f3 b0 b1 hx hk0 k1
                  go_wp2_with fail
                  go_quiet (fail)
                  obtain ⟨z, hz⟩ : ∃ z : Int, z = (k : Int) := ⟨_, rfl⟩
                  rw [← hz]
                  have HZ9 := Lib.hid hz
                  have z0 : decide ((0 : Int) < z) = false := decide_eq_false (by have := HK0.out; omega)
                  have z3 : ¬ (0 : Int) < z := by have := HK0.out; omega
                  have z1 : IntKind.i64.wrap (z + 1) = z + 1 := IntWalk.i64_in _ (by omega)
                  have z2 : wrap64 (z + 1) = z + 1 := IntWalk.wrap64_in _ (by omega)
                  clear hz
                  go_wp2_with fail
                  go_roundw
                  case rel => exact ⟨k + 1, by omega, by rw [HZ9.out]; go_num, by rw [HZZ.out], HB9.out.tr (bl_dnN _ _)⟩
                  case measure => have := HZ9.out; simp [intOf]; omega
              · have hkm : k = m := by omega
                rw [hkm]
                have TE := ts_id L per (fun j => l.getD j 0) (k := m) (by omega)
                rw [← H1.out] at TE
                (try dsimp only at TE)
                obtain ⟨b, off, rfl, hbb, hcc⟩ := (HB.out.below hZ) (by omega)
                have c1 := hcc (m - 1) (by omega)
                have c2 := hcc 0 (by omega)
                (try dsimp only at c1 c2)
                rw [Nat.add_zero] at c2
                have hx1 := HXA.out (m - 1) (by omega)
                have hx2 := HXA.out 0 (by omega)
                obtain ⟨ja, hja⟩ : ∃ ja : Nat, (ja : Int) = l.getD (m - 1) 0 := ⟨(l.getD (m - 1) 0).toNat, by omega⟩
                obtain ⟨ib, hib⟩ : ∃ ib : Nat, (ib : Int) = l.getD 0 0 := ⟨(l.getD 0 0).toNat, by omega⟩
                have hja1 : ja < n := by omega
                have hib1 : ib < n := by omega
                rw [← hja] at c1
                rw [← hib] at c2
                rw [← hja, ← hib, Int.toNat_natCast, Int.toNat_natCast] at TE
                clear hja hib hx1 hx2 hcc
                obtain ⟨b2, off2, rfl, hbb2, hcd⟩ := (HA.out.below hZ) (by omega)
                obtain ⟨-, -, y2, -, -⟩ := hcd ja hja1
                obtain ⟨-, x1, -, -, -⟩ := hcd ib hib1
                have vy := vc_iff.1 (HV.out ja hja1)
                have vx := vc_iff.1 (HV.out ib hib1)
                obtain ⟨p, hp⟩ : ∃ p, p = (L ja).to := ⟨_, rfl⟩
                obtain ⟨q, hq⟩ : ∃ q, q = (L ib).fr := ⟨_, rfl⟩
                rw [← hp] at y2 vy TE
                rw [← hq] at x1 vx TE
                obtain ⟨-, g1', g2', g3', -, -, -, -⟩ := vy
                obtain ⟨-, f1', f2', f3', -, -, -, -⟩ := vx
                obtain ⟨U, hU⟩ : ∃ U, U = p - q := ⟨_, rfl⟩
                have w1 : IntKind.i64.wrap (p - q) = U := by rw [IntWalk.i64_in _ (by omega)]; exact hU.symm
                have w2 : wrap64 (p - q) = U := by rw [IntWalk.wrap64_in _ (by omega)]; exact hU.symm
                rw [TE, ← hU]
                have e1 : IntKind.i64.wrap ((m : Int) - 1) = (m : Int) - 1 := IntWalk.i64_in _ (by omega)
                have e2 : wrap64 ((m : Int) - 1) = (m : Int) - 1 := IntWalk.wrap64_in _ (by omega)
                have e3 : (0 : Int) ≤ (m : Int) - 1 := by omega
                have e4 : (m : Int) - 1 < (m : Int) := by omega
                have e6 : (0 : Int) < (m : Int) := by omega
                have e7 : (1 : Int) ≤ (m : Int) := by omega
                have e8 : 0 < m := by omega
                have e9 : 1 ≤ m := by omega
                have jm : m - 1 < m := by omega
                have t6 : decide ((0 : Int) ≤ i1') = true := decide_eq_true ibd1
                have HB9 := Lib.hid hZ
                have S0 : Bl wr wr ∧ wr.cell? ⟨b, off + (m - 1), none⟩ = some (.int .i64 (ja : Int)) ∧ wr.cell? ⟨b, off, none⟩ = some (.int .i64 (ib : Int)) ∧ wr.cell? ⟨b2, off2 + ja * 5 + 2, none⟩ = some (.int .i64 p) ∧ wr.cell? ⟨b2, off2 + ib * 5 + 1, none⟩ = some (.int .i64 q) ∧ b < wr.heap.size ∧ b2 < wr.heap.size := ⟨Bl.rf _, c1, c2, y2, x1, hbb, hbb2⟩
                clear hcd hp hq hU TE g1' g2' g3' f1' f2' f3' hkm hlt hk
                go_wp2_with fail
                go_region_held3 (fun W' => Bl wr W' ∧ W'.cell? ⟨b, off + (m - 1), none⟩ = some (.int .i64 (ja : Int)) ∧ W'.cell? ⟨b, off, none⟩ = some (.int .i64 (ib : Int)) ∧ W'.cell? ⟨b2, off2 + ja * 5 + 2, none⟩ = some (.int .i64 p) ∧ W'.cell? ⟨b2, off2 + ib * 5 + 1, none⟩ = some (.int .i64 q) ∧ b < W'.heap.size ∧ b2 < W'.heap.size) (first | exact S0 | exact SE.t S0 (bl_drN _) | exact SE.t (by assumption) hh0) (first | (go_at_call 8; refine (awakeN_any _).mono ?_; rintro e v0 ⟨rfl, hh0⟩))
                all_goals
                  rename_i hHeld
                  have hHB := Lib.hid (HB9.out.tr hHeld.1)
                  clear hHeld
                  go_wp2_with fail
                  go_ret
                  exact ⟨rfl, hHB.out⟩
end Go.Proofs.Ytlidpojdaadecaa
