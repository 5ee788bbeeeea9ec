/-
  Contracts of package night and of its reference: Idle.
-/
import Derived.Test.YtlidpojdaadecaaNX
namespace Go.Proofs.Ytlidpojdaadecaa
open Go.RowKit
set_option linter.unusedSimpArgs false
set_option linter.unusedVariables false

/-- How long the observer is idle between the first k chances of a list. -/
def idF (L : Nat → Ch) (per : Int) (T : Nat → Int) : Nat → Int
  | 0 => 0
  | k + 1 => if k = 0 then 0 else idF L per T k + ((L (T k).toNat).fr - (L (T (k - 1)).toNat).to - trn (L (T (k - 1)).toNat) (L (T k).toNat) per)
/-- What Idle returns. -/
def idR (L : Nat → Ch) (n : Nat) (per : Int) (T : Nat → Int) (m : Nat) : Int × Int :=
  if chkN L n (fun _ => ⟨0, 0⟩) 0 per = 0 then (if ixNo n T m = true then (0, 5) else if anyTo (brkB L per T) m = true then (0, 9) else (idF L per T m, 0)) else (0, chkN L n (fun _ => ⟨0, 0⟩) 0 per)
theorem idF_step {L : Nat → Ch} {per : Int} {T : Nat → Int} {k : Nat} (h : 1 ≤ k) : idF L per T (k + 1) = idF L per T k + ((L (T k).toNat).fr - (L (T (k - 1)).toNat).to - trn (L (T (k - 1)).toNat) (L (T k).toNat) per) := by
  rw [idF, if_neg (by omega)]
theorem idF_bd {L : Nat → Ch} {n : Nat} {per : Int} {T : Nat → Int} {m : Nat} (hv : ∀ j, j < n → vcB (L j) = true) (hx : ixNo n T m = false) (hb : anyTo (brkB L per T) m = false) (hp : 0 ≤ per ∧ per ≤ 10000) {k : Nat} (hk : k ≤ m) :
    0 ≤ idF L per T k ∧ idF L per T k ≤ 86400000 * (k : Int) := by
  induction k with
  | zero => exact ⟨Int.le_refl _, by simp [idF]⟩
  | succ k ih =>
    obtain ⟨i1, i2⟩ := ih (by omega)
    by_cases k1 : 1 ≤ k
    · rw [idF_step k1]
      obtain ⟨b1, b2⟩ := ixNo_at hx (show k < m by omega)
      obtain ⟨c1, c2⟩ := ixNo_at hx (j := k - 1) (by omega)
      have vx := vc_iff.1 (hv (T k).toNat (by omega))
      have vy := vc_iff.1 (hv (T (k - 1)).toNat (by omega))
      have q := anyTo_no.1 hb k (by omega)
      rw [brkB, decide_eq_true k1, Bool.true_and] at q
      have hf : (L (T (k - 1)).toNat).to + trn (L (T (k - 1)).toNat) (L (T k).toNat) per ≤ (L (T k).toNat).fr := by simpa [flw] using q
      have ht := trn_bd (a := L (T (k - 1)).toNat) (b := L (T k).toNat) (per := per) ⟨vy.2.2.2.2.1, vy.2.2.2.2.2.1⟩ ⟨vx.2.2.2.2.1, vx.2.2.2.2.2.1⟩ hp
      have h1 := vx.2.2.1
      have h2 := vx.2.2.2.1
      have h3 := vy.2.1
      have h4 := vy.2.2.1
      omega
    · have k0 : k = 0 := by omega
      subst k0
      simp [idF]
def SP (w : World) (ba bb : Nat) (y x : Ch) (W' : World) : Prop := Bl w W' ∧ W'.cell? ⟨ba, 0, none⟩ = some (.string y.nm) ∧ W'.cell? ⟨ba, 1, none⟩ = some (.int .i64 y.fr) ∧ W'.cell? ⟨ba, 2, none⟩ = some (.int .i64 y.to) ∧ W'.cell? ⟨ba, 3, none⟩ = some (.int .i64 y.tl) ∧ W'.cell? ⟨ba, 4, none⟩ = some (.int .i64 y.wo) ∧ W'.cell? ⟨bb, 0, none⟩ = some (.string x.nm) ∧ W'.cell? ⟨bb, 1, none⟩ = some (.int .i64 x.fr) ∧ W'.cell? ⟨bb, 2, none⟩ = some (.int .i64 x.to) ∧ W'.cell? ⟨bb, 3, none⟩ = some (.int .i64 x.tl) ∧ W'.cell? ⟨bb, 4, none⟩ = some (.int .i64 x.wo) ∧ ba < W'.heap.size ∧ bb < W'.heap.size
theorem SP.t {w : World} {ba bb : Nat} {y x : Ch} {W W' : World} (h : SP w ba bb y x W) (hb : Bl W W') : SP w ba bb y x W' := by
  obtain ⟨h0, a0, a1, a2, a3, a4, c0, c1, c2, c3, c4, l1, l2⟩ := h
  exact ⟨h0.tr hb, kcb hb a0, kcb hb a1, kcb hb a2, kcb hb a3, kcb hb a4, kcb hb c0, kcb hb c1, kcb hb c2, kcb hb c3, kcb hb c4, Nat.lt_of_lt_of_le l1 hb.size, Nat.lt_of_lt_of_le l2 hb.size⟩
theorem id_a {L : Nat → Ch} {n : Nat} {per : Int} {T : Nat → Int} {m : Nat} (h : ¬ chkN L n (fun _ => ⟨0, 0⟩) 0 per = 0) : idR L n per T m = (0, chkN L n (fun _ => ⟨0, 0⟩) 0 per) := if_neg h
theorem id_b {L : Nat → Ch} {n : Nat} {per : Int} {T : Nat → Int} {m : Nat} (h : chkN L n (fun _ => ⟨0, 0⟩) 0 per = 0) (h2 : ixNo n T m = true) : idR L n per T m = (0, 5) := by rw [idR, if_pos h, if_pos h2]
theorem id_c {L : Nat → Ch} {n : Nat} {per : Int} {T : Nat → Int} {m : Nat} (h : chkN L n (fun _ => ⟨0, 0⟩) 0 per = 0) (h2 : ixNo n T m = false) (h3 : anyTo (brkB L per T) m = true) : idR L n per T m = (0, 9) := by
  rw [idR, if_pos h, if_neg (by rw [h2]; decide), if_pos h3]
theorem id_d {L : Nat → Ch} {n : Nat} {per : Int} {T : Nat → Int} {m : Nat} (h : chkN L n (fun _ => ⟨0, 0⟩) 0 per = 0) (h2 : ixNo n T m = false) (h3 : anyTo (brkB L per T) m = false) : idR L n per T m = (idF L per T m, 0) := by
  rw [idR, if_pos h, if_neg (by rw [h2]; decide), if_neg (by rw [h3]; decide)]
theorem id_rt {L : Nat → Ch} {n : Nat} {per : Int} {T : Nat → Int} {m : Nat} (h : chkN L n (fun _ => ⟨0, 0⟩) 0 per = 0) (h2 : ixNo n T m = false) : rtB L n (fun _ => ⟨0, 0⟩) 0 per T m = !anyTo (brkB L per T) m := by
  have h3 : anyTo (nclrB L (fun _ => ⟨0, 0⟩) 0 T) m = false := anyTo_no.2 fun k _ => rfl
  rw [rtB, decide_eq_true h, h2, h3]
  rfl
set_option maxRecDepth 100000 in
set_option maxHeartbeats 3200000 in
theorem idleN_any (A : Option Addr) (n c : Nat) (L : Nat → Ch) (per : Int) (B : Option Addr) (m d : Nat) (T : Nat → Int) (w : World) (hA : Chl w A n L) (hS : ∀ j, j < n → (L j).nm.size ≤ maxLen) (hn : n ≤ c) (hc : c ≤ maxLen) (hB : Sl w B m T) (h4 : m ≤ 400) :
    Calls Try.prog 12 #[.slice A n c, .int .i64 per, .slice B m d] w fun e w' => e = .returned (.tuple #[.int .i64 (idR L n per T m).1, .int .i64 (idR L n per T m).2]) ∧ Bl w w' := by
  have HK := Lib.hid (checkN_any A n c L none 0 0 (fun _ => ⟨0, 0⟩) per w hA hS hn hc (fun h => absurd h (by omega)) (by decide))
  have HA := Lib.hid hA
  have HB := Lib.hid hB
  have HSZ := Lib.hid hS
  have HNC := Lib.hid hn
  have HCM := Lib.hid hc
  have HNM := Lib.hid (Nat.le_trans hn hc)
  have HM := Lib.hid (show m ≤ maxLen by unfold maxLen; omega)
  clear hA hS hB
  unfold maxLen at hc
  obtain ⟨er, her⟩ : ∃ er, er = chkN L n (fun _ => ⟨0, 0⟩) 0 per := ⟨_, rfl⟩
  have HER := Lib.hid her
  by_cases h : er = 0
  · have hch : chkN L n (fun _ => ⟨0, 0⟩) 0 per = 0 := by rw [← her]; exact h
    subst h
    obtain ⟨v1, _, v3⟩ := chk_okR her.symm
    have HV := Lib.hid (fun j (hj : j < n) => (ms_vc (vd_at v1 hj)).2)
    have HP := Lib.hid v3
    cases hx : ixNo n T m with
    | true =>
      have HIX := Lib.hid hx
      have HR := Lib.hid (id_b hch hx)
      clear hch v1 v3 her hx
      go_enter Try.func12, Try.ntmps12
      go_wp2_with fail
      refine (HK.out).mono ?_
      rintro e1 w1 ⟨rfl, hb⟩
      rw [← HER.out]
      have B1 := Lib.hid hb
      clear hb
      go_wp2_with fail
      refine (areIndexes_any A n c B m d T _ (HB.out.below B1.out) HM.out).mono ?_
      rintro e2 w2 ⟨rfl, hb⟩
      rw [HIX.out]
      have B2 := Lib.hid (B1.out.tr hb)
      clear hb
      go_wp2_with fail
      refine bodyPost_ret (v := .tuple #[.int .i64 (idR L n per T m).1, .int .i64 (idR L n per T m).2]) ?_ rfl ⟨rfl, B2.out⟩
      rw [HR.out]
      simp [results, Try.results12, go_sem]
    | false =>
      have HIX := Lib.hid hx
      have HXA := Lib.hid (fun j (hj : j < m) => ixNo_at hx hj)
      cases hd : anyTo (brkB L per T) m with
      | true =>
        have HRT := Lib.hid (show anyTo (brkB L per T) m = true by exact hd)
        have HR := Lib.hid (id_c hch hx hd)
        clear hch v1 v3 her hx hd
        go_enter Try.func12, Try.ntmps12
        go_wp2_with fail
        refine (HK.out).mono ?_
        rintro e1 w1 ⟨rfl, hb⟩
        rw [← HER.out]
        have B1 := Lib.hid hb
        clear hb
        go_wp2_with fail
        refine (areIndexes_any A n c B m d T _ (HB.out.below B1.out) HM.out).mono ?_
        rintro e2 w2 ⟨rfl, hb⟩
        rw [HIX.out]
        have B2 := Lib.hid (B1.out.tr hb)
        clear hb
        go_wp2_with fail
        refine (isRight_any A n c L per B m d T _ (HA.out.below B2.out) HNM.out HV.out HP.out (HB.out.below B2.out) HM.out HXA.out).mono ?_
        rintro e3 w3 ⟨rfl, hb⟩
        rw [HRT.out]
        have B3 := Lib.hid (B2.out.tr hb)
        clear hb
        go_wp2_with fail
        refine bodyPost_ret (v := .tuple #[.int .i64 (idR L n per T m).1, .int .i64 (idR L n per T m).2]) ?_ rfl ⟨rfl, B3.out⟩
        rw [HR.out]
        simp [results, Try.results12, go_sem]
      | false =>
        have HRT := Lib.hid (show anyTo (brkB L per T) m = false by exact hd)
        have HR := Lib.hid (id_d hch hx hd)
        have HBD := Lib.hid (fun k (hk : k ≤ m) => idF_bd HV.out hx hd v3 hk)
        clear hch v1 v3 her hx hd
        go_enter Try.func12, Try.ntmps12
        go_wp2_with fail
        refine (HK.out).mono ?_
        rintro e1 w1 ⟨rfl, hb⟩
        rw [← HER.out]
        have B1 := Lib.hid hb
        clear hb
        go_wp2_with fail
        refine (areIndexes_any A n c B m d T _ (HB.out.below B1.out) HM.out).mono ?_
        rintro e2 w2 ⟨rfl, hb⟩
        rw [HIX.out]
        have B2 := Lib.hid (B1.out.tr hb)
        clear hb
        go_wp2_with fail
        refine (isRight_any A n c L per B m d T _ (HA.out.below B2.out) HNM.out HV.out HP.out (HB.out.below B2.out) HM.out HXA.out).mono ?_
        rintro e3 w3 ⟨rfl, hb⟩
        rw [HRT.out]
        have B3 := Lib.hid (B2.out.tr hb)
        clear hb
        go_wp2_with fail
        go_loopw [9, 10] (fun s i wr => ∃ k : Nat, 1 ≤ k ∧ (k ≤ m ∨ k = 1) ∧ i = .int .i64 k ∧ s = .int .i64 (idF L per T k) ∧ Bl w wr) (fun _ i _ => m - (intOf i).toNat)
        case atStart => exact ⟨1, Nat.le_refl _, .inr rfl, rfl, rfl, B3.out⟩
        case round =>
          obtain ⟨k, hk1, hk, rfl, rfl, hZ⟩ := hrel
          by_cases hlt : k < m
          · obtain ⟨b, off, rfl, hbb, hcc⟩ := (HB.out.below hZ) (by omega)
            have c1 := hcc k hlt
            have c2 := hcc (k - 1) (by omega)
            have hx1 := HXA.out k hlt
            have hx2 := HXA.out (k - 1) (by omega)
            have HST := Lib.hid (idF_step (L := L) (per := per) (T := T) hk1)
            have b0 := HBD.out k (by omega)
            have b1 := HBD.out (k + 1) (by omega)
            obtain ⟨ib, hib⟩ : ∃ ib : Nat, (ib : Int) = T k := ⟨(T k).toNat, by omega⟩
            obtain ⟨ja, hja⟩ : ∃ ja : Nat, (ja : Int) = T (k - 1) := ⟨(T (k - 1)).toNat, by omega⟩
            have hib1 : ib < n := by omega
            have hja1 : ja < n := by omega
            rw [← hib] at c1
            rw [← hja] at c2
            rw [← hib, ← hja, Int.toNat_natCast, Int.toNat_natCast] at HST
            clear hib hja hx1 hx2 hcc
            obtain ⟨b2, off2, rfl, hbb2, hcd⟩ := (HA.out.below hZ) (by omega)
            obtain ⟨y0, y1, y2, y3, y4⟩ := hcd ja hja1
            obtain ⟨x0, x1, x2, x3, x4⟩ := hcd ib hib1
            have vx := vc_iff.1 (HV.out ib hib1)
            have vy := vc_iff.1 (HV.out ja hja1)
            clear hcd
            obtain ⟨x, hx⟩ : ∃ x, x = L ib := ⟨_, rfl⟩
            obtain ⟨y, hy⟩ : ∃ y, y = L ja := ⟨_, rfl⟩
            rw [← hx] at x0 x1 x2 x3 x4 vx HST
            rw [← hy] at y0 y1 y2 y3 y4 vy HST
            obtain ⟨-, f1, f2, f3, f4, f5, -, -⟩ := vx
            obtain ⟨-, g1, g2, g3, g4, g5, -, -⟩ := vy
            clear hx hy
            have e1 : IntKind.i64.wrap ((k : Int) - 1) = (k : Int) - 1 := IntWalk.i64_in _ (by omega)
            have e2 : wrap64 ((k : Int) - 1) = (k : Int) - 1 := IntWalk.wrap64_in _ (by omega)
            have e3 : (0 : Int) ≤ (k : Int) - 1 := by omega
            have e4 : (k : Int) - 1 < (m : Int) := by omega
            have e7 : (1 : Int) ≤ (k : Int) := by omega
            have jm : k - 1 < m := by omega
            have ht := trn_bd (a := y) (b := x) (per := per) ⟨g4, g5⟩ ⟨f4, f5⟩ HP.out
            have HTU := Lib.hid (fun (X : World) => turnN_any y x per X ⟨g4, g5⟩ ⟨f4, f5⟩ HP.out)
            obtain ⟨t, hT⟩ : ∃ t, t = trn y x per := ⟨_, rfl⟩
            have HTT := Lib.hid hT.symm
            rw [← hT] at HST ht
            obtain ⟨s, hs⟩ : ∃ s, s = idF L per T k := ⟨_, rfl⟩
            rw [← hs] at HST b0 ⊢
            obtain ⟨U, hU⟩ : ∃ U, U = x.fr - y.to := ⟨_, rfl⟩
            obtain ⟨V, hV⟩ : ∃ V, V = U - t := ⟨_, rfl⟩
            obtain ⟨Z, hZ2⟩ : ∃ Z, Z = s + V := ⟨_, rfl⟩
            have HZZ := Lib.hid (show Z = s + (x.fr - y.to - t) by rw [hZ2, hV, hU])
            have w1 : IntKind.i64.wrap (x.fr - y.to) = U := by rw [IntWalk.i64_in _ (by omega)]; exact hU.symm
            have w2 : wrap64 (x.fr - y.to) = U := by rw [IntWalk.wrap64_in _ (by omega)]; exact hU.symm
            have w3 : IntKind.i64.wrap (U - t) = V := by rw [IntWalk.i64_in _ (by omega)]; exact hV.symm
            have w4 : wrap64 (U - t) = V := by rw [IntWalk.wrap64_in _ (by omega)]; exact hV.symm
            have w5 : IntKind.i64.wrap (s + V) = Z := by rw [IntWalk.i64_in _ (by omega)]; exact hZ2.symm
            have w6 : wrap64 (s + V) = Z := by rw [IntWalk.wrap64_in _ (by omega)]; exact hZ2.symm
            have HB9 := Lib.hid hZ
            clear hT hs hU hV hZ2 ht
            clear hZ f1 f2 f3 f4 f5 g1 g2 g3 g4 g5 b0 b1
            go_wp2_with fail
            have S0 : SJ w b (off + (k - 1)) (off + k) ja ib b2 (off2 + ja * 5) (off2 + ib * 5) y x wr := ⟨HB9.out, c2, c1, y0, y1, y2, y3, y4, x0, x1, x2, x3, x4, hbb, hbb2⟩
            go_region_held3 (fun W' => Bl w W' ∧ W'.cell? ⟨b, off + (k - 1), none⟩ = some (.int .i64 (ja : Int)) ∧ W'.cell? ⟨b, off + k, none⟩ = some (.int .i64 (ib : Int)) ∧ W'.cell? ⟨b2, off2 + ja * 5, none⟩ = some (.string y.nm) ∧ W'.cell? ⟨b2, off2 + ja * 5 + 1, none⟩ = some (.int .i64 y.fr) ∧ W'.cell? ⟨b2, off2 + ja * 5 + 2, none⟩ = some (.int .i64 y.to) ∧ W'.cell? ⟨b2, off2 + ja * 5 + 3, none⟩ = some (.int .i64 y.tl) ∧ W'.cell? ⟨b2, off2 + ja * 5 + 4, none⟩ = some (.int .i64 y.wo) ∧ W'.cell? ⟨b2, off2 + ib * 5, none⟩ = some (.string x.nm) ∧ W'.cell? ⟨b2, off2 + ib * 5 + 1, none⟩ = some (.int .i64 x.fr) ∧ W'.cell? ⟨b2, off2 + ib * 5 + 2, none⟩ = some (.int .i64 x.to) ∧ W'.cell? ⟨b2, off2 + ib * 5 + 3, none⟩ = some (.int .i64 x.tl) ∧ W'.cell? ⟨b2, off2 + ib * 5 + 4, none⟩ = some (.int .i64 x.wo) ∧ b < W'.heap.size ∧ b2 < W'.heap.size) (first | exact S0 | exact SJ.t S0 (bl_drN _) | exact SJ.t S0 (by go_grown)) (fail)
            · rename_i hHeld
              clear hHeld
              obtain ⟨Y, hY⟩ : ∃ Y, Y = ((wr.alloc (.cells #[.string y.nm, .int .i64 y.fr, .int .i64 y.to, .int .i64 y.tl, .int .i64 y.wo] 33)).alloc (.cells #[.string x.nm, .int .i64 x.fr, .int .i64 x.to, .int .i64 x.tl, .int .i64 x.wo] 33)).drew := ⟨_, rfl⟩
              have SP0 : SP w (wr.heap.size) (wr.heap.size + 1) y x Y := by
                rw [hY]
                exact SP.t ⟨HB9.out.tr (by go_grown), by go_cell, by go_cell, by go_cell, by go_cell, by go_cell, by go_cell, by go_cell, by go_cell, by go_cell, by go_cell, by (simp only [World.size_alloc]; omega), by (simp only [World.size_alloc]; omega)⟩ (bl_drN _)
              rw [← hY]
              obtain ⟨ba, hba⟩ : ∃ ba, ba = wr.heap.size := ⟨_, rfl⟩
              obtain ⟨bb, hbb⟩ : ∃ bb, bb = wr.heap.size + 1 := ⟨_, rfl⟩
              rw [← hbb, ← hba] at SP0 ⊢
              clear hY hba hbb c1 c2 x0 x1 x2 x3 x4 y0 y1 y2 y3 y4 S0 hbb2 e1 e2 e3 e4 e7
              obtain ⟨-, y0, y1, y2, y3, y4, x0, x1, x2, x3, x4, l1, l2⟩ := id SP0
              go_wp2_with fail
              go_region_held3 (fun W' => Bl w W' ∧ W'.cell? ⟨ba, 0, none⟩ = some (.string y.nm) ∧ W'.cell? ⟨ba, 1, none⟩ = some (.int .i64 y.fr) ∧ W'.cell? ⟨ba, 2, none⟩ = some (.int .i64 y.to) ∧ W'.cell? ⟨ba, 3, none⟩ = some (.int .i64 y.tl) ∧ W'.cell? ⟨ba, 4, none⟩ = some (.int .i64 y.wo) ∧ W'.cell? ⟨bb, 0, none⟩ = some (.string x.nm) ∧ W'.cell? ⟨bb, 1, none⟩ = some (.int .i64 x.fr) ∧ W'.cell? ⟨bb, 2, none⟩ = some (.int .i64 x.to) ∧ W'.cell? ⟨bb, 3, none⟩ = some (.int .i64 x.tl) ∧ W'.cell? ⟨bb, 4, none⟩ = some (.int .i64 x.wo) ∧ ba < W'.heap.size ∧ bb < W'.heap.size) (first | exact SP0 | exact SP.t SP0 (bl_drN _) | exact SP.t (by assumption) hh0) (first | (go_at_call 36; refine (HTU.out _).mono ?_; rintro e v0 ⟨rfl, hh0⟩; rw [HTT.out]))
              all_goals
                rename_i hHeld
                have hHB := hHeld.1
                clear hHeld
                go_wp2_with fail
                go_roundw
                case rel => exact ⟨k + 1, by omega, by omega, by go_num, by rw [HST.out, ← HZZ.out], hHB⟩
                case measure => simp [intOf]; omega
            · rename_i hHeld
              clear hHeld
              obtain ⟨Y, hY⟩ : ∃ Y, Y = ((wr.alloc (.cells #[.string x.nm, .int .i64 x.fr, .int .i64 x.to, .int .i64 x.tl, .int .i64 x.wo] 33)).alloc (.cells #[.string y.nm, .int .i64 y.fr, .int .i64 y.to, .int .i64 y.tl, .int .i64 y.wo] 33)).drew := ⟨_, rfl⟩
              have SP0 : SP w (wr.heap.size + 1) (wr.heap.size) y x Y := by
                rw [hY]
                exact SP.t ⟨HB9.out.tr (by go_grown), by go_cell, by go_cell, by go_cell, by go_cell, by go_cell, by go_cell, by go_cell, by go_cell, by go_cell, by go_cell, by (simp only [World.size_alloc]; omega), by (simp only [World.size_alloc]; omega)⟩ (bl_drN _)
              rw [← hY]
              obtain ⟨ba, hba⟩ : ∃ ba, ba = wr.heap.size + 1 := ⟨_, rfl⟩
              obtain ⟨bb, hbb⟩ : ∃ bb, bb = wr.heap.size := ⟨_, rfl⟩
              rw [← hba, ← hbb] at SP0 ⊢
              clear hY hba hbb c1 c2 x0 x1 x2 x3 x4 y0 y1 y2 y3 y4 S0 hbb2 e1 e2 e3 e4 e7
              obtain ⟨-, y0, y1, y2, y3, y4, x0, x1, x2, x3, x4, l1, l2⟩ := id SP0
              go_wp2_with fail
              go_region_held3 (fun W' => Bl w W' ∧ W'.cell? ⟨ba, 0, none⟩ = some (.string y.nm) ∧ W'.cell? ⟨ba, 1, none⟩ = some (.int .i64 y.fr) ∧ W'.cell? ⟨ba, 2, none⟩ = some (.int .i64 y.to) ∧ W'.cell? ⟨ba, 3, none⟩ = some (.int .i64 y.tl) ∧ W'.cell? ⟨ba, 4, none⟩ = some (.int .i64 y.wo) ∧ W'.cell? ⟨bb, 0, none⟩ = some (.string x.nm) ∧ W'.cell? ⟨bb, 1, none⟩ = some (.int .i64 x.fr) ∧ W'.cell? ⟨bb, 2, none⟩ = some (.int .i64 x.to) ∧ W'.cell? ⟨bb, 3, none⟩ = some (.int .i64 x.tl) ∧ W'.cell? ⟨bb, 4, none⟩ = some (.int .i64 x.wo) ∧ ba < W'.heap.size ∧ bb < W'.heap.size) (first | exact SP0 | exact SP.t SP0 (bl_drN _) | exact SP.t (by assumption) hh0) (first | (go_at_call 36; refine (HTU.out _).mono ?_; rintro e v0 ⟨rfl, hh0⟩; rw [HTT.out]))
              all_goals
                rename_i hHeld
                have hHB := hHeld.1
                clear hHeld
                go_wp2_with fail
                go_roundw
                case rel => exact ⟨k + 1, by omega, by omega, by go_num, by rw [HST.out, ← HZZ.out], hHB⟩
                case measure => simp [intOf]; omega
          · have HEND := Lib.hid (show idF L per T k = idF L per T m by
              rcases hk with h | h
              · have h9 : k = m := by omega
                rw [h9]
              · have h2 : m = 0 ∨ m = 1 := by omega
                rcases h2 with h3 | h3
                · rw [h, h3]; rfl
                · rw [h, h3])
            have HZZ := Lib.hid hZ
            rw [HEND.out]
            go_wp2_with fail
            refine bodyPost_ret (v := .tuple #[.int .i64 (idR L n per T m).1, .int .i64 (idR L n per T m).2]) ?_ rfl ⟨rfl, HZZ.out⟩
            rw [HR.out]
            simp [results, Try.results12, go_sem]
  · have hq : (er != 0) = true := by simp [h]
    have HR := Lib.hid (show idR L n per T m = (0, er) by rw [id_a (by rw [← her]; exact h), ← her])
    clear h her
    go_enter Try.func12, Try.ntmps12
    go_wp2_with fail
    refine (HK.out).mono ?_
    rintro e1 w1 ⟨rfl, hb⟩
    rw [← HER.out]
    have B1 := Lib.hid hb
    clear hb
    go_wp2_with fail
    refine bodyPost_ret (v := .tuple #[.int .i64 (idR L n per T m).1, .int .i64 (idR L n per T m).2]) ?_ rfl ⟨rfl, B1.out⟩
    rw [HR.out]
    simp [results, Try.results12, go_sem]
set_option maxRecDepth 100000 in
set_option maxHeartbeats 3200000 in
theorem ridleN_any (A : Option Addr) (n c : Nat) (L : Nat → Ch) (per : Int) (B : Option Addr) (m d : Nat) (T : Nat → Int) (w : World) (hA : Chl w A n L) (hS : ∀ j, j < n → (L j).nm.size ≤ maxLen) (hn : n ≤ c) (hc : c ≤ maxLen) (hB : Sl w B m T) (h4 : m ≤ 400) :
    Calls Try.prog 13 #[.slice A n c, .int .i64 per, .slice B m d] w fun e w' => e = .returned (.tuple #[.int .i64 (idR L n per T m).1, .int .i64 (idR L n per T m).2]) ∧ Bl w w' := by
  have HK := Lib.hid (asked8_any A n c L none 0 0 (fun _ => ⟨0, 0⟩) per w hA hS hn hc (fun h => absurd h (by omega)) (by decide))
  have HA := Lib.hid hA
  have HB := Lib.hid hB
  have HSZ := Lib.hid hS
  have HNC := Lib.hid hn
  have HCM := Lib.hid hc
  have HNM := Lib.hid (Nat.le_trans hn hc)
  have HM := Lib.hid (show m ≤ maxLen by unfold maxLen; omega)
  clear hA hS hB
  unfold maxLen at hc
  obtain ⟨er, her⟩ : ∃ er, er = chkN L n (fun _ => ⟨0, 0⟩) 0 per := ⟨_, rfl⟩
  have HER := Lib.hid her
  by_cases h : er = 0
  · have hch : chkN L n (fun _ => ⟨0, 0⟩) 0 per = 0 := by rw [← her]; exact h
    subst h
    obtain ⟨v1, _, v3⟩ := chk_okR her.symm
    have HV := Lib.hid (fun j (hj : j < n) => (ms_vc (vd_at v1 hj)).2)
    have HP := Lib.hid v3
    cases hx : ixNo n T m with
    | true =>
      have HIX := Lib.hid hx
      have HR := Lib.hid (id_b hch hx)
      clear hch v1 v3 her hx
      go_enter Try.func13, Try.ntmps13
      go_wp2_with fail
      refine (HK.out).mono ?_
      rintro e1 w1 ⟨rfl, hb⟩
      rw [← HER.out]
      have B1 := Lib.hid hb
      clear hb
      go_wp2_with fail
      refine (there_any A n c B m d T _ (HB.out.below B1.out) HM.out).mono ?_
      rintro e2 w2 ⟨rfl, rfl⟩
      rw [HIX.out]
      have B2 := B1
      go_wp2_with fail
      refine bodyPost_ret (v := .tuple #[.int .i64 (idR L n per T m).1, .int .i64 (idR L n per T m).2]) ?_ rfl ⟨rfl, B2.out⟩
      rw [HR.out]
      simp [results, Try.results13, go_sem]
    | false =>
      have HIX := Lib.hid hx
      have HXA := Lib.hid (fun j (hj : j < m) => ixNo_at hx hj)
      cases hd : anyTo (brkB L per T) m with
      | true =>
        have HRT := Lib.hid (show rtB L n (fun _ => ⟨0, 0⟩) 0 per T m = false by rw [id_rt hch hx, hd]; rfl)
        have HR := Lib.hid (id_c hch hx hd)
        clear hch v1 v3 her hx hd
        go_enter Try.func13, Try.ntmps13
        go_wp2_with fail
        refine (HK.out).mono ?_
        rintro e1 w1 ⟨rfl, hb⟩
        rw [← HER.out]
        have B1 := Lib.hid hb
        clear hb
        go_wp2_with fail
        refine (there_any A n c B m d T _ (HB.out.below B1.out) HM.out).mono ?_
        rintro e2 w2 ⟨rfl, rfl⟩
        rw [HIX.out]
        have B2 := B1
        go_wp2_with fail
        refine (rrightN_any A n c L none 0 0 (fun _ => ⟨0, 0⟩) per B m d T _ (HA.out.below B2.out) HSZ.out HNC.out HCM.out (fun h => absurd h (by omega)) (by decide) (HB.out.below B2.out) HM.out).mono ?_
        rintro e3 w3 ⟨rfl, hb⟩
        rw [HRT.out]
        have B3 := Lib.hid (B2.out.tr hb)
        clear hb
        go_wp2_with fail
        refine bodyPost_ret (v := .tuple #[.int .i64 (idR L n per T m).1, .int .i64 (idR L n per T m).2]) ?_ rfl ⟨rfl, B3.out⟩
        rw [HR.out]
        simp [results, Try.results13, go_sem]
      | false =>
        have HRT := Lib.hid (show rtB L n (fun _ => ⟨0, 0⟩) 0 per T m = true by rw [id_rt hch hx, hd]; rfl)
        have HR := Lib.hid (id_d hch hx hd)
        have HBD := Lib.hid (fun k (hk : k ≤ m) => idF_bd HV.out hx hd v3 hk)
        clear hch v1 v3 her hx hd
        go_enter Try.func13, Try.ntmps13
        go_wp2_with fail
        refine (HK.out).mono ?_
        rintro e1 w1 ⟨rfl, hb⟩
        rw [← HER.out]
        have B1 := Lib.hid hb
        clear hb
        go_wp2_with fail
        refine (there_any A n c B m d T _ (HB.out.below B1.out) HM.out).mono ?_
        rintro e2 w2 ⟨rfl, rfl⟩
        rw [HIX.out]
        have B2 := B1
        go_wp2_with fail
        refine (rrightN_any A n c L none 0 0 (fun _ => ⟨0, 0⟩) per B m d T _ (HA.out.below B2.out) HSZ.out HNC.out HCM.out (fun h => absurd h (by omega)) (by decide) (HB.out.below B2.out) HM.out).mono ?_
        rintro e3 w3 ⟨rfl, hb⟩
        rw [HRT.out]
        have B3 := Lib.hid (B2.out.tr hb)
        clear hb
        go_wp2_with fail
        go_loopw [9, 10] (fun s i wr => ∃ k : Nat, 1 ≤ k ∧ (k ≤ m ∨ k = 1) ∧ i = .int .i64 k ∧ s = .int .i64 (idF L per T k) ∧ Bl w wr) (fun _ i _ => m - (intOf i).toNat)
        case atStart => exact ⟨1, Nat.le_refl _, .inr rfl, rfl, rfl, B3.out⟩
        case round =>
          obtain ⟨k, hk1, hk, rfl, rfl, hZ⟩ := hrel
          by_cases hlt : k < m
          · obtain ⟨b, off, rfl, hbb, hcc⟩ := (HB.out.below hZ) (by omega)
            have c1 := hcc k hlt
            have c2 := hcc (k - 1) (by omega)
            have hx1 := HXA.out k hlt
            have hx2 := HXA.out (k - 1) (by omega)
            have HST := Lib.hid (idF_step (L := L) (per := per) (T := T) hk1)
            have b0 := HBD.out k (by omega)
            have b1 := HBD.out (k + 1) (by omega)
            obtain ⟨ib, hib⟩ : ∃ ib : Nat, (ib : Int) = T k := ⟨(T k).toNat, by omega⟩
            obtain ⟨ja, hja⟩ : ∃ ja : Nat, (ja : Int) = T (k - 1) := ⟨(T (k - 1)).toNat, by omega⟩
            have hib1 : ib < n := by omega
            have hja1 : ja < n := by omega
            rw [← hib] at c1
            rw [← hja] at c2
            rw [← hib, ← hja, Int.toNat_natCast, Int.toNat_natCast] at HST
            clear hib hja hx1 hx2 hcc
            obtain ⟨b2, off2, rfl, hbb2, hcd⟩ := (HA.out.below hZ) (by omega)
            obtain ⟨y0, y1, y2, y3, y4⟩ := hcd ja hja1
            obtain ⟨x0, x1, x2, x3, x4⟩ := hcd ib hib1
            have vx := vc_iff.1 (HV.out ib hib1)
            have vy := vc_iff.1 (HV.out ja hja1)
            clear hcd
            obtain ⟨x, hx⟩ : ∃ x, x = L ib := ⟨_, rfl⟩
            obtain ⟨y, hy⟩ : ∃ y, y = L ja := ⟨_, rfl⟩
            rw [← hx] at x0 x1 x2 x3 x4 vx HST
            rw [← hy] at y0 y1 y2 y3 y4 vy HST
            obtain ⟨-, f1, f2, f3, f4, f5, -, -⟩ := vx
            obtain ⟨-, g1, g2, g3, g4, g5, -, -⟩ := vy
            clear hx hy
            have e1 : IntKind.i64.wrap ((k : Int) - 1) = (k : Int) - 1 := IntWalk.i64_in _ (by omega)
            have e2 : wrap64 ((k : Int) - 1) = (k : Int) - 1 := IntWalk.wrap64_in _ (by omega)
            have e3 : (0 : Int) ≤ (k : Int) - 1 := by omega
            have e4 : (k : Int) - 1 < (m : Int) := by omega
            have e7 : (1 : Int) ≤ (k : Int) := by omega
            have jm : k - 1 < m := by omega
            have ht := trn_bd (a := y) (b := x) (per := per) ⟨g4, g5⟩ ⟨f4, f5⟩ HP.out
            have HTU := Lib.hid (fun (X : World) => rturnN_any y x per X ⟨g4, g5⟩ ⟨f4, f5⟩ HP.out)
            obtain ⟨t, hT⟩ : ∃ t, t = trn y x per := ⟨_, rfl⟩
            have HTT := Lib.hid hT.symm
            rw [← hT] at HST ht
            obtain ⟨s, hs⟩ : ∃ s, s = idF L per T k := ⟨_, rfl⟩
            rw [← hs] at HST b0 ⊢
            obtain ⟨U, hU⟩ : ∃ U, U = x.fr - y.to := ⟨_, rfl⟩
            obtain ⟨V, hV⟩ : ∃ V, V = U - t := ⟨_, rfl⟩
            obtain ⟨Z, hZ2⟩ : ∃ Z, Z = s + V := ⟨_, rfl⟩
            have HZZ := Lib.hid (show Z = s + (x.fr - y.to - t) by rw [hZ2, hV, hU])
            have w1 : IntKind.i64.wrap (x.fr - y.to) = U := by rw [IntWalk.i64_in _ (by omega)]; exact hU.symm
            have w2 : wrap64 (x.fr - y.to) = U := by rw [IntWalk.wrap64_in _ (by omega)]; exact hU.symm
            have w3 : IntKind.i64.wrap (U - t) = V := by rw [IntWalk.i64_in _ (by omega)]; exact hV.symm
            have w4 : wrap64 (U - t) = V := by rw [IntWalk.wrap64_in _ (by omega)]; exact hV.symm
            have w5 : IntKind.i64.wrap (s + V) = Z := by rw [IntWalk.i64_in _ (by omega)]; exact hZ2.symm
            have w6 : wrap64 (s + V) = Z := by rw [IntWalk.wrap64_in _ (by omega)]; exact hZ2.symm
            have HB9 := Lib.hid hZ
            clear hT hs hU hV hZ2 ht
            clear hZ f1 f2 f3 f4 f5 g1 g2 g3 g4 g5 b0 b1
            go_wp2_with fail
            have S0 : SJ w b (off + (k - 1)) (off + k) ja ib b2 (off2 + ja * 5) (off2 + ib * 5) y x wr := ⟨HB9.out, c2, c1, y0, y1, y2, y3, y4, x0, x1, x2, x3, x4, hbb, hbb2⟩
            go_region_held3 (fun W' => Bl w W' ∧ W'.cell? ⟨b, off + (k - 1), none⟩ = some (.int .i64 (ja : Int)) ∧ W'.cell? ⟨b, off + k, none⟩ = some (.int .i64 (ib : Int)) ∧ W'.cell? ⟨b2, off2 + ja * 5, none⟩ = some (.string y.nm) ∧ W'.cell? ⟨b2, off2 + ja * 5 + 1, none⟩ = some (.int .i64 y.fr) ∧ W'.cell? ⟨b2, off2 + ja * 5 + 2, none⟩ = some (.int .i64 y.to) ∧ W'.cell? ⟨b2, off2 + ja * 5 + 3, none⟩ = some (.int .i64 y.tl) ∧ W'.cell? ⟨b2, off2 + ja * 5 + 4, none⟩ = some (.int .i64 y.wo) ∧ W'.cell? ⟨b2, off2 + ib * 5, none⟩ = some (.string x.nm) ∧ W'.cell? ⟨b2, off2 + ib * 5 + 1, none⟩ = some (.int .i64 x.fr) ∧ W'.cell? ⟨b2, off2 + ib * 5 + 2, none⟩ = some (.int .i64 x.to) ∧ W'.cell? ⟨b2, off2 + ib * 5 + 3, none⟩ = some (.int .i64 x.tl) ∧ W'.cell? ⟨b2, off2 + ib * 5 + 4, none⟩ = some (.int .i64 x.wo) ∧ b < W'.heap.size ∧ b2 < W'.heap.size) (first | exact S0 | exact SJ.t S0 (bl_drN _) | exact SJ.t S0 (by go_grown)) (fail)
            · rename_i hHeld
              clear hHeld
              obtain ⟨Y, hY⟩ : ∃ Y, Y = ((wr.alloc (.cells #[.string y.nm, .int .i64 y.fr, .int .i64 y.to, .int .i64 y.tl, .int .i64 y.wo] 33)).alloc (.cells #[.string x.nm, .int .i64 x.fr, .int .i64 x.to, .int .i64 x.tl, .int .i64 x.wo] 33)).drew := ⟨_, rfl⟩
              have SP0 : SP w (wr.heap.size) (wr.heap.size + 1) y x Y := by
                rw [hY]
                exact SP.t ⟨HB9.out.tr (by go_grown), by go_cell, by go_cell, by go_cell, by go_cell, by go_cell, by go_cell, by go_cell, by go_cell, by go_cell, by go_cell, by (simp only [World.size_alloc]; omega), by (simp only [World.size_alloc]; omega)⟩ (bl_drN _)
              rw [← hY]
              obtain ⟨ba, hba⟩ : ∃ ba, ba = wr.heap.size := ⟨_, rfl⟩
              obtain ⟨bb, hbb⟩ : ∃ bb, bb = wr.heap.size + 1 := ⟨_, rfl⟩
              rw [← hbb, ← hba] at SP0 ⊢
              clear hY hba hbb c1 c2 x0 x1 x2 x3 x4 y0 y1 y2 y3 y4 S0 hbb2 e1 e2 e3 e4 e7
              obtain ⟨-, y0, y1, y2, y3, y4, x0, x1, x2, x3, x4, l1, l2⟩ := id SP0
              go_wp2_with fail
              go_region_held3 (fun W' => Bl w W' ∧ W'.cell? ⟨ba, 0, none⟩ = some (.string y.nm) ∧ W'.cell? ⟨ba, 1, none⟩ = some (.int .i64 y.fr) ∧ W'.cell? ⟨ba, 2, none⟩ = some (.int .i64 y.to) ∧ W'.cell? ⟨ba, 3, none⟩ = some (.int .i64 y.tl) ∧ W'.cell? ⟨ba, 4, none⟩ = some (.int .i64 y.wo) ∧ W'.cell? ⟨bb, 0, none⟩ = some (.string x.nm) ∧ W'.cell? ⟨bb, 1, none⟩ = some (.int .i64 x.fr) ∧ W'.cell? ⟨bb, 2, none⟩ = some (.int .i64 x.to) ∧ W'.cell? ⟨bb, 3, none⟩ = some (.int .i64 x.tl) ∧ W'.cell? ⟨bb, 4, none⟩ = some (.int .i64 x.wo) ∧ ba < W'.heap.size ∧ bb < W'.heap.size) (first | exact SP0 | exact SP.t SP0 (bl_drN _) | exact SP.t (by assumption) hh0) (first | (go_at_call 38; refine (HTU.out _).mono ?_; rintro e v0 ⟨rfl, hh0⟩; rw [HTT.out]))
              all_goals
                rename_i hHeld
                have hHB := hHeld.1
                clear hHeld
                go_wp2_with fail
                go_roundw
                case rel => exact ⟨k + 1, by omega, by omega, by go_num, by rw [HST.out, ← HZZ.out], hHB⟩
                case measure => simp [intOf]; omega
            · rename_i hHeld
              clear hHeld
              obtain ⟨Y, hY⟩ : ∃ Y, Y = ((wr.alloc (.cells #[.string x.nm, .int .i64 x.fr, .int .i64 x.to, .int .i64 x.tl, .int .i64 x.wo] 33)).alloc (.cells #[.string y.nm, .int .i64 y.fr, .int .i64 y.to, .int .i64 y.tl, .int .i64 y.wo] 33)).drew := ⟨_, rfl⟩
              have SP0 : SP w (wr.heap.size + 1) (wr.heap.size) y x Y := by
                rw [hY]
                exact SP.t ⟨HB9.out.tr (by go_grown), by go_cell, by go_cell, by go_cell, by go_cell, by go_cell, by go_cell, by go_cell, by go_cell, by go_cell, by go_cell, by (simp only [World.size_alloc]; omega), by (simp only [World.size_alloc]; omega)⟩ (bl_drN _)
              rw [← hY]
              obtain ⟨ba, hba⟩ : ∃ ba, ba = wr.heap.size + 1 := ⟨_, rfl⟩
              obtain ⟨bb, hbb⟩ : ∃ bb, bb = wr.heap.size := ⟨_, rfl⟩
              rw [← hba, ← hbb] at SP0 ⊢
              clear hY hba hbb c1 c2 x0 x1 x2 x3 x4 y0 y1 y2 y3 y4 S0 hbb2 e1 e2 e3 e4 e7
              obtain ⟨-, y0, y1, y2, y3, y4, x0, x1, x2, x3, x4, l1, l2⟩ := id SP0
              go_wp2_with fail
              go_region_held3 (fun W' => Bl w W' ∧ W'.cell? ⟨ba, 0, none⟩ = some (.string y.nm) ∧ W'.cell? ⟨ba, 1, none⟩ = some (.int .i64 y.fr) ∧ W'.cell? ⟨ba, 2, none⟩ = some (.int .i64 y.to) ∧ W'.cell? ⟨ba, 3, none⟩ = some (.int .i64 y.tl) ∧ W'.cell? ⟨ba, 4, none⟩ = some (.int .i64 y.wo) ∧ W'.cell? ⟨bb, 0, none⟩ = some (.string x.nm) ∧ W'.cell? ⟨bb, 1, none⟩ = some (.int .i64 x.fr) ∧ W'.cell? ⟨bb, 2, none⟩ = some (.int .i64 x.to) ∧ W'.cell? ⟨bb, 3, none⟩ = some (.int .i64 x.tl) ∧ W'.cell? ⟨bb, 4, none⟩ = some (.int .i64 x.wo) ∧ ba < W'.heap.size ∧ bb < W'.heap.size) (first | exact SP0 | exact SP.t SP0 (bl_drN _) | exact SP.t (by assumption) hh0) (first | (go_at_call 38; refine (HTU.out _).mono ?_; rintro e v0 ⟨rfl, hh0⟩; rw [HTT.out]))
              all_goals
                rename_i hHeld
                have hHB := hHeld.1
                clear hHeld
                go_wp2_with fail
                go_roundw
                case rel => exact ⟨k + 1, by omega, by omega, by go_num, by rw [HST.out, ← HZZ.out], hHB⟩
                case measure => simp [intOf]; omega
          · have HEND := Lib.hid (show idF L per T k = idF L per T m by
              rcases hk with h | h
              · have h9 : k = m := by omega
                rw [h9]
              · have h2 : m = 0 ∨ m = 1 := by omega
                rcases h2 with h3 | h3
                · rw [h, h3]; rfl
                · rw [h, h3])
            have HZZ := Lib.hid hZ
            rw [HEND.out]
            go_wp2_with fail
            refine bodyPost_ret (v := .tuple #[.int .i64 (idR L n per T m).1, .int .i64 (idR L n per T m).2]) ?_ rfl ⟨rfl, HZZ.out⟩
            rw [HR.out]
            simp [results, Try.results13, go_sem]
  · have hq : (er != 0) = true := by simp [h]
    have HR := Lib.hid (show idR L n per T m = (0, er) by rw [id_a (by rw [← her]; exact h), ← her])
    clear h her
    go_enter Try.func13, Try.ntmps13
    go_wp2_with fail
    refine (HK.out).mono ?_
    rintro e1 w1 ⟨rfl, hb⟩
    rw [← HER.out]
    have B1 := Lib.hid hb
    clear hb
    go_wp2_with fail
    refine bodyPost_ret (v := .tuple #[.int .i64 (idR L n per T m).1, .int .i64 (idR L n per T m).2]) ?_ rfl ⟨rfl, B1.out⟩
    rw [HR.out]
    simp [results, Try.results13, go_sem]
end Go.Proofs.Ytlidpojdaadecaa
