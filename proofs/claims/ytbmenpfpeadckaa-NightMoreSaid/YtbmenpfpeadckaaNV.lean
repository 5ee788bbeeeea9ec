/-
  Contracts of package night and of its reference: Right.
-/
import Derived.Test.YtbmenpfpeadckaaNU
namespace Go.Proofs.Ytbmenpfpeadckaa
open Go.RowKit
set_option linter.unusedSimpArgs false
set_option linter.unusedVariables false

theorem ix_iff {n : Nat} {i : Int} : ixB n i = true ↔ 0 ≤ i ∧ i < n := by simp [ixB]
theorem ixNo_at {n : Nat} {T : Nat → Int} {m : Nat} (h : ixNo n T m = false) {j : Nat} (hj : j < m) : 0 ≤ T j ∧ T j < n := by
  have := anyTo_no.1 h j hj
  exact ix_iff.1 (by simpa using this)
/-- Two neighbours of which the second does not follow the first. -/
def brkB (L : Nat → Ch) (per : Int) (T : Nat → Int) (j : Nat) : Bool := decide (1 ≤ j) && !flw (L (T (j - 1)).toNat) (L (T j).toNat) per
def nclrB (L : Nat → Ch) (S : Nat → Sp2) (ms : Nat) (T : Nat → Int) (j : Nat) : Bool := !clrB S ms (L (T j).toNat)
def badR (L : Nat → Ch) (n : Nat) (S : Nat → Sp2) (ms : Nat) (per : Int) (T : Nat → Int) (j : Nat) : Bool :=
  !ixB n (T j) || nclrB L S ms T j || (decide (1 ≤ j) && (decide (T j ≤ T (j - 1)) || !flw (L (T (j - 1)).toNat) (L (T j).toNat) per))
def rtB (L : Nat → Ch) (n : Nat) (S : Nat → Sp2) (ms : Nat) (per : Int) (T : Nat → Int) (m : Nat) : Bool :=
  decide (chkN L n S ms per = 0) && (!ixNo n T m && (!anyTo (nclrB L S ms T) m && !anyTo (brkB L per T) m))
theorem rt_bad {L : Nat → Ch} {n : Nat} {S : Nat → Sp2} {ms : Nat} {per : Int} {T : Nat → Int} {m : Nat} (hv : vdB L n = true) (hp : 0 ≤ per ∧ per ≤ 10000) :
    (!anyTo (badR L n S ms per T) m) = (!ixNo n T m && (!anyTo (nclrB L S ms T) m && !anyTo (brkB L per T) m)) := by
  rw [Bool.eq_iff_iff]
  simp only [Bool.and_eq_true, Bool.not_eq_true']
  constructor
  · intro h
    have h' := anyTo_no.1 h
    refine ⟨anyTo_no.2 fun k hk => ?_, anyTo_no.2 fun k hk => ?_, anyTo_no.2 fun k hk => ?_⟩
    all_goals
      have q := h' k hk
      unfold badR at q
      simp only [Bool.or_eq_false_iff] at q
    · exact q.1.1
    · exact q.1.2
    · unfold brkB
      have q2 := q.2
      cases h1 : decide (1 ≤ k) with
      | false => rfl
      | true =>
        rw [h1] at q2
        simp only [Bool.true_and, Bool.or_eq_false_iff] at q2 ⊢
        exact q2.2
  · rintro ⟨h1, h2, h3⟩
    refine anyTo_no.2 fun k hk => ?_
    have a1 := anyTo_no.1 h1 k hk
    have a2 := anyTo_no.1 h2 k hk
    have a3 := anyTo_no.1 h3 k hk
    unfold badR
    rw [a1, a2, Bool.false_or, Bool.false_or]
    unfold brkB at a3
    by_cases hk1 : 1 ≤ k
    · rw [decide_eq_true hk1, Bool.true_and] at a3 ⊢
      rw [a3, Bool.or_false]
      refine decide_eq_false fun hle => ?_
      obtain ⟨b1, b2⟩ := ixNo_at h1 hk
      obtain ⟨c1, c2⟩ := ixNo_at h1 (j := k - 1) (by omega)
      obtain ⟨x, hx⟩ : ∃ x : Nat, (x : Int) = T k := ⟨(T k).toNat, by omega⟩
      obtain ⟨y, hy⟩ : ∃ y : Nat, (y : Int) = T (k - 1) := ⟨(T (k - 1)).toNat, by omega⟩
      rw [← hx, ← hy] at a3
      have vx := vc_iff.1 (ms_vc (vd_at hv (show x < n by omega))).2
      have vy := vc_iff.1 (ms_vc (vd_at hv (show y < n by omega))).2
      have ht := trn_bd (a := L y) (b := L x) (per := per) ⟨vy.2.2.2.2.1, vy.2.2.2.2.2.1⟩ ⟨vx.2.2.2.2.1, vx.2.2.2.2.2.1⟩ hp
      have hf : (L y).to + trn (L y) (L x) per ≤ (L x).fr := by simpa [flw] using a3
      have hfr : (L x).fr ≤ (L y).fr := by
        by_cases e : x = y
        · rw [e]; exact Int.le_refl _
        · have hb := vd_chain hv (show x < y by omega) (show y < n by omega)
          unfold bfB at hb
          simp only [Bool.or_eq_true, Bool.and_eq_true, decide_eq_true_eq] at hb
          rcases hb with q | q
          · omega
          · omega
      have := vy.2.2.1
      omega
    · rw [decide_eq_false hk1, Bool.false_and]
def SJ (w : World) (b oj ok ja ib b2 oa ob : Nat) (y x : Ch) (W' : World) : Prop := Bl w W' ∧ W'.cell? ⟨b, oj, none⟩ = some (.int .i64 (ja : Int)) ∧ W'.cell? ⟨b, ok, none⟩ = some (.int .i64 (ib : Int)) ∧ W'.cell? ⟨b2, oa, none⟩ = some (.string y.nm) ∧ W'.cell? ⟨b2, oa + 1, none⟩ = some (.int .i64 y.fr) ∧ W'.cell? ⟨b2, oa + 2, none⟩ = some (.int .i64 y.to) ∧ W'.cell? ⟨b2, oa + 3, none⟩ = some (.int .i64 y.tl) ∧ W'.cell? ⟨b2, oa + 4, none⟩ = some (.int .i64 y.wo) ∧ W'.cell? ⟨b2, ob, none⟩ = some (.string x.nm) ∧ W'.cell? ⟨b2, ob + 1, none⟩ = some (.int .i64 x.fr) ∧ W'.cell? ⟨b2, ob + 2, none⟩ = some (.int .i64 x.to) ∧ W'.cell? ⟨b2, ob + 3, none⟩ = some (.int .i64 x.tl) ∧ W'.cell? ⟨b2, ob + 4, none⟩ = some (.int .i64 x.wo) ∧ b < W'.heap.size ∧ b2 < W'.heap.size
theorem SJ.t {w : World} {b oj ok ja ib b2 oa ob : Nat} {y x : Ch} {W W' : World} (h : SJ w b oj ok ja ib b2 oa ob y x W) (hb : Bl W W') : SJ w b oj ok ja ib b2 oa ob y x W' := by
  obtain ⟨h0, u1, u2, a0, a1, a2, a3, a4, c0, c1, c2, c3, c4, l1, l2⟩ := h
  exact ⟨h0.tr hb, kcb hb u1, kcb hb u2, kcb hb a0, kcb hb a1, kcb hb a2, kcb hb a3, kcb hb a4, kcb hb c0, kcb hb c1, kcb hb c2, kcb hb c3, kcb hb c4, Nat.lt_of_lt_of_le l1 hb.size, Nat.lt_of_lt_of_le l2 hb.size⟩
set_option maxRecDepth 100000 in
set_option maxHeartbeats 3200000 in
theorem isRight_any (A : Option Addr) (n c : Nat) (L : Nat → Ch) (per : Int) (B : Option Addr) (m d : Nat) (T : Nat → Int) (w : World) (hA : Chl w A n L) (hn : n ≤ maxLen) (hv : ∀ j, j < n → vcB (L j) = true) (hp : 0 ≤ per ∧ per ≤ 10000) (hB : Sl w B m T) (hm : m ≤ maxLen) (hx : ∀ j, j < m → 0 ≤ T j ∧ T j < n) :
    Calls Try.prog 45 #[.slice A n c, .int .i64 per, .slice B m d] w fun e w' => e = .returned (.bool (!anyTo (brkB L per T) m)) ∧ Bl w w' := by
  have HA := Lib.hid hA
  have HB := Lib.hid hB
  have HV := Lib.hid hv
  have HP := Lib.hid hp
  have HX := Lib.hid hx
  clear hA hB hv hp hx
  unfold maxLen at hm hn
  go_enter Try.func45, Try.ntmps45
  go_wp2_with fail
  go_loopw [7] (fun i wr => ∃ k : Nat, 1 ≤ k ∧ (k ≤ m ∨ k = 1) ∧ i = .int .i64 k ∧ Hid (anyTo (brkB L per T) k = false) ∧ Bl w wr) (fun i _ => m - (intOf i).toNat)
  case atStart => exact ⟨1, Nat.le_refl _, .inr rfl, rfl, anyTo_one rfl, Bl.rf _⟩
  case round =>
    obtain ⟨k, hk1, hk, rfl, HO, hZ⟩ := hrel
    by_cases hlt : k < m
    · obtain ⟨b, off, rfl, hbb, hc⟩ := (HB.out.below hZ) (by omega)
      obtain ⟨j, hj⟩ : ∃ j, j = k - 1 := ⟨_, rfl⟩
      have c1 := hc k hlt
      have c2 := hc j (by omega)
      have e1 : IntKind.i64.wrap ((k : Int) - 1) = (k : Int) - 1 := IntWalk.i64_in _ (by omega)
      have e2 : wrap64 ((k : Int) - 1) = (k : Int) - 1 := IntWalk.wrap64_in _ (by omega)
      have e3 : (0 : Int) ≤ (k : Int) - 1 := by omega
      have e4 : (k : Int) - 1 < (m : Int) := by omega
      have e5 : ((k : Int) - 1).toNat = j := by omega
      have e6 : (1 : Int) ≤ (k : Int) := by omega
      have e7 : (k : Int) ≤ (m : Int) := by omega
      have e8 : k - 1 = j := by omega
      have e9 : 0 < k := by omega
      have jm : j < m := by omega
      have hx1 := HX.out k hlt
      have hx2 := HX.out j jm
      have HD := Lib.hid (show brkB L per T k = !flw (L (T j).toNat) (L (T k).toNat) per by rw [brkB, decide_eq_true hk1, Bool.true_and, hj])
      have HAT := Lib.hid (fun (q : brkB L per T k = true) => anyTo_at (P := brkB L per T) hlt q)
      clear hc hj
      obtain ⟨ib, hib⟩ : ∃ ib : Nat, (ib : Int) = T k := ⟨(T k).toNat, by omega⟩
      obtain ⟨ja, hja⟩ : ∃ ja : Nat, (ja : Int) = T j := ⟨(T j).toNat, by omega⟩
      have hib1 : ib < n := by omega
      have hja1 : ja < n := by omega
      rw [← hib] at c1
      rw [← hja] at c2
      rw [← hib, ← hja, Int.toNat_natCast, Int.toNat_natCast] at HD
      clear hib hja hx1 hx2
      obtain ⟨b2, off2, rfl, hbb2, hcc⟩ := (HA.out.below hZ) (by omega)
      obtain ⟨y0, y1, y2, y3, y4⟩ := hcc ja hja1
      obtain ⟨x0, x1, x2, x3, x4⟩ := hcc ib hib1
      have hvx := HV.out ib hib1
      have hvy := HV.out ja hja1
      clear hcc
      obtain ⟨x, hx⟩ : ∃ x, x = L ib := ⟨_, rfl⟩
      obtain ⟨y, hy⟩ : ∃ y, y = L ja := ⟨_, rfl⟩
      rw [← hx] at x0 x1 x2 x3 x4 hvx HD
      rw [← hy] at y0 y1 y2 y3 y4 hvy HD
      have HVX := Lib.hid hvx
      have HVY := Lib.hid hvy
      clear hx hy hvx hvy
      have S0 : SJ w b (off + j) (off + k) ja ib b2 (off2 + ja * 5) (off2 + ib * 5) y x wr := ⟨hZ, c2, c1, y0, y1, y2, y3, y4, x0, x1, x2, x3, x4, hbb, hbb2⟩
      have HYE := Lib.hid (fun (q : brkB L per T k = false) => (show anyTo (brkB L per T) (k + 1) = false by rw [anyTo, HO.out, Bool.false_or]; exact q))
      clear hZ
      cases q : flw y x per with
      | false =>
        have HQ := Lib.hid q
        have HN := Lib.hid (HAT.out (by rw [HD.out, q]; rfl))
        clear q
        go_wp2_with fail
        go_region_held3 (fun W' => Bl w W' ∧ W'.cell? ⟨b, off + j, none⟩ = some (.int .i64 (ja : Int)) ∧ W'.cell? ⟨b, off + k, none⟩ = some (.int .i64 (ib : Int)) ∧ W'.cell? ⟨b2, off2 + ja * 5, none⟩ = some (.string y.nm) ∧ W'.cell? ⟨b2, off2 + ja * 5 + 1, none⟩ = some (.int .i64 y.fr) ∧ W'.cell? ⟨b2, off2 + ja * 5 + 2, none⟩ = some (.int .i64 y.to) ∧ W'.cell? ⟨b2, off2 + ja * 5 + 3, none⟩ = some (.int .i64 y.tl) ∧ W'.cell? ⟨b2, off2 + ja * 5 + 4, none⟩ = some (.int .i64 y.wo) ∧ W'.cell? ⟨b2, off2 + ib * 5, none⟩ = some (.string x.nm) ∧ W'.cell? ⟨b2, off2 + ib * 5 + 1, none⟩ = some (.int .i64 x.fr) ∧ W'.cell? ⟨b2, off2 + ib * 5 + 2, none⟩ = some (.int .i64 x.to) ∧ W'.cell? ⟨b2, off2 + ib * 5 + 3, none⟩ = some (.int .i64 x.tl) ∧ W'.cell? ⟨b2, off2 + ib * 5 + 4, none⟩ = some (.int .i64 x.wo) ∧ b < W'.heap.size ∧ b2 < W'.heap.size) (first | exact SJ.t S0 (bl_drN _) | exact SJ.t (by assumption) hh0) (first | (go_at_call 52; refine (followsN_any y x per _ HVY.out HVX.out HP.out).mono ?_; rintro e v0 ⟨rfl, hh0⟩; rw [HQ.out]))
        all_goals
          rename_i hHeld
          have hHB := hHeld.1
          clear hHeld
          go_wp2_with fail
          go_ret
          exact ⟨ret_boolN (by rw [HN.out]; rfl), hHB⟩
      | true =>
        have HQ := Lib.hid q
        have HN := Lib.hid (HYE.out (by rw [HD.out, q]; rfl))
        clear q
        go_wp2_with fail
        go_region_held3 (fun W' => Bl w W' ∧ W'.cell? ⟨b, off + j, none⟩ = some (.int .i64 (ja : Int)) ∧ W'.cell? ⟨b, off + k, none⟩ = some (.int .i64 (ib : Int)) ∧ W'.cell? ⟨b2, off2 + ja * 5, none⟩ = some (.string y.nm) ∧ W'.cell? ⟨b2, off2 + ja * 5 + 1, none⟩ = some (.int .i64 y.fr) ∧ W'.cell? ⟨b2, off2 + ja * 5 + 2, none⟩ = some (.int .i64 y.to) ∧ W'.cell? ⟨b2, off2 + ja * 5 + 3, none⟩ = some (.int .i64 y.tl) ∧ W'.cell? ⟨b2, off2 + ja * 5 + 4, none⟩ = some (.int .i64 y.wo) ∧ W'.cell? ⟨b2, off2 + ib * 5, none⟩ = some (.string x.nm) ∧ W'.cell? ⟨b2, off2 + ib * 5 + 1, none⟩ = some (.int .i64 x.fr) ∧ W'.cell? ⟨b2, off2 + ib * 5 + 2, none⟩ = some (.int .i64 x.to) ∧ W'.cell? ⟨b2, off2 + ib * 5 + 3, none⟩ = some (.int .i64 x.tl) ∧ W'.cell? ⟨b2, off2 + ib * 5 + 4, none⟩ = some (.int .i64 x.wo) ∧ b < W'.heap.size ∧ b2 < W'.heap.size) (first | exact SJ.t S0 (bl_drN _) | exact SJ.t (by assumption) hh0) (first | (go_at_call 52; refine (followsN_any y x per _ HVY.out HVX.out HP.out).mono ?_; rintro e v0 ⟨rfl, hh0⟩; rw [HQ.out]))
        all_goals
          rename_i hHeld
          have hHB := hHeld.1
          clear hHeld
          go_wp2_with fail
          go_roundw
          case rel => exact ⟨k + 1, by omega, by omega, by go_num, HN.out, hHB⟩
          case measure => simp [intOf]; omega
    · have HR := Lib.hid (show anyTo (brkB L per T) m = false by
        rcases hk with h | h
        · obtain rfl : k = m := by omega
          exact HO.out
        · have h2 : m = 0 ∨ m = 1 := by omega
          rcases h2 with rfl | rfl
          · rfl
          · exact anyTo_one rfl)
      go_wp2_with fail
      go_ret
      exact ⟨ret_boolN (by rw [HR.out]; rfl), hZ⟩
set_option maxRecDepth 100000 in
set_option maxHeartbeats 3200000 in
theorem rightN_any (A : Option Addr) (n c : Nat) (L : Nat → Ch) (C : Option Addr) (ms e0 : Nat) (S : Nat → Sp2) (per : Int) (B : Option Addr) (m d : Nat) (T : Nat → Int) (w : World) (hA : Chl w A n L) (hS : ∀ j, j < n → (L j).nm.size ≤ maxLen) (hn : n ≤ c) (hc : c ≤ maxLen) (hC : Spl w C ms S) (hms : ms ≤ maxLen) (hB : Sl w B m T) (hm : m ≤ maxLen) :
    Calls Try.prog 17 #[.slice A n c, .slice C ms e0, .int .i64 per, .slice B m d] w fun e w' => e = .returned (.bool (rtB L n S ms per T m)) ∧ Bl w w' := by
  have HK := Lib.hid (checkN_any A n c L C ms e0 S per w hA hS hn hc hC hms)
  have HIX := Lib.hid (fun (X : World) (hb : Bl w X) => areIndexes_any A n c B m d T X (hB.below hb) hm)
  have HCL := Lib.hid (fun (x : Ch) (X : World) (hb : Bl w X) => isClear_any x C ms e0 S X (hC.below hb) hms)
  have HA := Lib.hid hA
  have HB := Lib.hid hB
  have HM := Lib.hid hm
  clear hA hB hC hS
  unfold maxLen at hm hc
  obtain ⟨er, her⟩ : ∃ er, er = chkN L n S ms per := ⟨_, rfl⟩
  have HER := Lib.hid her
  by_cases h : er = 0
  · have HRT := Lib.hid (show rtB L n S ms per T m = (!ixNo n T m && (!anyTo (nclrB L S ms T) m && !anyTo (brkB L per T) m)) by rw [rtB, ← her, h]; rfl)
    subst h
    obtain ⟨v1, _, v3⟩ := chk_okR her.symm
    have HV := Lib.hid (fun j (hj : j < n) => (ms_vc (vd_at v1 hj)).2)
    have HP := Lib.hid v3
    clear v1 v3 her
    cases q : ixNo n T m with
    | true =>
      have HQ := Lib.hid q
      have HR := Lib.hid (show rtB L n S ms per T m = false by rw [HRT.out, q]; rfl)
      clear q
      go_enter Try.func17, Try.ntmps17
      go_wp2_with fail
      refine (HK.out).mono ?_
      rintro e1 w1 ⟨rfl, hb⟩
      rw [← HER.out]
      go_wp2_with fail
      refine (HIX.out _ hb).mono ?_
      rintro e2 w2 ⟨rfl, hb2⟩
      have B2 := Lib.hid (hb.tr hb2)
      clear hb hb2
      rw [HQ.out]
      go_wp2_with fail
      go_ret
      exact ⟨ret_boolN HR.out.symm, B2.out⟩
    | false =>
      have HQ := Lib.hid q
      have HXA := Lib.hid (fun j (hj : j < m) => ixNo_at q hj)
      have HRT2 := Lib.hid (show rtB L n S ms per T m = (!anyTo (nclrB L S ms T) m && !anyTo (brkB L per T) m) by rw [HRT.out, q]; rfl)
      clear q
      go_enter Try.func17, Try.ntmps17
      go_wp2_with fail
      refine (HK.out).mono ?_
      rintro e1 w1 ⟨rfl, hb⟩
      rw [← HER.out]
      go_wp2_with fail
      refine (HIX.out _ hb).mono ?_
      rintro e2 w2 ⟨rfl, hb2⟩
      have B2 := Lib.hid (hb.tr hb2)
      clear hb hb2
      rw [HQ.out]
      go_wp2_with fail
      go_loopw [24] (fun i wr => ∃ k : Nat, k ≤ m ∧ i = .int .i64 k ∧ Hid (anyTo (nclrB L S ms T) k = false) ∧ Bl w wr) (fun i _ => m - (intOf i).toNat)
      case atStart => exact ⟨0, Nat.zero_le _, rfl, rfl, B2.out⟩
      case round =>
        obtain ⟨k, hk, rfl, HO, hZ⟩ := hrel
        by_cases hlt : k < m
        · obtain ⟨b, off, rfl, hbb, hcc⟩ := (HB.out.below hZ) (by omega)
          have c1 := hcc k hlt
          have hx1 := HXA.out k hlt
          have HAT := Lib.hid (fun (q : nclrB L S ms T k = true) => anyTo_at (P := nclrB L S ms T) hlt q)
          have HYE := Lib.hid (fun (q : nclrB L S ms T k = false) => (show anyTo (nclrB L S ms T) (k + 1) = false by rw [anyTo, HO.out, Bool.false_or]; exact q))
          have HD := Lib.hid (show nclrB L S ms T k = !clrB S ms (L (T k).toNat) from rfl)
          clear hcc
          obtain ⟨ib, hib⟩ : ∃ ib : Nat, (ib : Int) = T k := ⟨(T k).toNat, by omega⟩
          have hib1 : ib < n := by omega
          rw [← hib] at c1
          rw [← hib, Int.toNat_natCast] at HD
          clear hib hx1
          obtain ⟨b2, off2, rfl, hbb2, hcc⟩ := (HA.out.below hZ) (by omega)
          obtain ⟨x0, x1, x2, x3, x4⟩ := hcc ib hib1
          clear hcc
          obtain ⟨x, hx⟩ : ∃ x, x = L ib := ⟨_, rfl⟩
          rw [← hx] at x0 x1 x2 x3 x4 HD
          clear hx
          have HZ := Lib.hid hZ
          cases q : clrB S ms x with
          | false =>
            have HQ2 := Lib.hid q
            have HN := Lib.hid (HAT.out (by rw [HD.out, q]; rfl))
            clear q
            go_wp2_with fail
            refine (HCL.out x _ HZ.out).mono ?_
            rintro e3 w3 ⟨rfl, hb3⟩
            have B3 := Lib.hid (HZ.out.tr hb3)
            clear hb3
            rw [HQ2.out]
            go_wp2_with fail
            go_ret
            exact ⟨ret_boolN (by rw [HRT2.out, HN.out]; rfl), B3.out⟩
          | true =>
            have HQ2 := Lib.hid q
            have HN := Lib.hid (HYE.out (by rw [HD.out, q]; rfl))
            clear q
            go_wp2_with fail
            refine (HCL.out x _ HZ.out).mono ?_
            rintro e3 w3 ⟨rfl, hb3⟩
            have B3 := Lib.hid (HZ.out.tr hb3)
            clear hb3
            rw [HQ2.out]
            go_wp2_with fail
            go_roundw
            case rel => exact ⟨k + 1, by omega, by go_num, HN.out, B3.out⟩
            case measure => simp [intOf]; omega
        · obtain rfl : k = m := by omega
          have HZ := Lib.hid hZ
          have HR := Lib.hid (show rtB L n S ms per T k = !anyTo (brkB L per T) k by rw [HRT2.out, HO.out]; rfl)
          go_wp2_with fail
          refine (isRight_any A n c L per B k d T _ (HA.out.below HZ.out) (by unfold maxLen; omega) HV.out HP.out (HB.out.below HZ.out) HM.out HXA.out).mono ?_
          rintro e3 w3 ⟨rfl, hb3⟩
          have B3 := Lib.hid (HZ.out.tr hb3)
          clear hb3
          go_wp2_with fail
          go_ret
          exact ⟨ret_boolN HR.out.symm, B3.out⟩
  · have hq : (er != 0) = true := by simp [h]
    have HR := Lib.hid (show rtB L n S ms per T m = false by rw [rtB, ← her, decide_eq_false h]; rfl)
    clear h her
    go_enter Try.func17, Try.ntmps17
    go_wp2_with fail
    refine (HK.out).mono ?_
    rintro e1 w1 ⟨rfl, hb⟩
    rw [← HER.out]
    have B1 := Lib.hid hb
    clear hb
    go_wp2_with fail
    go_ret
    exact ⟨ret_boolN HR.out.symm, B1.out⟩
end Go.Proofs.Ytbmenpfpeadckaa
