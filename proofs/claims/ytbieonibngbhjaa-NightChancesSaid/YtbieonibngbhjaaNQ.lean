/-
  Contracts of package night and of its reference: Follows, Clear.
-/
import Derived.Test.YtbieonibngbhjaaNP
namespace Go.Proofs.Ytbieonibngbhjaa
open Go.RowKit
set_option linter.unusedSimpArgs false
set_option linter.unusedVariables false

/-- What Follows returns. -/
def foR (a b : Ch) (per : Int) : Bool × Int := if (tuR a b per).2 = 0 then (flw a b per, 0) else (false, (tuR a b per).2)
theorem foR_no {a b : Ch} {per : Int} (h : ¬ (tuR a b per).2 = 0) : foR a b per = (false, (tuR a b per).2) := if_neg h
theorem foR_ok {a b : Ch} {per : Int} (h : (tuR a b per).2 = 0) : foR a b per = (flw a b per, 0) := if_pos h
theorem tu_zero {a b : Ch} {per : Int} (h : (tuR a b per).2 = 0) : vcB a = true ∧ vcB b = true ∧ (0 ≤ per ∧ per ≤ 10000) ∧ (tuR a b per).1 = trn a b per := by
  unfold tuR at h ⊢
  split at h
  · rename_i h1
    split at h
    · rename_i h2
      simp only [Bool.and_eq_true] at h1
      exact ⟨h1.1, h1.2, inB_iff.1 h2, by rw [if_pos (by simp [h1]), if_pos h2]⟩
    · simp at h
  · simp at h
set_option maxRecDepth 100000 in
set_option maxHeartbeats 3200000 in
theorem followsT_any (a b : Ch) (per : Int) (w : World) (ha : a.nm.size ≤ maxLen) (hb : b.nm.size ≤ maxLen) : Calls Try.prog 13 #[encC a, encC b, .int .i64 per] w fun e w' => e = .returned (.tuple #[.bool (foR a b per).1, .int .i64 (foR a b per).2]) ∧ Bl w w' := by
  have HSA := Lib.hid ha
  have HSB := Lib.hid hb
  clear ha hb
  obtain ⟨t, ht⟩ : ∃ t, (tuR a b per).1 = t := ⟨_, rfl⟩
  obtain ⟨er, her⟩ : ∃ er, (tuR a b per).2 = er := ⟨_, rfl⟩
  have HT1 := Lib.hid ht
  have HT2 := Lib.hid her
  by_cases h : er = 0
  · subst h
    obtain ⟨va, vb, vp, vt⟩ := tu_zero her
    have HR := Lib.hid (foR_ok her)
    have HVT := Lib.hid (show trn a b per = t by rw [← vt, ht])
    have tb := trn_bd (per := per) ⟨(vc_iff.1 va).2.2.2.2.1, (vc_iff.1 va).2.2.2.2.2.1⟩ ⟨(vc_iff.1 vb).2.2.2.2.1, (vc_iff.1 vb).2.2.2.2.2.1⟩ vp
    rw [HVT.out] at tb
    obtain ⟨tb1, tb2⟩ := tb
    have h1 : 0 < a.to := by have := vc_iff.1 va; omega
    have h2 : a.to ≤ 86400000 := (vc_iff.1 va).2.2.2.1
    have w1' : IntKind.i64.wrap (a.to + t) = a.to + t := IntWalk.i64_in _ (by omega)
    have w2' : wrap64 (a.to + t) = a.to + t := IntWalk.wrap64_in _ (by omega)
    have HFW := Lib.hid (show flw a b per = decide (a.to + t ≤ b.fr) by rw [flw, HVT.out])
    have HFO := Lib.hid (fun (X : World) => followsN_any a b per X va vb vp)
    clear va vb vp vt ht her
    go_enter Try.func13, Try.ntmps13
    go_wp2_with fail
    refine (turnTN_any a b per _ HSA.out HSB.out).mono ?_
    rintro q1 w1 ⟨rfl, hb⟩
    have a0 := kcb hb (b := w.heap.size) (o := 0) (v := .string a.nm) (by first | assumption | go_cell)
    have a1 := kcb hb (b := w.heap.size) (o := 1) (v := .int .i64 a.fr) (by first | assumption | go_cell)
    have a2 := kcb hb (b := w.heap.size) (o := 2) (v := .int .i64 a.to) (by first | assumption | go_cell)
    have a3 := kcb hb (b := w.heap.size) (o := 3) (v := .int .i64 a.tl) (by first | assumption | go_cell)
    have a4 := kcb hb (b := w.heap.size) (o := 4) (v := .int .i64 a.wo) (by first | assumption | go_cell)
    have b0 := kcb hb (b := w.heap.size + 1) (o := 0) (v := .string b.nm) (by first | assumption | go_cell)
    have b1 := kcb hb (b := w.heap.size + 1) (o := 1) (v := .int .i64 b.fr) (by first | assumption | go_cell)
    have b2 := kcb hb (b := w.heap.size + 1) (o := 2) (v := .int .i64 b.to) (by first | assumption | go_cell)
    have b3 := kcb hb (b := w.heap.size + 1) (o := 3) (v := .int .i64 b.tl) (by first | assumption | go_cell)
    have b4 := kcb hb (b := w.heap.size + 1) (o := 4) (v := .int .i64 b.wo) (by first | assumption | go_cell)
    have B1 : Bl w w1 := Bl.tr (by go_grown) hb
    have l1 := ltb b0
    clear hb
    rw [HT1.out, HT2.out]
    go_wp2_with fail
    refine (HFO.out _).mono ?_
    rintro q2 w2 ⟨rfl, hb⟩
    have B2 : Bl w w2 := B1.tr hb
    clear hb
    go_wp2_with fail
    refine bodyPost_ret (v := .tuple #[.bool (foR a b per).1, .int .i64 (foR a b per).2]) ?_ rfl ⟨rfl, B2⟩
    rw [HR.out]
    simp [results, Try.results13, go_sem]
  · have HR := Lib.hid (foR_no (a := a) (b := b) (per := per) (by rw [her]; exact h))
    have hq : (er != 0) = true := by simp [h]
    have hq' : (er == 0) = false := by simp [h]
    clear ht her
    go_enter Try.func13, Try.ntmps13
    go_wp2_with fail
    refine (turnTN_any a b per _ HSA.out HSB.out).mono ?_
    rintro q1 w1 ⟨rfl, hb⟩
    have a0 := kcb hb (b := w.heap.size) (o := 0) (v := .string a.nm) (by first | assumption | go_cell)
    have a1 := kcb hb (b := w.heap.size) (o := 1) (v := .int .i64 a.fr) (by first | assumption | go_cell)
    have a2 := kcb hb (b := w.heap.size) (o := 2) (v := .int .i64 a.to) (by first | assumption | go_cell)
    have a3 := kcb hb (b := w.heap.size) (o := 3) (v := .int .i64 a.tl) (by first | assumption | go_cell)
    have a4 := kcb hb (b := w.heap.size) (o := 4) (v := .int .i64 a.wo) (by first | assumption | go_cell)
    have b0 := kcb hb (b := w.heap.size + 1) (o := 0) (v := .string b.nm) (by first | assumption | go_cell)
    have b1 := kcb hb (b := w.heap.size + 1) (o := 1) (v := .int .i64 b.fr) (by first | assumption | go_cell)
    have b2 := kcb hb (b := w.heap.size + 1) (o := 2) (v := .int .i64 b.to) (by first | assumption | go_cell)
    have b3 := kcb hb (b := w.heap.size + 1) (o := 3) (v := .int .i64 b.tl) (by first | assumption | go_cell)
    have b4 := kcb hb (b := w.heap.size + 1) (o := 4) (v := .int .i64 b.wo) (by first | assumption | go_cell)
    have B1 : Bl w w1 := Bl.tr (by go_grown) hb
    have l1 := ltb b0
    clear hb
    rw [HT1.out, HT2.out]
    go_wp2_with fail
    refine bodyPost_ret (v := .tuple #[.bool (foR a b per).1, .int .i64 (foR a b per).2]) ?_ rfl ⟨rfl, B1⟩
    rw [HR.out, HT2.out]
    simp [results, Try.results13, go_sem]
set_option maxRecDepth 100000 in
set_option maxHeartbeats 3200000 in
theorem rfollowsT_any (a b : Ch) (per : Int) (w : World) (ha : a.nm.size ≤ maxLen) (hb : b.nm.size ≤ maxLen) : Calls Try.prog 14 #[encC a, encC b, .int .i64 per] w fun e w' => e = .returned (.tuple #[.bool (foR a b per).1, .int .i64 (foR a b per).2]) ∧ Bl w w' := by
  have HSA := Lib.hid ha
  have HSB := Lib.hid hb
  clear ha hb
  obtain ⟨t, ht⟩ : ∃ t, (tuR a b per).1 = t := ⟨_, rfl⟩
  obtain ⟨er, her⟩ : ∃ er, (tuR a b per).2 = er := ⟨_, rfl⟩
  have HT1 := Lib.hid ht
  have HT2 := Lib.hid her
  by_cases h : er = 0
  · subst h
    obtain ⟨va, vb, vp, vt⟩ := tu_zero her
    have HR := Lib.hid (foR_ok her)
    have HVT := Lib.hid (show trn a b per = t by rw [← vt, ht])
    have tb := trn_bd (per := per) ⟨(vc_iff.1 va).2.2.2.2.1, (vc_iff.1 va).2.2.2.2.2.1⟩ ⟨(vc_iff.1 vb).2.2.2.2.1, (vc_iff.1 vb).2.2.2.2.2.1⟩ vp
    rw [HVT.out] at tb
    obtain ⟨tb1, tb2⟩ := tb
    have h1 : 0 < a.to := by have := vc_iff.1 va; omega
    have h2 : a.to ≤ 86400000 := (vc_iff.1 va).2.2.2.1
    have w1' : IntKind.i64.wrap (a.to + t) = a.to + t := IntWalk.i64_in _ (by omega)
    have w2' : wrap64 (a.to + t) = a.to + t := IntWalk.wrap64_in _ (by omega)
    have HFW := Lib.hid (show flw a b per = decide (a.to + t ≤ b.fr) by rw [flw, HVT.out])
    have HFO := Lib.hid (fun (X : World) => followsN_any a b per X va vb vp)
    clear va vb vp vt ht her
    go_enter Try.func14, Try.ntmps14
    go_wp2_with fail
    refine (rturnTN_any a b per _ HSA.out HSB.out).mono ?_
    rintro q1 w1 ⟨rfl, hb⟩
    have a0 := kcb hb (b := w.heap.size) (o := 0) (v := .string a.nm) (by first | assumption | go_cell)
    have a1 := kcb hb (b := w.heap.size) (o := 1) (v := .int .i64 a.fr) (by first | assumption | go_cell)
    have a2 := kcb hb (b := w.heap.size) (o := 2) (v := .int .i64 a.to) (by first | assumption | go_cell)
    have a3 := kcb hb (b := w.heap.size) (o := 3) (v := .int .i64 a.tl) (by first | assumption | go_cell)
    have a4 := kcb hb (b := w.heap.size) (o := 4) (v := .int .i64 a.wo) (by first | assumption | go_cell)
    have b0 := kcb hb (b := w.heap.size + 1) (o := 0) (v := .string b.nm) (by first | assumption | go_cell)
    have b1 := kcb hb (b := w.heap.size + 1) (o := 1) (v := .int .i64 b.fr) (by first | assumption | go_cell)
    have b2 := kcb hb (b := w.heap.size + 1) (o := 2) (v := .int .i64 b.to) (by first | assumption | go_cell)
    have b3 := kcb hb (b := w.heap.size + 1) (o := 3) (v := .int .i64 b.tl) (by first | assumption | go_cell)
    have b4 := kcb hb (b := w.heap.size + 1) (o := 4) (v := .int .i64 b.wo) (by first | assumption | go_cell)
    have B1 : Bl w w1 := Bl.tr (by go_grown) hb
    have l1 := ltb b0
    clear hb
    rw [HT1.out, HT2.out]
    go_wp2_with fail
    refine bodyPost_ret (v := .tuple #[.bool (foR a b per).1, .int .i64 (foR a b per).2]) ?_ rfl ⟨rfl, B1⟩
    rw [HR.out, HFW.out]
    simp [results, Try.results14, go_sem]
  · have HR := Lib.hid (foR_no (a := a) (b := b) (per := per) (by rw [her]; exact h))
    have hq : (er != 0) = true := by simp [h]
    have hq' : (er == 0) = false := by simp [h]
    clear ht her
    go_enter Try.func14, Try.ntmps14
    go_wp2_with fail
    refine (rturnTN_any a b per _ HSA.out HSB.out).mono ?_
    rintro q1 w1 ⟨rfl, hb⟩
    have a0 := kcb hb (b := w.heap.size) (o := 0) (v := .string a.nm) (by first | assumption | go_cell)
    have a1 := kcb hb (b := w.heap.size) (o := 1) (v := .int .i64 a.fr) (by first | assumption | go_cell)
    have a2 := kcb hb (b := w.heap.size) (o := 2) (v := .int .i64 a.to) (by first | assumption | go_cell)
    have a3 := kcb hb (b := w.heap.size) (o := 3) (v := .int .i64 a.tl) (by first | assumption | go_cell)
    have a4 := kcb hb (b := w.heap.size) (o := 4) (v := .int .i64 a.wo) (by first | assumption | go_cell)
    have b0 := kcb hb (b := w.heap.size + 1) (o := 0) (v := .string b.nm) (by first | assumption | go_cell)
    have b1 := kcb hb (b := w.heap.size + 1) (o := 1) (v := .int .i64 b.fr) (by first | assumption | go_cell)
    have b2 := kcb hb (b := w.heap.size + 1) (o := 2) (v := .int .i64 b.to) (by first | assumption | go_cell)
    have b3 := kcb hb (b := w.heap.size + 1) (o := 3) (v := .int .i64 b.tl) (by first | assumption | go_cell)
    have b4 := kcb hb (b := w.heap.size + 1) (o := 4) (v := .int .i64 b.wo) (by first | assumption | go_cell)
    have B1 : Bl w w1 := Bl.tr (by go_grown) hb
    have l1 := ltb b0
    clear hb
    rw [HT1.out, HT2.out]
    go_wp2_with fail
    refine bodyPost_ret (v := .tuple #[.bool (foR a b per).1, .int .i64 (foR a b per).2]) ?_ rfl ⟨rfl, B1⟩
    rw [HR.out, HT2.out]
    simp [results, Try.results14, go_sem]
/-- What Clear returns. -/
def ClrPost (L : Nat → Ch) (n : Nat) (S : Nat → Sp2) (m : Nat) (w : World) (e : Ending) (w' : World) : Prop :=
  Bl w w' ∧ (((vdB L n && cldB S m) = false ∧ e = .returned (.tuple #[.slice none 0 0, .int .i64 1])) ∨ ((vdB L n && cldB S m) = true ∧ ∃ v, e = .returned (.tuple #[v, .int .i64 0]) ∧ IsL w' w.heap.size v (clrL S m L n)))
theorem vd_lenQ {L : Nat → Ch} {n : Nat} (h : vdB L n = true) : n ≤ 20 := by
  rcases Nat.eq_zero_or_pos n with e | e
  · omega
  · have := (ms_vc (vd_at h (k := n - 1) (by omega))).1
    omega
set_option maxRecDepth 100000 in
set_option maxHeartbeats 3200000 in
theorem clear_any (A : Option Addr) (n c : Nat) (L : Nat → Ch) (B : Option Addr) (m d : Nat) (S : Nat → Sp2) (w : World) (hA : Chl w A n L) (hS : ∀ j, j < n → (L j).nm.size ≤ maxLen) (hn : n ≤ c) (hc : c ≤ maxLen) (hB : Spl w B m S) (hm : m ≤ maxLen) :
    Calls Try.prog 7 #[.slice A n c, .slice B m d] w (ClrPost L n S m w) := by
  obtain ⟨i0, hi0, hz0, hz1, hz2⟩ := info_parts6N int_infoN
  have HI := Lib.hid (And.intro hi0 (And.intro hz0 (And.intro hz1 hz2)))
  clear hi0 hz0 hz1 hz2
  have HV := Lib.hid (fun (X : World) (hb : Bl w X) => validN_any A n c L X (hA.below hb) hS hn hc)
  have HC := Lib.hid (fun (X : World) (hb : Bl w X) => areClouds_any B m d S X (hB.below hb) hm)
  have HA := Lib.hid hA
  have HBS := Lib.hid hB
  have HM := Lib.hid hm
  clear hA hB hS hm
  cases hv : vdB L n with
  | false =>
    have H1 := Lib.hid hv
    have HR := Lib.hid (show (vdB L n && cldB S m) = false by rw [hv]; rfl)
    clear hv
    go_enter Try.func7, Try.ntmps7
    go_wp2_with fail
    refine (HV.out _ (Bl.rf _)).mono ?_
    rintro e1 w1 ⟨rfl, hb⟩
    rw [H1.out]
    have B1 := Lib.hid hb
    clear hb
    go_wp2_with fail
    go_ret2
    exact ⟨B1.out, .inl ⟨HR.out, rfl⟩⟩
  | true =>
    have H1 := Lib.hid hv
    cases hk : cldB S m with
    | false =>
      have H2 := Lib.hid hk
      have HR := Lib.hid (show (vdB L n && cldB S m) = false by rw [hv, hk]; rfl)
      clear hv hk
      go_enter Try.func7, Try.ntmps7
      go_wp2_with fail
      refine (HV.out _ (Bl.rf _)).mono ?_
      rintro e1 w1 ⟨rfl, hb⟩
      rw [H1.out]
      have B1 := Lib.hid hb
      clear hb
      go_wp2_with fail
      refine (HC.out _ B1.out).mono ?_
      rintro e2 w2 ⟨rfl, hb⟩
      rw [H2.out]
      have B2 := Lib.hid (B1.out.tr hb)
      clear hb
      go_wp2_with fail
      go_ret2
      exact ⟨B2.out, .inl ⟨HR.out, rfl⟩⟩
    | true =>
      have H2 := Lib.hid hk
      have HR := Lib.hid (show (vdB L n && cldB S m) = true by rw [hv, hk]; rfl)
      have hn20 := vd_lenQ hv
      clear hv hk
      go_enter Try.func7, Try.ntmps7
      go_wp2_with fail
      refine (HV.out _ (Bl.rf _)).mono ?_
      rintro e1 w1 ⟨rfl, hb⟩
      rw [H1.out]
      have B1 := Lib.hid hb
      clear hb
      go_wp2_with fail
      refine (HC.out _ B1.out).mono ?_
      rintro e2 w2 ⟨rfl, hb⟩
      rw [H2.out]
      have B2 := Lib.hid (B1.out.tr hb)
      clear hb
      go_wp2_with fail
      refine (clearOf_any A n c L B m d S _ (HA.out.below B2.out) hn20 (HBS.out.below B2.out) HM.out).mono ?_
      rintro e3 w3 ⟨hb, v, rfl, hown⟩
      have HL := Lib.hid (isL_of_own rfl hown)
      have B3 := Lib.hid (B2.out.tr hb)
      have z2 := B2.out.size
      clear hb hown
      go_wp2_with fail
      go_ret2
      exact ⟨B3.out, .inr ⟨HR.out, v, rfl, HL.out.mono z2⟩⟩
set_option maxRecDepth 100000 in
set_option maxHeartbeats 3200000 in
theorem rclear_any (A : Option Addr) (n c : Nat) (L : Nat → Ch) (B : Option Addr) (m d : Nat) (S : Nat → Sp2) (w : World) (hA : Chl w A n L) (hS : ∀ j, j < n → (L j).nm.size ≤ maxLen) (hn : n ≤ c) (hc : c ≤ maxLen) (hB : Spl w B m S) (hm : m ≤ maxLen) :
    Calls Try.prog 8 #[.slice A n c, .slice B m d] w (ClrPost L n S m w) := by
  obtain ⟨i0, hi0, hz0, hz1, hz2⟩ := info_parts6N int_infoN
  have HI := Lib.hid (And.intro hi0 (And.intro hz0 (And.intro hz1 hz2)))
  clear hi0 hz0 hz1 hz2
  have HV := Lib.hid (fun (X : World) (hb : Bl w X) => rvalid8_any A n c L X (hA.below hb) hS hn hc)
  have HC := Lib.hid (fun (X : World) (hb : Bl w X) => validClouds_any B m d S X (hB.below hb) hm)
  have HA := Lib.hid hA
  have HBS := Lib.hid hB
  have HM := Lib.hid hm
  clear hA hB hS hm
  cases hv : vdB L n with
  | false =>
    have H1 := Lib.hid hv
    have HR := Lib.hid (show (vdB L n && cldB S m) = false by rw [hv]; rfl)
    clear hv
    go_enter Try.func8, Try.ntmps8
    go_wp2_with fail
    refine (HV.out _ (Bl.rf _)).mono ?_
    rintro e1 w1 ⟨rfl, hb⟩
    rw [H1.out]
    have B1 := Lib.hid hb
    clear hb
    go_wp2_with fail
    go_ret2
    exact ⟨B1.out, .inl ⟨HR.out, rfl⟩⟩
  | true =>
    have H1 := Lib.hid hv
    cases hk : cldB S m with
    | false =>
      have H2 := Lib.hid hk
      have HR := Lib.hid (show (vdB L n && cldB S m) = false by rw [hv, hk]; rfl)
      clear hv hk
      go_enter Try.func8, Try.ntmps8
      go_wp2_with fail
      refine (HV.out _ (Bl.rf _)).mono ?_
      rintro e1 w1 ⟨rfl, hb⟩
      rw [H1.out]
      have B1 := Lib.hid hb
      clear hb
      go_wp2_with fail
      refine (HC.out _ B1.out).mono ?_
      rintro e2 w2 ⟨rfl, hb⟩
      rw [H2.out]
      have B2 := Lib.hid (B1.out.tr hb)
      clear hb
      go_wp2_with fail
      go_ret2
      exact ⟨B2.out, .inl ⟨HR.out, rfl⟩⟩
    | true =>
      have H2 := Lib.hid hk
      have HR := Lib.hid (show (vdB L n && cldB S m) = true by rw [hv, hk]; rfl)
      have hn20 := vd_lenQ hv
      clear hv hk
      go_enter Try.func8, Try.ntmps8
      go_wp2_with fail
      refine (HV.out _ (Bl.rf _)).mono ?_
      rintro e1 w1 ⟨rfl, hb⟩
      rw [H1.out]
      have B1 := Lib.hid hb
      clear hb
      go_wp2_with fail
      refine (HC.out _ B1.out).mono ?_
      rintro e2 w2 ⟨rfl, hb⟩
      rw [H2.out]
      have B2 := Lib.hid (B1.out.tr hb)
      clear hb
      go_wp2_with fail
      have z2 := B2.out.size
      have NV : World.ownsRow w2 w.heap.size 3 1 (.slice none 0 0) 0 [] := World.ownsRow_nil _ _ _ _
      go_loopw [6, 19] (fun v i wr => ∃ k : Nat, k ≤ n ∧ i = .int .i64 k ∧ Hid (wr.ownsRow w.heap.size 3 1 v (clrL S m L k).length (intL (clrL S m L k))) ∧ Bl w wr) (fun _ i _ => n - (RowKit.intOf i).toNat)
      case atStart => exact ⟨0, Nat.zero_le _, rfl, NV, B2.out⟩
      case round =>
        obtain ⟨k, hk, rfl, HO, hB⟩ := hrel
        have zB := hB.size
        by_cases hlt : k < n
        · obtain ⟨b, off, rfl, hbb, hcc⟩ := (HA.out.below hB) (by omega)
          obtain ⟨c0, c1, c2, c3, c4⟩ := hcc k hlt
          clear hcc
          have len := clrL_len S m L k
          have HYE := Lib.hid (fun (q : clrB S m (L k) = true) => (show clrL S m L (k + 1) = clrL S m L k ++ [(k : Int)] by rw [clrL, if_pos q]))
          have HNO := Lib.hid (fun (q : clrB S m (L k) = false) => (show clrL S m L (k + 1) = clrL S m L k by rw [clrL, if_neg (by rw [q]; decide)]))
          obtain ⟨x, hx⟩ : ∃ x, x = L k := ⟨_, rfl⟩
          rw [← hx] at c0 c1 c2 c3 c4 HYE HNO
          clear hx
          have HBB := Lib.hid hB
          go_wp2_with fail
          refine (risClear_any x B m d S _ (HBS.out.below (hB.tr (by go_grown))) HM.out).mono ?_
          rintro e1 w1 ⟨rfl, hb⟩
          have X1 : Bl wr w1 := Below.trans (by go_grown) (hb.mono (by (try simp only [World.size_alloc]); omega))
          have z1 := X1.size
          have HO1 := Lib.hid (own_bN HO.out X1)
          have B1 := hB.tr X1
          clear hb
          cases q : clrB S m x with
          | true =>
            have HL := Lib.hid (HYE.out q)
            have hnew := Lib.hid (heap_alloc_new w1 (.cells #[.int .i64 (k : Int)] 3))
            go_wp2_with (at_builtin; refine wpList_append_lies _ rfl _ _ _ rfl w.heap.size 3 i0 _ 1 8 Try.underlying28 HI.out.1 HI.out.2.1 HI.out.2.2.1 HI.out.2.2.2 rfl (by omega) _ (clrL S m L k).length (intL (clrL S m L k)) rfl (HO1.out.alloc _) ⟨w1.heap.size, 0, none⟩ 1 1 [.int .i64 (k : Int)] rfl rfl (World.news_of_block hnew.out) (by simp [Value.oneCell']) (by omega) (by unfold maxLen; omega) (by omega) (by (try simp only [World.size_alloc]); omega) _ rfl ?_; intro gg cap w9 hown1 hgrow hat hlt9)
            have HO9 := Lib.hid (show w9.ownsRow w.heap.size 3 1 (.slice (some ⟨gg, 0, none⟩) ((clrL S m L k).length + 1) cap) (clrL S m L (k + 1)).length (intL (clrL S m L (k + 1))) by
              rw [HL.out, intL_snoc, List.length_append, List.length_singleton]; exact hown1)
            have hl := HO1.out.lt
            have B9 : Bl w w9 := Below.grown (w := w1.alloc (.cells #[.int .i64 (k : Int)] 3)) (B1.tr (by go_grown)) hgrow (by (try simp only [World.size_alloc]); omega) (fun j hj => (hl j hj).1)
            clear hown1 hgrow hat
            go_roundw
            case rel => exact ⟨k + 1, by omega, by go_num, HO9.out, B9⟩
            case measure => simp [RowKit.intOf]; omega
          | false =>
            have HL := Lib.hid (HNO.out q)
            have HO9 := Lib.hid (show w1.ownsRow w.heap.size 3 1 _ (clrL S m L (k + 1)).length (intL (clrL S m L (k + 1))) by rw [HL.out]; exact HO1.out)
            go_wp2_with fail
            go_roundw
            case rel => exact ⟨k + 1, by omega, by go_num, HO9.out, B1⟩
            case measure => simp [RowKit.intOf]; omega
        · obtain rfl : k = n := by omega
          go_wp2_with fail
          go_ret2
          exact ⟨hB, .inr ⟨HR.out, _, rfl, isL_of_own rfl HO.out⟩⟩
end Go.Proofs.Ytbieonibngbhjaa
