/-
  Contracts of package ledger and of its reference: Rated.
-/
import Derived.Test.YtiaamhlcdnlahaaLF
namespace Go.Proofs.Ytiaamhlcdnlahaa
open Go.RowKit Go.Maps
set_option linter.unusedSimpArgs false
set_option linter.unusedVariables false

/-- What Rated returns. -/
def ratP (L : Nat → En) (n : Nat) (a b : Int) : Int × Int :=
  if vlB L n = true then (if dayB a = true ∧ dayB b = true ∧ a < b then (match offO L n a, offO L n b with | some x, some y => (y - x, 0) | _, _ => (0, 8)) else (0, 7)) else (0, 1)
theorem rat_inv {L : Nat → En} {n : Nat} {a b : Int} (h : vlB L n = false) : ratP L n a b = (0, 1) := by simp [ratP, h]
theorem rat_rng {L : Nat → En} {n : Nat} {a b : Int} (h : vlB L n = true) (hr : ¬ (dayB a = true ∧ dayB b = true ∧ a < b)) : ratP L n a b = (0, 7) := by rw [ratP, if_pos h, if_neg hr]
theorem rat_n1 {L : Nat → En} {n : Nat} {a b : Int} (h : vlB L n = true) (hr : dayB a = true ∧ dayB b = true ∧ a < b) (ho : offO L n a = none) : ratP L n a b = (0, 8) := by rw [ratP, if_pos h, if_pos hr, ho]
theorem rat_n2 {L : Nat → En} {n : Nat} {a b : Int} (h : vlB L n = true) (hr : dayB a = true ∧ dayB b = true ∧ a < b) (ho : offO L n b = none) : ratP L n a b = (0, 8) := by rw [ratP, if_pos h, if_pos hr, ho]; cases offO L n a <;> rfl
theorem rat_ok {L : Nat → En} {n : Nat} {a b x y : Int} (h : vlB L n = true) (hr : dayB a = true ∧ dayB b = true ∧ a < b) (ho : offO L n a = some x) (ho' : offO L n b = some y) : ratP L n a b = (y - x, 0) := by rw [ratP, if_pos h, if_pos hr, ho, ho']
theorem encO_none : encO none = .tuple #[.int .i64 0, .bool false] := rfl
theorem encO_some (x : Int) : encO (some x) = .tuple #[.int .i64 x, .bool true] := rfl
set_option maxRecDepth 100000 in
set_option maxHeartbeats 6400000 in
theorem rated_any (A : Option Addr) (n c : Nat) (L : Nat → En) (a b : Int) (w : World) (hA : El w A n L) (hn : n ≤ maxLen) (ha : rng a) (hb : rng b) :
    Calls Try.prog 43 #[.slice A n c, .int .i64 a, .int .i64 b] w fun e w' => e = .returned (encP (ratP L n a b)) ∧ Bl w w' := by
  have HC := Lib.hid (fun (X : World) (hb : Bl w X) => recordOf_any A n c L X (hA.below hb) hn)
  have HA := Lib.hid hA
  have HRA := Lib.hid ha
  have HRB := Lib.hid hb
  clear hA ha hb
  cases hv : vlB L n with
  | false =>
    have HV := Lib.hid hv
    have HE := Lib.hid (show ratP L n a b = (0, 1) from rat_inv hv)
    clear hv
    go_enter Try.func43, Try.ntmps43
    go_wp2_with fail
    refine (HC.out _ (by first | exact Bl.rf _ | go_grown)).mono ?_
    rintro e1 w1 ⟨B1, ⟨hv, rfl⟩ | ⟨hv, B, rfl, hBl, hR⟩⟩
    · clear hv
      go_wp2_with fail
      go_ret2
      exact ⟨by rw [HE.out]; rfl, B1⟩
    · exact absurd (hv.symm.trans HV.out) (by decide)
  | true =>
    have HV := Lib.hid hv
    have HBD := Lib.hid (fun f x d (h : lst L d f n = some x) => lst_bd (vl_iff.1 hv).2 h)
    clear hv
    cases ha : dayB a with
    | false =>
      have HQ := Lib.hid ha
      have HE := Lib.hid (show ratP L n a b = (0, 7) from rat_rng HV.out (by rw [ha]; simp))
      clear ha
      go_enter Try.func43, Try.ntmps43
      go_wp2_with fail
      refine (HC.out _ (by first | exact Bl.rf _ | go_grown)).mono ?_
      rintro e1 w1 ⟨hb, ⟨hv, rfl⟩ | ⟨hv, B, rfl, hBl, hR⟩⟩
      · exact absurd (hv.symm.trans HV.out) (by decide)
      have HR := Lib.hid hR
      have HB := Lib.hid hb
      clear hR hv hBl hb
      go_wp2_with fail
      refine (isDay_any a _).mono ?_
      rintro e2 w2 ⟨rfl, rfl⟩
      rw [HQ.out]
      go_wp2_with fail
      go_ret2
      exact ⟨by rw [HE.out]; rfl, HB.out⟩
    | true =>
      have HQ := Lib.hid ha
      clear ha
      cases hb : dayB b with
      | false =>
        have HQ2 := Lib.hid hb
        have HE := Lib.hid (show ratP L n a b = (0, 7) from rat_rng HV.out (by rw [hb]; simp))
        clear hb
        go_enter Try.func43, Try.ntmps43
        go_wp2_with fail
        refine (HC.out _ (by first | exact Bl.rf _ | go_grown)).mono ?_
        rintro e1 w1 ⟨hb, ⟨hv, rfl⟩ | ⟨hv, B, rfl, hBl, hR⟩⟩
        · exact absurd (hv.symm.trans HV.out) (by decide)
        have HR := Lib.hid hR
        have HB := Lib.hid hb
        clear hR hv hBl hb
        go_wp2_with fail
        refine (isDay_any a _).mono ?_
        rintro e2 w2 ⟨rfl, rfl⟩
        rw [HQ.out]
        go_wp2_with fail
        refine (isDay_any b _).mono ?_
        rintro e2 w2 ⟨rfl, rfl⟩
        rw [HQ2.out]
        go_wp2_with fail
        go_ret2
        exact ⟨by rw [HE.out]; rfl, HB.out⟩
      | true =>
        have HQ2 := Lib.hid hb
        clear hb
        by_cases hlt : a < b
        rotate_left
        · have HE := Lib.hid (show ratP L n a b = (0, 7) from rat_rng HV.out (fun q => hlt q.2.2))
          go_enter Try.func43, Try.ntmps43
          go_wp2_with fail
          refine (HC.out _ (by first | exact Bl.rf _ | go_grown)).mono ?_
          rintro e1 w1 ⟨hb, ⟨hv, rfl⟩ | ⟨hv, B, rfl, hBl, hR⟩⟩
          · exact absurd (hv.symm.trans HV.out) (by decide)
          have HR := Lib.hid hR
          have HB := Lib.hid hb
          clear hR hv hBl hb
          go_wp2_with fail
          refine (isDay_any a _).mono ?_
          rintro e2 w2 ⟨rfl, rfl⟩
          rw [HQ.out]
          go_wp2_with fail
          refine (isDay_any b _).mono ?_
          rintro e2 w2 ⟨rfl, rfl⟩
          rw [HQ2.out]
          go_wp2_with fail
          go_ret2
          exact ⟨by rw [HE.out]; rfl, HB.out⟩
        have HDD := Lib.hid (And.intro HQ.out (And.intro HQ2.out hlt))
        cases oa : offO L n a with
        | none =>
          have HN := Lib.hid oa
          have HE := Lib.hid (show ratP L n a b = (0, 8) from rat_n1 HV.out HDD.out oa)
          clear oa
          cases ob : offO L n b with
          | none =>
            have HN2 := Lib.hid ob
            clear ob
            go_enter Try.func43, Try.ntmps43
            go_wp2_with fail
            refine (HC.out _ (by first | exact Bl.rf _ | go_grown)).mono ?_
            rintro e1 w1 ⟨hb, ⟨hv, rfl⟩ | ⟨hv, B, rfl, hBl, hR⟩⟩
            · exact absurd (hv.symm.trans HV.out) (by decide)
            have HR := Lib.hid hR
            have HB := Lib.hid hb
            clear hR hv hBl hb
            go_wp2_with fail
            refine (isDay_any a _).mono ?_
            rintro e2 w2 ⟨rfl, rfl⟩
            rw [HQ.out]
            go_wp2_with fail
            refine (isDay_any b _).mono ?_
            rintro e2 w2 ⟨rfl, rfl⟩
            rw [HQ2.out]
            go_wp2_with fail
            refine (off_any B n _ a _ (HR.out.below (Bl.rf _)) HRA.out (fun f x h => HBD.out f x _ h)).mono ?_
            rintro e3 w3 ⟨rfl, hb3⟩
            rw [offV_off, HN.out, encO_none]
            have B3 := Lib.hid (HB.out.tr hb3)
            have C3 := Lib.hid hb3
            clear hb3
            go_wp2_with fail
            refine (off_any B n _ b _ (HR.out.below C3.out) HRB.out (fun f x h => HBD.out f x _ h)).mono ?_
            rintro e4 w4 ⟨rfl, hb4⟩
            rw [offV_off, HN2.out, encO_none]
            have B4 := Lib.hid (B3.out.tr hb4)
            clear hb4
            go_wp2_with fail
            go_ret2
            exact ⟨by rw [HE.out]; rfl, B4.out⟩
          | some y =>
            have HY := Lib.hid ob
            clear ob
            go_enter Try.func43, Try.ntmps43
            go_wp2_with fail
            refine (HC.out _ (by first | exact Bl.rf _ | go_grown)).mono ?_
            rintro e1 w1 ⟨hb, ⟨hv, rfl⟩ | ⟨hv, B, rfl, hBl, hR⟩⟩
            · exact absurd (hv.symm.trans HV.out) (by decide)
            have HR := Lib.hid hR
            have HB := Lib.hid hb
            clear hR hv hBl hb
            go_wp2_with fail
            refine (isDay_any a _).mono ?_
            rintro e2 w2 ⟨rfl, rfl⟩
            rw [HQ.out]
            go_wp2_with fail
            refine (isDay_any b _).mono ?_
            rintro e2 w2 ⟨rfl, rfl⟩
            rw [HQ2.out]
            go_wp2_with fail
            refine (off_any B n _ a _ (HR.out.below (Bl.rf _)) HRA.out (fun f x h => HBD.out f x _ h)).mono ?_
            rintro e3 w3 ⟨rfl, hb3⟩
            rw [offV_off, HN.out, encO_none]
            have B3 := Lib.hid (HB.out.tr hb3)
            have C3 := Lib.hid hb3
            clear hb3
            go_wp2_with fail
            refine (off_any B n _ b _ (HR.out.below C3.out) HRB.out (fun f x h => HBD.out f x _ h)).mono ?_
            rintro e4 w4 ⟨rfl, hb4⟩
            rw [offV_off, HY.out, encO_some]
            have B4 := Lib.hid (B3.out.tr hb4)
            clear hb4
            go_wp2_with fail
            go_ret2
            exact ⟨by rw [HE.out]; rfl, B4.out⟩
        | some x =>
          have HX := Lib.hid oa
          have bx := off_bd (vl_iff.1 HV.out).2 oa
          clear oa
          cases ob : offO L n b with
          | none =>
            have HN := Lib.hid ob
            have HE := Lib.hid (show ratP L n a b = (0, 8) from rat_n2 HV.out HDD.out ob)
            clear ob
            go_enter Try.func43, Try.ntmps43
            go_wp2_with fail
            refine (HC.out _ (by first | exact Bl.rf _ | go_grown)).mono ?_
            rintro e1 w1 ⟨hb, ⟨hv, rfl⟩ | ⟨hv, B, rfl, hBl, hR⟩⟩
            · exact absurd (hv.symm.trans HV.out) (by decide)
            have HR := Lib.hid hR
            have HB := Lib.hid hb
            clear hR hv hBl hb
            go_wp2_with fail
            refine (isDay_any a _).mono ?_
            rintro e2 w2 ⟨rfl, rfl⟩
            rw [HQ.out]
            go_wp2_with fail
            refine (isDay_any b _).mono ?_
            rintro e2 w2 ⟨rfl, rfl⟩
            rw [HQ2.out]
            go_wp2_with fail
            refine (off_any B n _ a _ (HR.out.below (Bl.rf _)) HRA.out (fun f x h => HBD.out f x _ h)).mono ?_
            rintro e3 w3 ⟨rfl, hb3⟩
            rw [offV_off, HX.out, encO_some]
            have B3 := Lib.hid (HB.out.tr hb3)
            have C3 := Lib.hid hb3
            clear hb3
            go_wp2_with fail
            refine (off_any B n _ b _ (HR.out.below C3.out) HRB.out (fun f x h => HBD.out f x _ h)).mono ?_
            rintro e4 w4 ⟨rfl, hb4⟩
            rw [offV_off, HN.out, encO_none]
            have B4 := Lib.hid (B3.out.tr hb4)
            clear hb4
            go_wp2_with fail
            go_ret2
            exact ⟨by rw [HE.out]; rfl, B4.out⟩
          | some y =>
            have HY := Lib.hid ob
            have hy := off_bd (vl_iff.1 HV.out).2 ob
            have HE := Lib.hid (show ratP L n a b = (y - x, 0) from rat_ok HV.out HDD.out HX.out ob)
            clear ob
            have k1 : IntKind.i64.wrap (y - x) = y - x := IntWalk.i64_in _ (by omega)
            have k2 : wrap64 (y - x) = y - x := IntWalk.wrap64_in _ (by omega)
            go_enter Try.func43, Try.ntmps43
            go_wp2_with fail
            refine (HC.out _ (by first | exact Bl.rf _ | go_grown)).mono ?_
            rintro e1 w1 ⟨hb, ⟨hv, rfl⟩ | ⟨hv, B, rfl, hBl, hR⟩⟩
            · exact absurd (hv.symm.trans HV.out) (by decide)
            have HR := Lib.hid hR
            have HB := Lib.hid hb
            clear hR hv hBl hb
            go_wp2_with fail
            refine (isDay_any a _).mono ?_
            rintro e2 w2 ⟨rfl, rfl⟩
            rw [HQ.out]
            go_wp2_with fail
            refine (isDay_any b _).mono ?_
            rintro e2 w2 ⟨rfl, rfl⟩
            rw [HQ2.out]
            go_wp2_with fail
            refine (off_any B n _ a _ (HR.out.below (Bl.rf _)) HRA.out (fun f x h => HBD.out f x _ h)).mono ?_
            rintro e3 w3 ⟨rfl, hb3⟩
            rw [offV_off, HX.out, encO_some]
            have B3 := Lib.hid (HB.out.tr hb3)
            have C3 := Lib.hid hb3
            clear hb3
            go_wp2_with fail
            refine (off_any B n _ b _ (HR.out.below C3.out) HRB.out (fun f x h => HBD.out f x _ h)).mono ?_
            rintro e4 w4 ⟨rfl, hb4⟩
            rw [offV_off, HY.out, encO_some]
            have B4 := Lib.hid (B3.out.tr hb4)
            clear hb4
            go_wp2_with fail
            go_ret2
            exact ⟨by rw [HE.out]; rfl, B4.out⟩
set_option maxRecDepth 100000 in
set_option maxHeartbeats 6400000 in
theorem rrated_any (A : Option Addr) (n c : Nat) (L : Nat → En) (a b : Int) (w : World) (hA : El w A n L) (hn : n ≤ maxLen) (ha : rng a) (hb : rng b) :
    Calls Try.prog 44 #[.slice A n c, .int .i64 a, .int .i64 b] w fun e w' => e = .returned (encP (ratP L n a b)) ∧ Bl w w' := by
  have HC := Lib.hid (fun (X : World) (hb : Bl w X) => rvalidE_any A n c L X (hA.below hb) hn)
  have HA := Lib.hid hA
  have HRA := Lib.hid ha
  have HRB := Lib.hid hb
  clear hA ha hb
  cases hv : vlB L n with
  | false =>
    have HV := Lib.hid hv
    have HE := Lib.hid (show ratP L n a b = (0, 1) from rat_inv hv)
    clear hv
    go_enter Try.func44, Try.ntmps44
    go_wp2_with fail
    refine (HC.out _ (by first | exact Bl.rf _ | go_grown)).mono ?_
    rintro e1 w1 ⟨rfl, B1⟩
    rw [HV.out]
    go_wp2_with fail
    go_ret2
    exact ⟨by rw [HE.out]; rfl, B1⟩
  | true =>
    have HV := Lib.hid hv
    have HBD := Lib.hid (fun f x d (h : lst L d f n = some x) => lst_bd (vl_iff.1 hv).2 h)
    clear hv
    cases ha : dayB a with
    | false =>
      have HQ := Lib.hid ha
      have HE := Lib.hid (show ratP L n a b = (0, 7) from rat_rng HV.out (by rw [ha]; simp))
      clear ha
      go_enter Try.func44, Try.ntmps44
      go_wp2_with fail
      refine (HC.out _ (by first | exact Bl.rf _ | go_grown)).mono ?_
      rintro e1 w1 ⟨rfl, hb⟩
      have HB := Lib.hid hb
      rw [HV.out]
      clear hb
      go_wp2_with fail
      refine (rday_any a _).mono ?_
      rintro e2 w2 ⟨rfl, rfl⟩
      rw [HQ.out]
      go_wp2_with fail
      go_ret2
      exact ⟨by rw [HE.out]; rfl, HB.out⟩
    | true =>
      have HQ := Lib.hid ha
      clear ha
      cases hb : dayB b with
      | false =>
        have HQ2 := Lib.hid hb
        have HE := Lib.hid (show ratP L n a b = (0, 7) from rat_rng HV.out (by rw [hb]; simp))
        clear hb
        go_enter Try.func44, Try.ntmps44
        go_wp2_with fail
        refine (HC.out _ (by first | exact Bl.rf _ | go_grown)).mono ?_
        rintro e1 w1 ⟨rfl, hb⟩
        have HB := Lib.hid hb
        rw [HV.out]
        clear hb
        go_wp2_with fail
        refine (rday_any a _).mono ?_
        rintro e2 w2 ⟨rfl, rfl⟩
        rw [HQ.out]
        go_wp2_with fail
        refine (rday_any b _).mono ?_
        rintro e2 w2 ⟨rfl, rfl⟩
        rw [HQ2.out]
        go_wp2_with fail
        go_ret2
        exact ⟨by rw [HE.out]; rfl, HB.out⟩
      | true =>
        have HQ2 := Lib.hid hb
        clear hb
        by_cases hlt : a < b
        rotate_left
        · have HE := Lib.hid (show ratP L n a b = (0, 7) from rat_rng HV.out (fun q => hlt q.2.2))
          go_enter Try.func44, Try.ntmps44
          go_wp2_with fail
          refine (HC.out _ (by first | exact Bl.rf _ | go_grown)).mono ?_
          rintro e1 w1 ⟨rfl, hb⟩
          have HB := Lib.hid hb
          rw [HV.out]
          clear hb
          go_wp2_with fail
          refine (rday_any a _).mono ?_
          rintro e2 w2 ⟨rfl, rfl⟩
          rw [HQ.out]
          go_wp2_with fail
          refine (rday_any b _).mono ?_
          rintro e2 w2 ⟨rfl, rfl⟩
          rw [HQ2.out]
          go_wp2_with fail
          go_ret2
          exact ⟨by rw [HE.out]; rfl, HB.out⟩
        have HDD := Lib.hid (And.intro HQ.out (And.intro HQ2.out hlt))
        cases oa : offO L n a with
        | none =>
          have HN := Lib.hid oa
          have HE := Lib.hid (show ratP L n a b = (0, 8) from rat_n1 HV.out HDD.out oa)
          clear oa
          cases ob : offO L n b with
          | none =>
            have HN2 := Lib.hid ob
            clear ob
            go_enter Try.func44, Try.ntmps44
            go_wp2_with fail
            refine (HC.out _ (by first | exact Bl.rf _ | go_grown)).mono ?_
            rintro e1 w1 ⟨rfl, hb⟩
            have HB := Lib.hid hb
            rw [HV.out]
            clear hb
            go_wp2_with fail
            refine (rday_any a _).mono ?_
            rintro e2 w2 ⟨rfl, rfl⟩
            rw [HQ.out]
            go_wp2_with fail
            refine (rday_any b _).mono ?_
            rintro e2 w2 ⟨rfl, rfl⟩
            rw [HQ2.out]
            go_wp2_with fail
            refine (roff_any A n c L a _ (HA.out.below HB.out) hn (fun f x h => lst_bd (vl_iff.1 HV.out).2 h)).mono ?_
            rintro e3 w3 ⟨⟨z3, rfl, hz⟩, hb3⟩
            rw [HN.out]
            simp only [Option.isSome_none]
            have B3 := Lib.hid (HB.out.tr hb3)
            clear hb3
            go_wp2_with fail
            refine (roff_any A n c L b _ (HA.out.below B3.out) hn (fun f x h => lst_bd (vl_iff.1 HV.out).2 h)).mono ?_
            rintro e4 w4 ⟨⟨z4, rfl, hz⟩, hb4⟩
            rw [HN2.out]
            simp only [Option.isSome_none]
            have B4 := Lib.hid (B3.out.tr hb4)
            clear hb4
            go_wp2_with fail
            go_ret2
            exact ⟨by rw [HE.out]; rfl, B4.out⟩
          | some y =>
            have HY := Lib.hid ob
            clear ob
            go_enter Try.func44, Try.ntmps44
            go_wp2_with fail
            refine (HC.out _ (by first | exact Bl.rf _ | go_grown)).mono ?_
            rintro e1 w1 ⟨rfl, hb⟩
            have HB := Lib.hid hb
            rw [HV.out]
            clear hb
            go_wp2_with fail
            refine (rday_any a _).mono ?_
            rintro e2 w2 ⟨rfl, rfl⟩
            rw [HQ.out]
            go_wp2_with fail
            refine (rday_any b _).mono ?_
            rintro e2 w2 ⟨rfl, rfl⟩
            rw [HQ2.out]
            go_wp2_with fail
            refine (roff_any A n c L a _ (HA.out.below HB.out) hn (fun f x h => lst_bd (vl_iff.1 HV.out).2 h)).mono ?_
            rintro e3 w3 ⟨⟨z3, rfl, hz⟩, hb3⟩
            rw [HN.out]
            simp only [Option.isSome_none]
            have B3 := Lib.hid (HB.out.tr hb3)
            clear hb3
            go_wp2_with fail
            refine (roff_any A n c L b _ (HA.out.below B3.out) hn (fun f x h => lst_bd (vl_iff.1 HV.out).2 h)).mono ?_
            rintro e4 w4 ⟨⟨z4, rfl, hz⟩, hb4⟩
            obtain rfl := hz _ HY.out
            rw [HY.out]
            simp only [Option.isSome_some]
            have B4 := Lib.hid (B3.out.tr hb4)
            clear hb4
            go_wp2_with fail
            go_ret2
            exact ⟨by rw [HE.out]; rfl, B4.out⟩
        | some x =>
          have HX := Lib.hid oa
          have bx := off_bd (vl_iff.1 HV.out).2 oa
          clear oa
          cases ob : offO L n b with
          | none =>
            have HN := Lib.hid ob
            have HE := Lib.hid (show ratP L n a b = (0, 8) from rat_n2 HV.out HDD.out ob)
            clear ob
            go_enter Try.func44, Try.ntmps44
            go_wp2_with fail
            refine (HC.out _ (by first | exact Bl.rf _ | go_grown)).mono ?_
            rintro e1 w1 ⟨rfl, hb⟩
            have HB := Lib.hid hb
            rw [HV.out]
            clear hb
            go_wp2_with fail
            refine (rday_any a _).mono ?_
            rintro e2 w2 ⟨rfl, rfl⟩
            rw [HQ.out]
            go_wp2_with fail
            refine (rday_any b _).mono ?_
            rintro e2 w2 ⟨rfl, rfl⟩
            rw [HQ2.out]
            go_wp2_with fail
            refine (roff_any A n c L a _ (HA.out.below HB.out) hn (fun f x h => lst_bd (vl_iff.1 HV.out).2 h)).mono ?_
            rintro e3 w3 ⟨⟨z3, rfl, hz⟩, hb3⟩
            obtain rfl := hz _ HX.out
            rw [HX.out]
            simp only [Option.isSome_some]
            have B3 := Lib.hid (HB.out.tr hb3)
            clear hb3
            go_wp2_with fail
            refine (roff_any A n c L b _ (HA.out.below B3.out) hn (fun f x h => lst_bd (vl_iff.1 HV.out).2 h)).mono ?_
            rintro e4 w4 ⟨⟨z4, rfl, hz⟩, hb4⟩
            rw [HN.out]
            simp only [Option.isSome_none]
            have B4 := Lib.hid (B3.out.tr hb4)
            clear hb4
            go_wp2_with fail
            go_ret2
            exact ⟨by rw [HE.out]; rfl, B4.out⟩
          | some y =>
            have HY := Lib.hid ob
            have hy := off_bd (vl_iff.1 HV.out).2 ob
            have HE := Lib.hid (show ratP L n a b = (y - x, 0) from rat_ok HV.out HDD.out HX.out ob)
            clear ob
            have k1 : IntKind.i64.wrap (y - x) = y - x := IntWalk.i64_in _ (by omega)
            have k2 : wrap64 (y - x) = y - x := IntWalk.wrap64_in _ (by omega)
            go_enter Try.func44, Try.ntmps44
            go_wp2_with fail
            refine (HC.out _ (by first | exact Bl.rf _ | go_grown)).mono ?_
            rintro e1 w1 ⟨rfl, hb⟩
            have HB := Lib.hid hb
            rw [HV.out]
            clear hb
            go_wp2_with fail
            refine (rday_any a _).mono ?_
            rintro e2 w2 ⟨rfl, rfl⟩
            rw [HQ.out]
            go_wp2_with fail
            refine (rday_any b _).mono ?_
            rintro e2 w2 ⟨rfl, rfl⟩
            rw [HQ2.out]
            go_wp2_with fail
            refine (roff_any A n c L a _ (HA.out.below HB.out) hn (fun f x h => lst_bd (vl_iff.1 HV.out).2 h)).mono ?_
            rintro e3 w3 ⟨⟨z3, rfl, hz⟩, hb3⟩
            obtain rfl := hz _ HX.out
            rw [HX.out]
            simp only [Option.isSome_some]
            have B3 := Lib.hid (HB.out.tr hb3)
            clear hb3
            go_wp2_with fail
            refine (roff_any A n c L b _ (HA.out.below B3.out) hn (fun f x h => lst_bd (vl_iff.1 HV.out).2 h)).mono ?_
            rintro e4 w4 ⟨⟨z4, rfl, hz⟩, hb4⟩
            obtain rfl := hz _ HY.out
            rw [HY.out]
            simp only [Option.isSome_some]
            have B4 := Lib.hid (B3.out.tr hb4)
            clear hb4
            go_wp2_with fail
            go_ret2
            exact ⟨by rw [HE.out]; rfl, B4.out⟩
end Go.Proofs.Ytiaamhlcdnlahaa
