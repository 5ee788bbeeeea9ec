/-
  Package ledger: the offs of a stretch of days, or the error; Sum.
-/
import Derived.Test.YtbmenpfpeadckaaMQ
import Derived.Test.YtbmenpfpeadckaaMP
import Derived.Test.YtbmenpfpeadckaaMK
import Derived.Test.YtbmenpfpeadckaaML0
namespace Go.Proofs.Ytbmenpfpeadckaa
open Go.RowKit Go.Maps Go.Shelf
set_option linter.unusedSimpArgs false
set_option linter.unusedVariables false

/-- The first error of a ledger and a stretch of days. -/
def stC (L : Nat → En) (n : Nat) (fa fb : Int) : Int := if vlB L n = true then (if dayB fa = true ∧ dayB fb = true ∧ ¬ fb < fa then 0 else 7) else 1
theorem stC_1 {L : Nat → En} {n : Nat} {fa fb : Int} (h : vlB L n = false) : stC L n fa fb = 1 := by rw [stC, if_neg (by rw [h]; decide)]
theorem stC_7 {L : Nat → En} {n : Nat} {fa fb : Int} (h : vlB L n = true) (h2 : ¬ (dayB fa = true ∧ dayB fb = true ∧ ¬ fb < fa)) : stC L n fa fb = 7 := by rw [stC, if_pos h, if_neg h2]
theorem stC_0 {L : Nat → En} {n : Nat} {fa fb : Int} (h : vlB L n = true) (h2 : dayB fa = true ∧ dayB fb = true ∧ ¬ fb < fa) : stC L n fa fb = 0 := by rw [stC, if_pos h, if_pos h2]
/-- The offs of the days of a list within a stretch. -/
def btw (fa fb : Int) (d : Int) : Bool := decide (fa ≤ d) && decide (d ≤ fb)
def offG (V : Int → Bool → Option Int) (d : Int) : Int := (offV V d).getD 0
def stL (V : Int → Bool → Option Int) (fa fb : Int) (l : List Int) : List Int := (l.filter (btw fa fb)).map (offG V)
theorem oL_st {V : Int → Bool → Option Int} {fa fb : Int} {l : List Int} (h : ∀ d, d ∈ l → 0 ≤ d ∧ d ≤ 182985) (hb : ∀ d o, offV V d = some o → -172800000 ≤ o ∧ o ≤ 172800000) : (oL V (mbetweenP fa fb) l).map offD = stL V fa fb (l.filter (selB V mallP)) := by
  induction l with
  | nil => rfl
  | cons d l ih =>
    have hd := h d (by simp)
    rw [oL, List.map_append, ih (fun x hx => h x (by simp [hx])), List.filter_cons]
    cases q : offV V d with
    | none => simp [selD, selB, q]
    | some o =>
      have ho := hb d o q
      have hD : offD (toDO d o) = o := by
        have : prD (toDO d o) = (d, o) := toDO_at ⟨hd.1, hd.2, ho.1, ho.2⟩
        show (prD (toDO d o)).2 = o
        rw [this]
      have hs : selB V mallP d = true := by simp [selB, q, mallP]
      rw [if_pos hs]
      unfold stL
      rw [List.filter_cons]
      have hm : mbetweenP fa fb d o = btw fa fb d := rfl
      cases qb : btw fa fb d with
      | true => simp [selD, selB, q, hm, qb, hD, offG]
      | false => simp [selD, selB, q, hm, qb]
theorem offF_st {L : Nat → En} {n : Nat} {fa fb : Int} (hv : vlB L n = true) : offF L n fa fb = stL (vL L n) fa fb (pickF L n mallP) :=
  oL_st (fun d hd => dys_rng hv hd) (fun d o h => off_bd (vl_iff.1 hv).2 (show offO L n d = some o from h))
theorem stL_bd {L : Nat → En} {n : Nat} (hv : vlB L n = true) {fa fb : Int} {l : List Int} (hl : ∀ d, d ∈ l → d ∈ pickF L n mallP) : ∀ x, x ∈ stL (vL L n) fa fb l → -172800000 ≤ x ∧ x ≤ 172800000 := by
  intro x hx
  obtain ⟨d, hd, rfl⟩ := List.mem_map.1 hx
  obtain ⟨-, y, hy, hb⟩ := pick_mem hv (hl d (List.mem_filter.1 hd).1)
  unfold offG
  rw [show offV (vL L n) d = some y from hy]
  exact hb
theorem stL_len (V : Int → Bool → Option Int) (fa fb : Int) (l : List Int) : (stL V fa fb l).length ≤ l.length := by
  unfold stL; rw [List.length_map]; exact List.length_filter_le _ _
set_option maxRecDepth 100000 in
set_option maxHeartbeats 6400000 in
theorem offsOf_any (A : Option Addr) (n c : Nat) (L : Nat → En) (fa fb : Int) (w : World) (hA : El w A n L) (hn : n ≤ maxLen) :
    Calls Try.prog 56 #[.slice A n c, .int .i64 fa, .int .i64 fb] w (IntPost (stC L n fa fb) (offF L n fa fb) w) := by
  have HR := Lib.hid (fun (X : World) (hb : Bl w X) => recordOf_any A n c L X (hA.below hb) hn)
  cases hv : vlB L n with
  | false =>
    have HV := Lib.hid hv
    have HC := Lib.hid (stC_1 (fa := fa) (fb := fb) hv)
    clear hv hA hn
    go_enter Try.func56, Try.ntmps56
    go_wp2_with fail
    refine (HR.out _ (by go_grown)).mono ?_
    rintro e1 w1 ⟨hb, ⟨-, rfl⟩ | ⟨h0, _⟩⟩
    · have B1 := Lib.hid (show Bl w w1 from Bl.tr (by go_grown) hb)
      clear hb
      go_wp2_with fail
      go_ret2
      exact ⟨B1.out, .inl ⟨by rw [HC.out]; decide, by rw [HC.out]; rfl⟩⟩
    · rw [HV.out] at h0; cases h0
  | true =>
    by_cases hr : dayB fa = true ∧ dayB fb = true ∧ ¬ fb < fa
    · rw [stC_0 hv hr]
      exact offsOf_yes A n c L fa fb w hA hn hv hr.1 hr.2.1 hr.2.2
    · have HC := Lib.hid (stC_7 hv hr)
      have HV := Lib.hid hv
      clear hv hA hn
      cases h1 : dayB fa with
      | false =>
        have HD := Lib.hid h1
        clear h1 hr
        go_enter Try.func56, Try.ntmps56
        go_wp2_with fail
        refine (HR.out _ (by go_grown)).mono ?_
        rintro e1 w1 ⟨hb, ⟨h0, _⟩ | ⟨-, B, rfl, hB, hR⟩⟩
        · rw [HV.out] at h0; cases h0
        · have B1 := Lib.hid (show Bl w w1 from Bl.tr (by go_grown) hb)
          have x0 := kcb hb (b := w.heap.size) (o := 0) (v := .int .i64 fa) (by go_cell)
          have x1 := kcb hb (b := w.heap.size + 1) (o := 0) (v := .int .i64 fb) (by go_cell)
          have l0 := ltb x0
          have l1 := ltb x1
          clear hb hR
          go_wp2_with fail
          refine (isDay_any fa _).mono ?_
          rintro e4 w4 ⟨rfl, rfl⟩
          rw [HD.out]
          go_wp2_with fail
          go_ret2
          exact ⟨B1.out, .inl ⟨by rw [HC.out]; decide, by rw [HC.out]; rfl⟩⟩
      | true =>
        have HD := Lib.hid h1
        cases h2 : dayB fb with
        | false =>
          have HE := Lib.hid h2
          clear h1 h2 hr
          go_enter Try.func56, Try.ntmps56
          go_wp2_with fail
          refine (HR.out _ (by go_grown)).mono ?_
          rintro e1 w1 ⟨hb, ⟨h0, _⟩ | ⟨-, B, rfl, hB, hR⟩⟩
          · rw [HV.out] at h0; cases h0
          · have B1 := Lib.hid (show Bl w w1 from Bl.tr (by go_grown) hb)
            have x0 := kcb hb (b := w.heap.size) (o := 0) (v := .int .i64 fa) (by go_cell)
            have x1 := kcb hb (b := w.heap.size + 1) (o := 0) (v := .int .i64 fb) (by go_cell)
            have l0 := ltb x0
            have l1 := ltb x1
            clear hb hR
            go_wp2_with fail
            refine (isDay_any fa _).mono ?_
            rintro e4 w4 ⟨rfl, rfl⟩
            rw [HD.out]
            go_wp2_with fail
            refine (isDay_any fb _).mono ?_
            rintro e5 w5 ⟨rfl, rfl⟩
            rw [HE.out]
            go_wp2_with fail
            go_ret2
            exact ⟨B1.out, .inl ⟨by rw [HC.out]; decide, by rw [HC.out]; rfl⟩⟩
        | true =>
          have HE := Lib.hid h2
          have hlt : fb < fa := by
            by_cases q : fb < fa
            · exact q
            · exact absurd ⟨h1, h2, q⟩ hr
          clear h1 h2 hr
          go_enter Try.func56, Try.ntmps56
          go_wp2_with fail
          refine (HR.out _ (by go_grown)).mono ?_
          rintro e1 w1 ⟨hb, ⟨h0, _⟩ | ⟨-, B, rfl, hB, hR⟩⟩
          · rw [HV.out] at h0; cases h0
          · have B1 := Lib.hid (show Bl w w1 from Bl.tr (by go_grown) hb)
            have x0 := kcb hb (b := w.heap.size) (o := 0) (v := .int .i64 fa) (by go_cell)
            have x1 := kcb hb (b := w.heap.size + 1) (o := 0) (v := .int .i64 fb) (by go_cell)
            have l0 := ltb x0
            have l1 := ltb x1
            clear hb hR
            go_wp2_with fail
            refine (isDay_any fa _).mono ?_
            rintro e4 w4 ⟨rfl, rfl⟩
            rw [HD.out]
            go_wp2_with fail
            refine (isDay_any fb _).mono ?_
            rintro e5 w5 ⟨rfl, rfl⟩
            rw [HE.out]
            go_wp2_with fail
            go_ret2
            exact ⟨B1.out, .inl ⟨by rw [HC.out]; decide, by rw [HC.out]; rfl⟩⟩
set_option maxRecDepth 100000 in
set_option maxHeartbeats 3200000 in
theorem sumS_any (A : Option Addr) (n c : Nat) (L : Nat → En) (fa fb : Int) (w : World) (hA : El w A n L) (hn : n ≤ maxLen) :
    Calls Try.prog 23 #[.slice A n c, .int .i64 fa, .int .i64 fb] w fun e w' => e = .returned (encP (sumL (numL (stC L n fa fb) (offF L n fa fb)), stC L n fa fb)) ∧ Bl w w' := by
  have HO := Lib.hid (fun (X : World) (hb : Bl w X) => (offsOf_any A n c L fa fb X (hA.below hb) hn).mono fun e w' h => IntPost.any h)
  have HB := Lib.hid (show ∀ x, x ∈ numL (stC L n fa fb) (offF L n fa fb) → -172800000 ≤ x ∧ x ≤ 172800000 by
    intro x hx
    unfold numL at hx
    by_cases h0 : stC L n fa fb = 0
    · rw [if_pos h0] at hx
      have hv : vlB L n = true := by
        cases hv : vlB L n with
        | true => rfl
        | false => rw [stC_1 hv] at h0; cases h0
      rw [offF_st hv] at hx
      exact stL_bd hv (fun d h => h) x hx
    · rw [if_neg h0] at hx; cases hx)
  have HL := Lib.hid (show (numL (stC L n fa fb) (offF L n fa fb)).length ≤ 1000 by
    unfold numL
    by_cases h0 : stC L n fa fb = 0
    · rw [if_pos h0]
      have hv : vlB L n = true := by
        cases hv : vlB L n with
        | true => rfl
        | false => rw [stC_1 hv] at h0; cases h0
      rw [offF_st hv]
      exact Nat.le_trans (stL_len _ _ _ _) (Nat.le_trans (pick_len L n mallP) (vl_iff.1 hv).1)
    · rw [if_neg h0]; simp)
  clear hA hn
  obtain ⟨C, hC⟩ : ∃ C, C = stC L n fa fb := ⟨_, rfl⟩
  rw [← hC] at HO HB HL ⊢
  obtain ⟨F, hF⟩ : ∃ F, F = numL C (offF L n fa fb) := ⟨_, rfl⟩
  rw [← hF] at HO HB HL ⊢
  clear hC hF
  unfold encP
  go_enter Try.func23, Try.ntmps23
  go_wp2_with fail
  refine (HO.out _ (by first | exact Bl.rf _ | go_grown)).mono ?_
  rintro e1 w1 ⟨hb, A1, c1, rfl, hl, hs⟩
  have B1 := Lib.hid (show Bl w w1 from Bl.tr (by first | exact Bl.rf _ | go_grown) hb)
  have HS := Lib.hid hs
  clear hb hs hl
  go_wp2_with fail
  refine (sumN_any A1 F.length c1 F _ rfl HL.out HS.out HB.out).mono ?_
  rintro e2 w2 ⟨rfl, hb⟩
  have B2 := Lib.hid (B1.out.tr hb)
  clear hb
  go_wp2_with fail
  go_ret2
  exact ⟨rfl, B2.out⟩
end Go.Proofs.Ytbmenpfpeadckaa
