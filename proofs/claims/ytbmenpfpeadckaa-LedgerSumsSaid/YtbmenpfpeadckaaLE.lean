/-
  Contracts of package ledger and of its reference: Said, Found, Off.
-/
import Derived.Test.YtbmenpfpeadckaaLD
namespace Go.Proofs.Ytbmenpfpeadckaa
open Go.RowKit Go.Maps
set_option linter.unusedSimpArgs false
set_option linter.unusedVariables false

/-- The off of a day, by what counts. -/
def offV (V : Int → Bool → Option Int) (d : Int) : Option Int :=
  match V d false, V d true with
  | some a, some b => some (b - a)
  | _, _ => none
theorem offV_off (L : Nat → En) (n : Nat) (d : Int) : offV (fun d f => lst L d f n) d = offO L n d := rfl
abbrev encO (r : Option Int) : Value := .tuple #[.int .i64 (r.getD 0), .bool r.isSome]
set_option maxRecDepth 100000 in
set_option maxHeartbeats 3200000 in
theorem off_any (B k : Nat) (V : Int → Bool → Option Int) (d : Int) (w : World) (h : Rec w B k V) (hd : rng d) (hv : ∀ f x, V d f = some x → -86400000 ≤ x ∧ x ≤ 86400000) :
    Calls Try.prog 65 #[.map (some B), .int .i64 d] w fun e w' => e = .returned (encO (offV V d)) ∧ Bl w w' := by
  have HR := Lib.hid h
  have HD := Lib.hid hd
  clear h
  cases e0 : V d false with
  | none =>
    have H0 := Lib.hid (show (V d false).isSome = false by rw [e0]; rfl)
    have HE := Lib.hid (show encO (offV V d) = .tuple #[.int .i64 0, .bool false] by simp [offV, e0, encO])
    clear e0 hv
    go_enter Try.func65, Try.ntmps65
    go_wp2_with fail
    refine (has_any B k V d false _ (HR.out.below (by go_grown)) HD.out).mono ?_
    rintro q1 w1 ⟨rfl, hb⟩
    rw [H0.out]
    go_wp2_with fail
    go_ret2
    exact ⟨by rw [HE.out]; rfl, Bl.tr (by go_grown) hb⟩
  | some a =>
    have H0 := Lib.hid (show (V d false).isSome = true by rw [e0]; rfl)
    obtain ⟨a1, a2⟩ := hv false a e0
    cases e1 : V d true with
    | none =>
      have H1 := Lib.hid (show (V d true).isSome = false by rw [e1]; rfl)
      have HE := Lib.hid (show encO (offV V d) = .tuple #[.int .i64 0, .bool false] by simp [offV, e0, e1, encO])
      clear e0 e1 hv
      go_enter Try.func65, Try.ntmps65
      go_wp2_with fail
      refine (has_any B k V d false _ (HR.out.below (by go_grown)) HD.out).mono ?_
      rintro q1 w1 ⟨rfl, hb⟩
      rw [H0.out]
      have x0 := kcb hb (b := w.heap.size + 1) (o := 0) (v := .int .i64 d) (by go_cell)
      have x1 := kcb hb (b := w.heap.size + 1) (o := 1) (v := .bool true) (by go_cell)
      have B1 : Bl w w1 := Bl.tr (by go_grown) hb
      have l1 := ltb x0
      clear hb
      go_wp2_with fail
      refine (has_any B k V d true _ (HR.out.below B1) HD.out).mono ?_
      rintro q2 w2 ⟨rfl, hb⟩
      rw [H1.out]
      go_wp2_with fail
      go_ret2
      exact ⟨by rw [HE.out]; rfl, B1.tr hb⟩
    | some b =>
      have H1 := Lib.hid (show (V d true).isSome = true by rw [e1]; rfl)
      obtain ⟨b1, b2⟩ := hv true b e1
      have HE := Lib.hid (show encO (offV V d) = .tuple #[.int .i64 (b - a), .bool true] by simp [offV, e0, e1, encO])
      have HG0 := Lib.hid (show (V d false).getD 0 = a by rw [e0]; rfl)
      have HG1 := Lib.hid (show (V d true).getD 0 = b by rw [e1]; rfl)
      have k1 : IntKind.i64.wrap (b - a) = b - a := IntWalk.i64_in _ (by omega)
      have k2 : wrap64 (b - a) = b - a := IntWalk.wrap64_in _ (by omega)
      clear e0 e1 hv
      go_enter Try.func65, Try.ntmps65
      go_wp2_with fail
      refine (has_any B k V d false _ (HR.out.below (by go_grown)) HD.out).mono ?_
      rintro q1 w1 ⟨rfl, hb⟩
      rw [H0.out]
      have y0 := kcb hb (b := w.heap.size) (o := 0) (v := .int .i64 d) (by go_cell)
      have y1 := kcb hb (b := w.heap.size) (o := 1) (v := .bool false) (by go_cell)
      have x0 := kcb hb (b := w.heap.size + 1) (o := 0) (v := .int .i64 d) (by go_cell)
      have x1 := kcb hb (b := w.heap.size + 1) (o := 1) (v := .bool true) (by go_cell)
      have B1 : Bl w w1 := Bl.tr (by go_grown) hb
      have l1 := ltb x0
      have l0 := ltb y0
      clear hb
      go_wp2_with fail
      refine (has_any B k V d true _ (HR.out.below B1) HD.out).mono ?_
      rintro q2 w2 ⟨rfl, hb⟩
      rw [H1.out]
      have x0 := kcb hb x0
      have x1 := kcb hb x1
      have y0 := kcb hb y0
      have y1 := kcb hb y1
      have l1 := ltb x0
      have l0 := ltb y0
      have B2 := B1.tr hb
      have L1 : ∀ N, (Instr.lookup 84 (.map (some B)) (slotV d true) false).run Try.prog (w2.drewN N) = .ok (.int .i64 b) (w2.drewN N) := fun N => ((HR.out.below B2).below (bl_dn _ N)).run_at HD.out HG1.out
      have L0 : ∀ N, (Instr.lookup 84 (.map (some B)) (slotV d false) false).run Try.prog (w2.drewN N) = .ok (.int .i64 a) (w2.drewN N) := fun N => ((HR.out.below B2).below (bl_dn _ N)).run_at HD.out HG0.out
      clear hb
      go_wp2_with fail
      go_quiet (fail)
      go_wp2_with fail
      go_ret2
      exact ⟨by rw [HE.out]; rfl, B2.tr (bl_dn _ _)⟩
set_option maxRecDepth 100000 in
set_option maxHeartbeats 3200000 in
theorem offOf_any (A : Option Addr) (n c : Nat) (L : Nat → En) (d : Int) (w : World) (hA : El w A n L) (hn : n ≤ maxLen) (hd : rng d) :
    Calls Try.prog 28 #[.slice A n c, .int .i64 d] w fun e w' => e = .returned (encP (offP L n d)) ∧ Bl w w' := by
  have HC := Lib.hid (fun (X : World) (hb : Bl w X) => recordOf_any A n c L X (hA.below hb) hn)
  have HD := Lib.hid hd
  clear hA hd
  go_enter Try.func28, Try.ntmps28
  go_wp2_with fail
  refine (HC.out _ (by first | exact Bl.rf _ | go_grown)).mono ?_
  rintro e1 w1 ⟨B1, ⟨hv, rfl⟩ | ⟨hv, B, rfl, hBl, hR⟩⟩
  · have HE := Lib.hid (show offP L n d = (0, 1) from err_inv hv)
    clear hv
    go_wp2_with fail
    go_ret2
    exact ⟨by rw [HE.out]; rfl, B1⟩
  · have HR := Lib.hid hR
    have HV := Lib.hid hv
    have HB := Lib.hid (fun f x (h : lst L d f n = some x) => lst_bd (vl_iff.1 hv).2 h)
    clear hR hv hBl
    cases hq : dayB d with
    | false =>
      have HQ := Lib.hid hq
      have HE := Lib.hid (show offP L n d = (0, 7) from err_rng HV.out hq)
      clear hq
      go_wp2_with fail
      refine (isDay_any d _).mono ?_
      rintro e2 w2 ⟨rfl, rfl⟩
      rw [HQ.out]
      go_wp2_with fail
      go_ret2
      exact ⟨by rw [HE.out]; rfl, B1⟩
    | true =>
      have HQ := Lib.hid hq
      clear hq
      cases hs : offO L n d with
      | none =>
        have HS := Lib.hid (show encO (offV (fun d f => lst L d f n) d) = .tuple #[.int .i64 0, .bool false] by rw [offV_off, hs]; rfl)
        have HE := Lib.hid (show offP L n d = (0, 8) by rw [offP, hs]; exact err_none HV.out HQ.out)
        clear hs
        go_wp2_with fail
        refine (isDay_any d _).mono ?_
        rintro e2 w2 ⟨rfl, rfl⟩
        rw [HQ.out]
        go_wp2_with fail
        refine (off_any B n _ d _ HR.out HD.out HB.out).mono ?_
        rintro e3 w3 ⟨rfl, hb⟩
        rw [HS.out]
        go_wp2_with fail
        go_ret2
        exact ⟨by rw [HE.out]; rfl, B1.tr hb⟩
      | some x =>
        have HS := Lib.hid (show encO (offV (fun d f => lst L d f n) d) = .tuple #[.int .i64 x, .bool true] by rw [offV_off, hs]; rfl)
        have HE := Lib.hid (show offP L n d = (x, 0) by rw [offP, hs]; exact err_some HV.out HQ.out)
        clear hs
        go_wp2_with fail
        refine (isDay_any d _).mono ?_
        rintro e2 w2 ⟨rfl, rfl⟩
        rw [HQ.out]
        go_wp2_with fail
        refine (off_any B n _ d _ HR.out HD.out HB.out).mono ?_
        rintro e3 w3 ⟨rfl, hb⟩
        rw [HS.out]
        go_wp2_with fail
        go_ret2
        exact ⟨by rw [HE.out]; rfl, B1.tr hb⟩
end Go.Proofs.Ytbmenpfpeadckaa
