/-
  Package ledger: Letters and Fine of both.
-/
import Derived.Test.YtbmenpfpeadckaaMG
namespace Go.Proofs.Ytbmenpfpeadckaa
open Go.RowKit Go.Maps Go.Shelf
set_option linter.unusedSimpArgs false
set_option linter.unusedVariables false

theorem sel_mem {L : Nat → En} {n : Nat} (hv : vlB L n = true) {P : Int → Int → Bool} {d : Int} (h : selB (vL L n) P d = true) : ∃ x, offO L n d = some x ∧ P d x = true ∧ -172800000 ≤ x ∧ x ≤ 172800000 := by
  unfold selB at h
  cases q : offV (vL L n) d with
  | none => rw [q] at h; cases h
  | some x => rw [q] at h; exact ⟨x, q, h, off_bd (vl_iff.1 hv).2 (show offO L n d = some x from q)⟩
theorem pick_mem {L : Nat → En} {n : Nat} (hv : vlB L n = true) {P : Int → Int → Bool} {d : Int} (hd : d ∈ pickF L n P) : (0 ≤ d ∧ d ≤ 182985) ∧ ∃ x, offO L n d = some x ∧ -172800000 ≤ x ∧ x ≤ 172800000 := by
  obtain ⟨h1, h2⟩ := List.mem_filter.1 hd
  obtain ⟨x, e, -, hb⟩ := sel_mem hv h2
  exact ⟨dys_rng hv h1, x, e, hb⟩
theorem sel_at {L : Nat → En} {n : Nat} {P : Int → Int → Bool} {d x : Int} (h : offO L n d = some x) : selB (vL L n) P d = P d x := by
  unfold selB
  rw [show offV (vL L n) d = some x from h]
theorem pick_pick (L : Nat → En) (n : Nat) (P : Int → Int → Bool) : (pickF L n mallP).filter (selB (vL L n) P) = pickF L n P := by
  unfold pickF
  rw [List.filter_filter]
  refine List.filter_congr fun d _ => ?_
  rw [selB_all]
  unfold selB
  cases offV (vL L n) d <;> simp
/-- The first error of a ledger and a bound. -/
def lC (L : Nat → En) (n : Nat) (m : Int) : Int := if vlB L n = true then (if bndB m = true then 0 else 7) else 1
set_option maxHeartbeats 400000 in
theorem rabs_any (x : Int) (w : World) (hx : -172800000 ≤ x ∧ x ≤ 172800000) : Calls Try.prog 32 #[.int .i64 x] w fun e w' => e = .returned (.int .i64 (absI x)) ∧ w' = w := by
  have e1 : wrap64 (-x) = -x := IntWalk.wrap64_in _ (by omega)
  have e2 : IntKind.i64.wrap (-x) = -x := IntWalk.i64_in _ (by omega)
  by_cases h : x < 0
  · have HA := Lib.hid (show absI x = -x by unfold absI; omega)
    go_enter Try.func32, Try.ntmps32
    go_wp2_with fail
    go_ret
    exact ⟨by rw [HA.out]; first | rfl | simp [e1, e2], rfl⟩
  · have HA := Lib.hid (show absI x = x by unfold absI; omega)
    go_enter Try.func32, Try.ntmps32
    go_wp2_with fail
    go_ret
    exact ⟨by rw [HA.out]; rfl, rfl⟩
theorem lC_1 {L : Nat → En} {n : Nat} {m : Int} (h : vlB L n = false) : lC L n m = 1 := by rw [lC, if_neg (by rw [h]; decide)]
theorem lC_7 {L : Nat → En} {n : Nat} {m : Int} (h : vlB L n = true) (hb : bndB m = false) : lC L n m = 7 := by rw [lC, if_pos h, if_neg (by rw [hb]; decide)]
theorem lC_0 {L : Nat → En} {n : Nat} {m : Int} (h : vlB L n = true) (hb : bndB m = true) : lC L n m = 0 := by rw [lC, if_pos h, if_pos hb]
set_option maxRecDepth 100000 in
set_option maxHeartbeats 3200000 in
theorem letters_any (A : Option Addr) (n c : Nat) (L : Nat → En) (m : Int) (w : World) (hA : El w A n L) (hn : n ≤ maxLen) :
    Calls Try.prog 29 #[.slice A n c, .int .i64 m] w (IntPost (lC L n m) (pickF L n (mletterP m)) w) := by
  have HR := Lib.hid (fun (X : World) (hb : Bl w X) => recordOf_any A n c L X (hA.below hb) hn)
  clear hA hn
  cases hv : vlB L n with
  | false =>
    have HV := Lib.hid hv
    have HC := Lib.hid (lC_1 (m := m) hv)
    clear hv
    go_enter Try.func29, Try.ntmps29
    go_wp2_with fail
    refine (HR.out _ (by go_grown)).mono ?_
    rintro e1 w1 ⟨hb, ⟨-, rfl⟩ | ⟨h0, _⟩⟩
    · have B1 := Lib.hid (show Bl w w1 from Bl.tr (by go_grown) hb)
      clear hb
      go_wp2_with fail
      go_ret2
      exact ⟨B1.out, .inl ⟨by rw [HC.out]; decide, by rw [HC.out]; rfl⟩⟩
    · rw [HV.out] at h0; cases h0
  | true =>
    have HV := Lib.hid hv
    have HC0 := Lib.hid (fun (h : bndB m = true) => lC_0 hv h)
    have HC7 := Lib.hid (fun (h : bndB m = false) => lC_7 hv h)
    clear hv
    go_enter Try.func29, Try.ntmps29
    go_wp2_with fail
    refine (HR.out _ (by go_grown)).mono ?_
    rintro e1 w1 ⟨hb, ⟨h0, _⟩ | ⟨-, B, rfl, hB, hR⟩⟩
    · rw [HV.out] at h0; cases h0
    · have B1 := Lib.hid (show Bl w w1 from Bl.tr (by go_grown) hb)
      have RR := Lib.hid hR
      have z1 := B1.out.size
      have x0 := kcb hb (b := w.heap.size) (o := 0) (v := .int .i64 m) (by go_cell)
      have lx := ltb x0
      clear hb hR
      go_wp2_with fail
      refine (isBound_any m _).mono ?_
      rintro e4 w4 ⟨rfl, rfl⟩
      cases hb : bndB m with
      | false =>
        have HC := Lib.hid (HC7.out hb)
        clear hb
        go_wp2_with fail
        go_ret2
        exact ⟨B1.out, .inl ⟨by rw [HC.out]; decide, by rw [HC.out]; rfl⟩⟩
      | true =>
        have HC := Lib.hid (HC0.out hb)
        clear hb
        go_wp2_with fail
        refine (offsR_any B 67 #[.pointer (some ⟨w.heap.size, 0, none⟩)] _).mono ?_
        rintro e2 w2 ⟨rfl, ⟨h1, h2⟩, hb⟩
        have B2 := Lib.hid (B1.out.tr hb)
        have RR2 := Lib.hid (RR.out.below hb)
        have x0 := kcb hb x0
        have HS := Lib.hid (offs2_seq _ _ B n w.heap.size m L w2 HV.out h1 h2 RR2.out x0)
        have HK := Lib.hid (show ∀ k, (k = w1.heap.size ∨ k = w1.heap.size + 1 ∨ k = B ∨ k = w.heap.size) → k < w2.heap.size by
          have l1 := ltb h1
          have l2 := ltb h2
          have l3 := RR2.out.lt
          have l4 := ltb x0
          rintro k (rfl | rfl | rfl | rfl) <;> omega)
        clear hb h1 h2
        go_wp2_with fail
        refine (daysOf_any w2 HK.out HS.out).mono ?_
        rintro e3 w3 ⟨⟨v, xs, rfl, hxs, hown, hlen⟩, hb⟩
        have z2 := B2.out.size
        have B3 := Lib.hid (B2.out.tr hb)
        have HO := Lib.hid (show w3.ownsRow w.heap.size 3 1 v (pickF L n (mletterP m)).length (intL (pickF L n (mletterP m))) by
          rw [← oL_pick HV.out (mletterP m), ← hxs, List.length_map]
          exact own_mono hown z2)
        clear hb hown hxs hlen
        go_wp2_with fail
        go_ret2
        exact ⟨B3.out, .inr ⟨HC.out, v, rfl, HO.out⟩⟩