/-
  Package ledger: Days; what a function that returns days returns.
-/
import Derived.Test.YtbmenpfpeadckaaMD
namespace Go.Proofs.Ytbmenpfpeadckaa
open Go.RowKit Go.Maps Go.Shelf
set_option linter.unusedSimpArgs false
set_option linter.unusedVariables false

/-- Whether a day has an off that is asked for. -/
def selB (V : Int → Bool → Option Int) (P : Int → Int → Bool) (d : Int) : Bool :=
  match offV V d with
  | some o => P d o
  | none => false
theorem oL_days {V : Int → Bool → Option Int} {P : Int → Int → Bool} {l : List Int} (h : ∀ d, d ∈ l → 0 ≤ d ∧ d ≤ 182985) (hb : ∀ d o, offV V d = some o → -172800000 ≤ o ∧ o ≤ 172800000) : (oL V P l).map dayD = l.filter (selB V P) := by
  induction l with
  | nil => rfl
  | cons d l ih =>
    have hd := h d (by simp)
    rw [oL, List.map_append, ih (fun x hx => h x (by simp [hx])), List.filter_cons]
    cases q : offV V d with
    | none => simp [selD, selB, q]
    | some o =>
      have ho := hb d o q
      cases p : P d o with
      | false => simp [selD, selB, q, p]
      | true =>
        have : dayD (toDO d o) = d := by unfold dayD; rw [toDO_at ⟨hd.1, hd.2, ho.1, ho.2⟩]
        simp [selD, selB, q, p, this]
theorem dys_rng {L : Nat → En} {n : Nat} (hv : vlB L n = true) {d : Int} (hd : d ∈ dysOf L n) : 0 ≤ d ∧ d ≤ 182985 := by
  obtain ⟨j, hj, e⟩ := dys_mem.1 hd
  have := en_iff.1 ((vl_iff.1 hv).2 j hj)
  rw [← e]; omega
/-- The days of a ledger that are asked for. -/
def pickF (L : Nat → En) (n : Nat) (P : Int → Int → Bool) : List Int := (dysOf L n).filter (selB (vL L n) P)
theorem oL_pick {L : Nat → En} {n : Nat} (hv : vlB L n = true) (P : Int → Int → Bool) : (oL (vL L n) P (dysOf L n)).map dayD = pickF L n P :=
  oL_days (fun d hd => dys_rng hv hd) (fun d o h => off_bd (vl_iff.1 hv).2 (show offO L n d = some o from h))
theorem pick_len (L : Nat → En) (n : Nat) (P : Int → Int → Bool) : (pickF L n P).length ≤ n := Nat.le_trans (List.length_filter_le _ _) (dys_len L n)
/-- What is returned by a function that returns numbers and an error. -/
def IntPost (C : Int) (F : List Int) (w : World) (e : Ending) (w' : World) : Prop :=
  Bl w w' ∧ ((C ≠ 0 ∧ e = .returned (.tuple #[.slice none 0 0, .int .i64 C])) ∨ (C = 0 ∧ ∃ v, e = .returned (.tuple #[v, .int .i64 0]) ∧ w'.ownsRow w.heap.size 3 1 v F.length (intL F)))
def numL (C : Int) (F : List Int) : List Int := if C = 0 then F else []
theorem IntPost.any {C : Int} {F : List Int} {w : World} {e : Ending} {w' : World} (h : IntPost C F w e w') : Bl w w' ∧ ∃ A c, e = .returned (.tuple #[.slice A (numL C F).length c, .int .i64 C]) ∧ (numL C F).length ≤ maxLen ∧ Sl w' A (numL C F).length (fun j => (numL C F).getD j 0) := by
  obtain ⟨hb, ⟨hne, h1⟩ | ⟨h0, v, h1, h2⟩⟩ := h
  · rw [numL, if_neg hne]; exact ⟨hb, none, 0, h1, Nat.zero_le _, fun h => absurd h (by simp)⟩
  · subst h0
    obtain ⟨A, c, rfl, p1, p2, p3, -⟩ := isL_of_own rfl h2
    rw [numL, if_pos rfl]
    exact ⟨hb, A, c, h1, Nat.le_trans p1 p2, p3⟩
set_option maxHeartbeats 800000 in
theorem offsR_any (B g : Nat) (lb : Array Value) (w : World) :
    Calls Try.prog 62 #[.map (some B), .func (.func g) #[] lb] w fun e w' => e = .returned (.func (.func 101) #[] #[.pointer (some ⟨w.heap.size, 0, none⟩), .pointer (some ⟨w.heap.size + 1, 0, none⟩)]) ∧ (w'.cell? ⟨w.heap.size, 0, none⟩ = some (.map (some B)) ∧ w'.cell? ⟨w.heap.size + 1, 0, none⟩ = some (.func (.func g) #[] lb)) ∧ Bl w w' := by
  go_enter Try.func62, Try.ntmps62
  go_wp2_with fail
  go_ret
  exact ⟨rfl, ⟨by go_cell, by go_cell⟩, by go_grown⟩
def vC (L : Nat → En) (n : Nat) : Int := if vlB L n = true then 0 else 1
set_option maxRecDepth 100000 in
set_option maxHeartbeats 3200000 in
theorem days9_any (A : Option Addr) (n c : Nat) (L : Nat → En) (w : World) (hA : El w A n L) (hn : n ≤ maxLen) :
    Calls Try.prog 27 #[.slice A n c] w (IntPost (vC L n) (pickF L n mallP) w) := by
  have HR := Lib.hid (fun (X : World) (hb : Bl w X) => recordOf_any A n c L X (hA.below hb) hn)
  clear hA hn
  cases hv : vlB L n with
  | false =>
    have HV := Lib.hid hv
    have HC := Lib.hid (show vC L n = 1 by rw [vC, if_neg (by rw [hv]; decide)])
    clear hv
    go_enter Try.func27, Try.ntmps27
    go_wp2_with fail
    refine (HR.out _ (by go_grown)).mono ?_
    rintro e1 w1 ⟨hb, ⟨-, rfl⟩ | ⟨h0, _⟩⟩
    · have B1 := Lib.hid (show Bl w w1 from Bl.tr (by go_grown) hb)
      clear hb
      go_wp2_with fail
      go_ret2
      exact ⟨B1.out, .inl ⟨by rw [HC.out]; decide, by rw [HC.out]; rfl⟩⟩
    · rw [HV.out] at h0; cases h0
  | true =>
    have HV := Lib.hid hv
    have HC := Lib.hid (show vC L n = 0 by rw [vC, if_pos hv])
    clear hv
    go_enter Try.func27, Try.ntmps27
    go_wp2_with fail
    refine (HR.out _ (by go_grown)).mono ?_
    rintro e1 w1 ⟨hb, ⟨h0, _⟩ | ⟨-, B, rfl, hB, hR⟩⟩
    · rw [HV.out] at h0; cases h0
    · have B1 := Lib.hid (show Bl w w1 from Bl.tr (by go_grown) hb)
      have RR := Lib.hid hR
      have z1 := B1.out.size
      clear hb hR
      go_wp2_with fail
      refine (offsR_any B 63 #[] _).mono ?_
      rintro e2 w2 ⟨rfl, ⟨h1, h2⟩, hb⟩
      have B2 := Lib.hid (B1.out.tr hb)
      have RR2 := Lib.hid (RR.out.below hb)
      have HS := Lib.hid (offs0_seq w1.heap.size (w1.heap.size + 1) B n L w2 HV.out h1 h2 RR2.out)
      have HK := Lib.hid (show ∀ k, (k = w1.heap.size ∨ k = w1.heap.size + 1 ∨ k = B) → k < w2.heap.size by
        have l1 := ltb h1
        have l2 := ltb h2
        have l3 := RR2.out.lt
        rintro k (rfl | rfl | rfl) <;> omega)
      clear hb h1 h2
      go_wp2_with fail
      refine (daysOf_any w2 HK.out HS.out).mono ?_
      rintro e3 w3 ⟨⟨v, xs, rfl, hxs, hown, hlen⟩, hb⟩
      have z2 := B2.out.size
      have B3 := Lib.hid (B2.out.tr hb)
      have HO := Lib.hid (show w3.ownsRow w.heap.size 3 1 v (pickF L n mallP).length (intL (pickF L n mallP)) by
        rw [← oL_pick HV.out mallP, ← hxs, List.length_map]
        exact own_mono hown z2)
      clear hb hown hxs hlen
      go_wp2_with fail
      go_ret2
      exact ⟨B3.out, .inr ⟨HC.out, v, rfl, HO.out⟩⟩
end Go.Proofs.Ytbmenpfpeadckaa
