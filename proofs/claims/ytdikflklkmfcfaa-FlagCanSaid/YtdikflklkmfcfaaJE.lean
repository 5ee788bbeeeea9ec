/-
  The reference's set, Hoists, With and Missed.
-/
import Derived.Test.YtdikflklkmfcfaaJC
import Derived.Test.YtdikflklkmfcfaaJA
namespace Go.Proofs.Ytdikflklkmfcfaa
open Go.RowKit
set_option linter.unusedSimpArgs false
set_option linter.unusedVariables false

theorem hst_no {n : Nat} {D : Nat → Int} {L : Int} (hL : ckV n D L = 0) : vdB n D = true ∧ ∃ l : Nat, L = l ∧ l < 8192 := by
  unfold ckV at hL
  split at hL
  · rename_i hv
    split at hL
    · rename_i hi
      have := inB_iff.1 hi
      exact ⟨hv, L.toNat, by omega, by omega⟩
    · omega
  · omega
theorem rset7_any (n : Int) (w : World) : Calls Try.prog 24 #[.int .i64 n] w fun e w' => e = .returned (.bool (inB n 0 8191)) ∧ w = w' := by
  by_cases h0 : 0 ≤ n
  · by_cases h1 : n < 8192
    · go_enter Try.func24, Try.ntmps24
      go_wp2_with fail
      go_ret
      exact ⟨ret_bool (inB_iff.2 (by omega)).symm, rfl⟩
    · go_enter Try.func24, Try.ntmps24
      go_wp2_with fail
      go_ret
      exact ⟨ret_bool (by rw [eq_comm, Bool.eq_false_iff]; intro h; have := inB_iff.1 h; omega), rfl⟩
  · go_enter Try.func24, Try.ntmps24
    go_wp2_with fail
    go_ret
    exact ⟨ret_bool (by rw [eq_comm, Bool.eq_false_iff]; intro h; have := inB_iff.1 h; omega), rfl⟩
theorem rhoistsF_no (A : Option Addr) (n c : Nat) (D : Nat → Int) (L : Int) (w : World) (hn : n ≤ c ∧ c ≤ maxLen) (hA : Sl w A n D) (hck : ckV n D L ≠ 0) :
    Calls Try.prog 7 #[.slice A n c, .int .i64 L] w fun e w' => e = .returned (.tuple #[.slice none 0 0, .int .i64 (ckV n D L)]) ∧ w = w' := by
  have HA := Lib.hid hA
  have HN := Lib.hid (Nat.le_trans hn.1 hn.2)
  clear hA hn
  cases hv : vdB n D with
  | false =>
    have HV := Lib.hid hv
    have HR := Lib.hid (show ckV n D L = 1 by rw [ckV, hv]; rfl)
    clear hv hck
    go_enter Try.func7, Try.ntmps7
    go_wp2_with fail
    refine (rvalidDigits_any A n c D _ HN.out HA.out).mono ?_
    rintro e w1 ⟨rfl, rfl⟩
    rw [HV.out]
    go_wp2_with fail
    go_ret2
    exact ⟨by rw [HR.out]; rfl, rfl⟩
  | true =>
    have HV := Lib.hid hv
    have hi : inB L 0 8191 = false := by
      cases h : inB L 0 8191 with
      | false => rfl
      | true => exact absurd (by rw [ckV, hv, h]; rfl) hck
    have HI := Lib.hid hi
    have HR := Lib.hid (show ckV n D L = 7 by rw [ckV, hv, hi]; rfl)
    clear hv hck hi
    go_enter Try.func7, Try.ntmps7
    go_wp2_with fail
    refine (rvalidDigits_any A n c D _ HN.out HA.out).mono ?_
    rintro e w1 ⟨rfl, rfl⟩
    rw [HV.out]
    go_wp2_with fail
    refine (rset7_any L _).mono ?_
    rintro e w1 ⟨rfl, rfl⟩
    rw [HI.out]
    go_wp2_with fail
    go_ret2
    exact ⟨by rw [HR.out]; rfl, rfl⟩
theorem rhoistsF_yes (A : Option Addr) (n c : Nat) (D : Nat → Int) (L : Nat) (w : World) (hn : n ≤ c ∧ c ≤ maxLen) (hA : Sl w A n D) (hv : vdB n D = true) (hL : L < 8192) :
    Calls Try.prog 7 #[.slice A n c, .int .i64 (L : Int)] w fun e w' => ∃ B cap els, e = .returned (.tuple #[.slice B els.length cap, .int .i64 0]) ∧ els.map Prod.snd = hstL n D L ∧ RR w.heap.size els (.slice B els.length cap) w' ∧ els.length ≤ cap ∧ cap ≤ maxLen ∧ Bl w w' := by
  have HA := Lib.hid hA
  have HN := Lib.hid hn
  have HV := Lib.hid hv
  have HI := Lib.hid (show inB (L : Int) 0 8191 = true from inB_iff.2 (by omega))
  have HT := Lib.hid (hst_itr (L := L) hv)
  clear hA hn hv
  go_enter Try.func7, Try.ntmps7
  go_wp2_with fail
  refine (rvalidDigits_any A n c D _ (Nat.le_trans HN.out.1 HN.out.2) HA.out).mono ?_
  rintro e w1 ⟨rfl, rfl⟩
  rw [HV.out]
  go_wp2_with fail
  refine (rset7_any (L : Int) _).mono ?_
  rintro e w1 ⟨rfl, rfl⟩
  rw [HI.out]
  go_wp2_with fail
  refine (rhoists_any A n c D L _ HN.out HA.out HV.out hL).mono ?_
  rintro e w1 ⟨v, els, rfl, hels, hrr, hb⟩
  obtain ⟨B, cap, rfl, h1, h2, -⟩ := row_shape hrr.1
  have H1 := Lib.hid hels
  have H2 := Lib.hid hrr
  have H3 := Lib.hid hb
  have H4 := Lib.hid (And.intro h1 h2)
  clear hels hrr hb h1 h2
  go_wp2_with fail
  go_ret2
  exact ⟨B, cap, els, rfl, by rw [H1.out, HT.out], H2.out, H4.out.1, H4.out.2, H3.out⟩
theorem rwith_no (A : Option Addr) (n c : Nat) (D : Nat → Int) (L : Int) (w : World) (hn : n ≤ c ∧ c ≤ maxLen) (hA : Sl w A n D) (hck : ckV n D L ≠ 0) :
    Calls Try.prog 9 #[.slice A n c, .int .i64 L] w fun e w' => e = .returned (.tuple #[.slice none 0 0, .int .i64 (ckV n D L)]) ∧ w = w' := by
  have H := rhoistsF_no A n c D L w hn hA hck
  obtain ⟨v, hv⟩ : ∃ v, v = ckV n D L := ⟨_, rfl⟩
  rw [← hv] at H hck ⊢
  have hne : (v != 0) = true := by simp [hck]
  have HH := Lib.hid H
  clear hck H hv
  go_enter Try.func9, Try.ntmps9
  go_wp2_with fail
  refine HH.out.mono ?_
  rintro e w1 ⟨rfl, rfl⟩
  go_wp2_with fail
  go_ret2
  exact ⟨rfl, rfl⟩
/-- What the reference's With returns of such a list. -/
def RWith (t : List (List Nat)) (w : World) (e : Ending) (w' : World) : Prop :=
  Bl w w' ∧ ((t = [] ∧ e = .returned (.tuple #[.slice none 0 0, .int .i64 10])) ∨
    (∃ h r v, t = h :: r ∧ e = .returned (.tuple #[v, .int .i64 0]) ∧ w'.ownsRow w.heap.size 3 1 v h.length (inN h)))
set_option maxHeartbeats 1600000 in
theorem rwith_yes (A : Option Addr) (n c : Nat) (D : Nat → Int) (L : Nat) (w : World) (hn : n ≤ c ∧ c ≤ maxLen) (hA : Sl w A n D) (hv : vdB n D = true) (hL : L < 8192) :
    Calls Try.prog 9 #[.slice A n c, .int .i64 (L : Int)] w (RWith (hstL n D L) w) := by
  have HH := Lib.hid (rhoistsF_yes A n c D L w hn hA hv hL)
  clear hA hn hv
  go_enter Try.func9, Try.ntmps9
  go_wp2_with fail
  refine HH.out.mono ?_
  rintro e w1 ⟨B, cap, els, rfl, hels, hrr, hc1, hc2, hb⟩
  have HE := Lib.hid hels
  have HB := Lib.hid hb
  have HC := Lib.hid (And.intro hc1 hc2)
  cases els with
  | nil =>
    clear hels hrr hb hc1 hc2
    go_wp2_with fail
    go_ret2
    exact ⟨HB.out, .inl ⟨HE.out.symm, rfl⟩⟩
  | cons el els =>
    obtain ⟨v, h⟩ := el
    have hx := hrr.2 (v, h) (by simp)
    obtain ⟨A2, cap2, e2, -, -, hcl⟩ := row_shape hrr.1
    injection e2 with e21 e22 e23
    subst e21 e23
    obtain ⟨g, rfl, hg, hcell⟩ := hcl 0 (by simp)
    have c0 : w1.cell? ⟨g, 0, none⟩ = some v := hcell
    have HX := Lib.hid hx.1
    have hl : (0 : Int) < ((els.length + 1 : Nat) : Int) := by omega
    have hl2 : els.length + 1 ≤ 9223372036854775807 := by have h := HC.out; unfold maxLen at h; simp at h; omega
    clear hels hrr hb hc1 hc2 hcl hcell hx
    simp only [List.length_cons]
    go_wp2_with fail
    all_goals first | omega | skip
    go_ret2
    exact ⟨HB.out, .inr ⟨h, els.map Prod.snd, v, HE.out.symm, rfl, HX.out⟩⟩
end Go.Proofs.Ytdikflklkmfcfaa
