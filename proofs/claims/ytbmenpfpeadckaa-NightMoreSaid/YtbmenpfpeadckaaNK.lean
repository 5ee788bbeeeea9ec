/-
  Contracts of package night: Best; the document's example.
-/
import Derived.Test.YtbmenpfpeadckaaNJ
namespace Go.Proofs.Ytbmenpfpeadckaa
open Go.RowKit
set_option linter.unusedSimpArgs false
set_option linter.unusedVariables false

theorem vd_len {L : Nat → Ch} {n : Nat} (h : vdB L n = true) : n ≤ 20 := by
  rcases Nat.eq_zero_or_pos n with e | e
  · omega
  · have := (ms_vc (vd_at h (k := n - 1) (by omega))).1
    omega
theorem clrL_inx (S : Nat → Sp2) (m : Nat) (L : Nat → Ch) (k : Nat) : inx k (clrL S m L k) := by
  induction k with
  | zero => intro i hi; simp [clrL] at hi
  | succ k ih =>
    intro i hi
    unfold clrL at hi
    split at hi
    · rcases List.mem_append.1 hi with q | q
      · have := ih i q; omega
      · simp at q; omega
    · have := ih i hi; omega
def bestL (L : Nat → Ch) (n : Nat) (S : Nat → Sp2) (m : Nat) (per : Int) : List Int := (stF (fun j i => flw (L j.toNat) (L i.toNat) per) (cmpL L) (fun k => (clrL S m L n).getD k 0) (clrL S m L n).length).b
theorem chk_ok {L : Nat → Ch} {n : Nat} {S : Nat → Sp2} {m : Nat} {per : Int} (h : chkN L n S m per = 0) : vdB L n = true ∧ cldB S m = true ∧ 0 ≤ per ∧ per ≤ 10000 := by
  unfold chkN at h
  split at h
  · rename_i h1
    split at h
    · rename_i h2
      simp only [Bool.and_eq_true] at h1
      exact ⟨h1.1, h1.2, (inB_iff.1 h2).1, (inB_iff.1 h2).2⟩
    · omega
  · omega
/-- What Best returns. -/
def BestPost (L : Nat → Ch) (n : Nat) (S : Nat → Sp2) (m : Nat) (per : Int) (w : World) (e : Ending) (w' : World) : Prop :=
  Bl w w' ∧ ((chkN L n S m per ≠ 0 ∧ e = .returned (.tuple #[.slice none 0 0, .int .i64 (chkN L n S m per)])) ∨ (chkN L n S m per = 0 ∧ ∃ v, e = .returned (.tuple #[v, .int .i64 0]) ∧ IsL w' w.heap.size v (bestL L n S m per)))
set_option maxRecDepth 100000 in
set_option maxHeartbeats 3200000 in
theorem best_any (A : Option Addr) (n c : Nat) (L : Nat → Ch) (B : Option Addr) (m d : Nat) (S : Nat → Sp2) (per : Int) (w : World) (hA : Chl w A n L) (hS : ∀ j, j < n → (L j).nm.size ≤ maxLen) (hn : n ≤ c) (hc : c ≤ maxLen) (hB : Spl w B m S) (hm : m ≤ maxLen) :
    Calls Try.prog 10 #[.slice A n c, .slice B m d, .int .i64 per] w (BestPost L n S m per w) := by
  have HK := Lib.hid (checkN_any A n c L B m d S per w hA hS hn hc hB hm)
  have HA := Lib.hid hA
  have HBS := Lib.hid hB
  have HM := Lib.hid hm
  clear hA hB
  by_cases h : chkN L n S m per = 0
  · obtain ⟨v1, v2, v3⟩ := chk_ok h
    have hn20 := vd_len v1
    have HV := Lib.hid (fun j (hj : j < n) => (ms_vc (vd_at v1 hj)).2)
    have HP := Lib.hid v3
    have HIX := Lib.hid (clrL_inx S m L n)
    have hlen := clrL_len S m L n
    have H0 := Lib.hid h
    have hq : ((0 : Int) != 0) = false := rfl
    clear v1 v2 v3 h hS
    go_enter Try.func10, Try.ntmps10
    go_wp2_with fail
    refine (HK.out).mono ?_
    rintro e1 w1 ⟨rfl, hb⟩
    rw [H0.out]
    have B1 := Lib.hid hb
    clear hb
    go_wp2_with fail
    refine (clearOf_any A n c L B m d S _ (HA.out.below B1.out) hn20 (HBS.out.below B1.out) HM.out).mono ?_
    rintro e2 w2 ⟨hb, v, rfl, hown⟩
    have HL := Lib.hid (isL_of_own rfl hown)
    have B2 := Lib.hid (B1.out.tr hb)
    have z2 := B2.out.size
    clear hb hown
    go_wp2_with fail
    refine (firstN_any A n c L v (clrL S m L n) per _ _ (HA.out.below B2.out) hn20 HV.out HP.out HL.out HIX.out (by omega)).mono ?_
    rintro e3 w3 ⟨hb, u, rfl, hu⟩
    have HU := Lib.hid hu
    have B3 := Lib.hid (B2.out.tr hb)
    clear hb hu
    go_wp2_with fail
    go_ret2
    exact ⟨B3.out, .inr ⟨H0.out, u, rfl, HU.out.mono z2⟩⟩
  · have HN := Lib.hid h
    have hq : (chkN L n S m per != 0) = true := by simp [h]
    clear h
    go_enter Try.func10, Try.ntmps10
    go_wp2_with fail
    refine (HK.out).mono ?_
    rintro e1 w1 ⟨rfl, hb⟩
    have B1 := Lib.hid hb
    clear hb
    go_wp2_with fail
    go_ret2
    exact ⟨B1.out, .inl ⟨HN.out, rfl⟩⟩
def exL (j : Nat) : Ch := if j = 0 then ⟨⟨#[97]⟩, 0, 100, 0, 5⟩ else if j = 1 then ⟨⟨#[98]⟩, 90, 150, 0, 9⟩ else ⟨⟨#[99]⟩, 160, 200, 30000, 6⟩
def noS (j : Nat) : Sp2 := ⟨0, 0⟩
theorem ex_chk0 : chkN exL 3 noS 0 0 = 0 := by decide +kernel
theorem ex_chk1 : chkN exL 3 noS 0 1 = 0 := by decide +kernel
theorem ex_best0 : bestL exL 3 noS 0 0 = [1, 2] := by decide +kernel
theorem ex_best1 : bestL exL 3 noS 0 1 = [1] := by decide +kernel
end Go.Proofs.Ytbmenpfpeadckaa
