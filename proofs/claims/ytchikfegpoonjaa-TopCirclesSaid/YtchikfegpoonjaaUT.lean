/-
  Package sight: Conflict.
-/
import Derived.Test.YtchikfegpoonjaaUS
import Derived.Test.YtchikfegpoonjaaPU
namespace Go.Proofs.Ytchikfegpoonjaa
open Go.RowKit Go.Maps
set_option linter.unusedSimpArgs false
set_option linter.unusedVariables false

/-- What Conflict answers of a valid net. -/
def ConP (R : Nat → Int) (S : Nat → Sgt) (m : Nat) (w : World) (e : Ending) (w' : World) : Prop := Bl w w' ∧ ((NoC R S m ∧ e = .returned (.tuple #[.slice none 0 0, .int .i64 8])) ∨ (¬ NoC R S m ∧ ∃ g k cap T, e = .returned (.tuple #[.slice (some ⟨g, 0, none⟩) k cap, .int .i64 0]) ∧
  g < w'.heap.size ∧ w.heap.size ≤ g ∧ 1 ≤ k ∧ k ≤ 1000 ∧ (∀ j, j < k → w'.cell? ⟨g, j, none⟩ = some (.int .i64 (T j))) ∧ prvV R S m T k = true ∧ ∀ j, j < k → mkB m (T j) = true))
theorem conf_prv (C : Nat) (R : Nat → Int) (S : Nat → Sgt) (m : Nat) (w : World) (h : Chd w C R S m []) :
    Calls Try.prog 21 #[.pointer (some ⟨C, 0, none⟩)] w fun e w' => Bl w w' ∧ ((NoC R S m ∧ e = .returned (.slice none 0 0)) ∨ (¬ NoC R S m ∧ ∃ g k cap T, e = .returned (.slice (some ⟨g, 0, none⟩) k cap) ∧
      g < w'.heap.size ∧ w.heap.size ≤ g ∧ 1 ≤ k ∧ k ≤ 1000 ∧ (∀ j, j < k → w'.cell? ⟨g, j, none⟩ = some (.int .i64 (T j))) ∧ prvV R S m T k = true ∧ ∀ j, j < k → mkB m (T j) = true)) := by
  obtain ⟨M, Ap, cp, As, cs, hc⟩ := h.ch
  refine (conflict_any C M cp cs _ _ Ap As 1000000000 w hc h.sk (fun i hi => ?_) (fun i hi e => ?_)).mono ?_
  · obtain ⟨_, _, g⟩ := h.ok.edge i hi
    have := h.m3
    rcases g with ⟨k, hk, _, _, _, e⟩ | ⟨_, _, e⟩ <;> rw [e] <;> omega
  · obtain ⟨h1, _, g⟩ := h.ok.edge i hi
    rcases g with ⟨k, hk, _, _, _, e'⟩ | ⟨_, e', _⟩
    · rw [e'] at e; omega
    · rw [e']; exact crb_nonneg (h.ok.pos _ h1)
  · rintro e w' ⟨hb, ⟨h1, h2⟩ | ⟨h1, y, p, g, cap, hcy, h2, h3, h4, h5⟩⟩
    · exact ⟨hb, .inl ⟨(zr_iff h.ok h.sk).1 h1, h2⟩⟩
    · obtain ⟨p1, p2⟩ := cyc_proves h.ok hcy (T := fun j => (noF (gtE (stpC R S m [])) (zrS (stpC R S m []) (ptsC S m []).length).1.b y p).reverse.getD j 0) (fun j _ => rfl)
      have hlen := noF_len (gtE (stpC R S m [])) (zrS (stpC R S m []) (ptsC S m []).length).1.b y p
      have hp := hcy.le (fun i hi => (h.ok.ends i hi).2)
      have hq := ptsC_len S m []
      have hm := h.m3
      simp only [List.length_nil] at hq
      have hk1 : 1 ≤ (noF (gtE (stpC R S m [])) (zrS (stpC R S m []) (ptsC S m []).length).1.b y p).length := by
        cases hk : (noF (gtE (stpC R S m [])) (zrS (stpC R S m []) (ptsC S m []).length).1.b y p).length with
        | zero => rw [hk] at p1; simp [prvV] at p1
        | succ k => omega
      exact ⟨hb, .inr ⟨fun hn => h1 ((zr_iff h.ok h.sk).2 hn), g, _, cap, _, h2, h3, h4, hk1, by omega, h5, p1, p2⟩⟩
set_option maxRecDepth 100000 in
set_option maxHeartbeats 3200000 in
theorem conflict_call (A : Option Addr) (n c : Nat) (R : Nat → Int) (B : Option Addr) (m d : Nat) (S : Nat → Sgt) (w : World) (hA : Sl w A n R) (hB : Sgl w B m S) (hn : n ≤ maxLen) (hm : m ≤ maxLen) :
    Calls Try.prog 14 #[encN A n c B m d] w fun e w' => if vnB R n S m = true then ConP R S m w e w' else Bl w w' ∧ e = .returned (.tuple #[.slice none 0 0, .int .i64 1]) := by
  have HV := Lib.hid (fun (W : World) (hW : Bl w W) => validN_any A n c R B m d S W (hA.below hW) (hB.below hW) hn hm)
  have HA := Lib.hid hA
  have HB := Lib.hid hB
  clear hA hB hn hm
  cases hv : vnB R n S m with
  | false =>
    rw [hv] at HV
    simp only [Bool.false_eq_true, if_false]
    clear hv
    go_enter Try.func14, Try.ntmps14
    go_wp2_with fail
    refine (HV.out _ (by go_grown)).mono ?_
    rintro e1 w1 ⟨rfl, hb1⟩
    have HB1 := Lib.hid (Bl.tr (show Bl w _ by go_grown) hb1)
    clear hb1
    go_wp2_with fail
    go_ret2
    exact ⟨HB1.out, rfl⟩
  | true =>
    have HVN := Lib.hid (vn_iff.1 hv)
    rw [hv] at HV
    simp only [if_true]
    unfold ConP
    clear hv
    have HC := Lib.hid (fun (W : World) (hW : Bl w W) => chart_any A n c R B m d S none 0 [] W (HA.out.below hW) (HB.out.below hW) (fun h => absurd h (by simp)) HVN.out (fun p hp => absurd hp (by simp)) (by simp))
    go_enter Try.func14, Try.ntmps14
    go_wp2_with fail
    refine (HV.out _ (by go_grown)).mono ?_
    rintro e1 w1 ⟨rfl, hb1⟩
    have B1 := Bl.tr (show Bl w (w.alloc (Obj.cells #[.slice A n c, .slice B m d] 27)) by go_grown) hb1
    have x0 : w1.cell? ⟨w.heap.size, 0, none⟩ = some (.slice A n c) := kcb hb1 (by go_cell)
    have x1 : w1.cell? ⟨w.heap.size, 1, none⟩ = some (.slice B m d) := kcb hb1 (by go_cell)
    have HB1 := Lib.hid B1
    have lx := ltb x0
    clear hb1 B1
    go_wp2_with fail
    refine (HC.out w1 HB1.out).mono ?_
    rintro e2 w2 ⟨C, rfl, hc, hb2⟩
    have HCH := Lib.hid hc
    have HB2 := Lib.hid (HB1.out.tr hb2)
    clear hc hb2 x0 x1 lx
    go_wp2_with fail
    refine (conf_prv C R S m w2 HCH.out).mono ?_
    rintro e3 w3 ⟨hb3, ⟨hn, rfl⟩ | ⟨hn, g, k, cap, T, rfl, y1, y2, y3, y4, y5, y6, y7⟩⟩
    · have HN := Lib.hid hn
      have HB3 := Lib.hid (HB2.out.tr hb3)
      clear hn hb3
      have hnil := nil_yesS w3
      go_wp2_with fail
      go_ret2
      exact ⟨HB3.out, .inl ⟨HN.out, rfl⟩⟩
    · have HN := Lib.hid hn
      have hsz := HB2.out.size
      have HF := Lib.hid (show ∃ T, g < w3.heap.size ∧ w.heap.size ≤ g ∧ 1 ≤ k ∧ k ≤ 1000 ∧ (∀ j, j < k → w3.cell? ⟨g, j, none⟩ = some (.int .i64 (T j))) ∧ prvV R S m T k = true ∧ ∀ j, j < k → mkB m (T j) = true from ⟨T, y1, by omega, y3, y4, y5, y6, y7⟩)
      have HB3 := Lib.hid (HB2.out.tr hb3)
      clear hn hb3 y1 y2 y3 y4 y5 y6 y7 hsz
      have hnil := nil_noS g 0 k cap w3
      go_wp2_with fail
      go_ret2
      obtain ⟨T, f⟩ := HF.out
      exact ⟨HB3.out, .inr ⟨HN.out, g, k, cap, T, rfl, f⟩⟩
end Go.Proofs.Ytchikfegpoonjaa
