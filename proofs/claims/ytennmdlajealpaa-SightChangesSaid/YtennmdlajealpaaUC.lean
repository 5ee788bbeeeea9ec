/-
  Package sight: Proves, all answers in one; the laws' last check.
-/
import Derived.Test.YtennmdlajealpaaUB
namespace Go.Proofs.Ytennmdlajealpaa
open Go.RowKit Go.Maps
set_option linter.unusedSimpArgs false
set_option linter.unusedVariables false

theorem proves_any (A : Option Addr) (n c : Nat) (R : Nat → Int) (B : Option Addr) (m d : Nat) (S : Nat → Sgt) (L : Option Addr) (l cl : Nat) (T : Nat → Int) (w : World) (hA : Sl w A n R) (hB : Sgl w B m S) (hL : Sl w L l T) (hn : n ≤ maxLen) (hm : m ≤ maxLen) (hl : l ≤ 1000) (hr : ∀ j, j < l → rngS (T j)) :
    Calls Try.prog 22 #[encN A n c B m d, .slice L l cl] w fun e w' => e = .returned (.bool (vnB R n S m && prvV R S m T l)) ∧ Bl w w' := by
  cases hv : vnB R n S m with
  | false => rw [← hv]; exact proves_bad A n c R B m d S L l cl T w hA hB hL hn hm hv
  | true =>
    rw [← hv]
    by_cases h0 : l = 0
    · exact proves_none A n c R B m d S L l cl T w hA hB hL hn hm hv h0
    · cases hk : mkB m (T (l - 1)) with
      | false => exact proves_last A n c R B m d S L l cl T w hA hB hL hn hm hv (by omega) (by unfold maxLen; omega) (hr _ (by omega)) hk
      | true => exact proves_walk A n c R B m d S L l cl T w hA hB hL hn hm hv (by omega) hl hr hk
def twT (j : Nat) : Int := if j = 0 then 0 else 3
theorem two_prv : prvV twR twS 2 twT 2 = true := by decide +kernel
theorem sgl_less {w : World} {A : Option Addr} {n k : Nat} {S : Nat → Sgt} (h : Sgl w A n S) (hk : k ≤ n) : Sgl w A k S := fun h0 => by
  obtain ⟨b, off, e, hl, hc⟩ := h (by omega)
  exact ⟨b, off, e, hl, fun j hj => hc j (by omega)⟩
set_option maxRecDepth 100000 in
set_option maxHeartbeats 3200000 in
theorem awakeS_any (w : World) : Calls Try.prog 14 #[] w fun e w' => e = .returned (.bool true) ∧ Bl w w' := by
  have HV2 := Lib.hid (vn_iff.2 (two_vn 2 (by omega)))
  go_enter Try.func14, Try.ntmps14
  go_wp2_with fail
  refine (two_any _).mono ?_
  rintro e1 w1 ⟨g, h, rfl, hA, hB, hb1⟩
  have HA := Lib.hid hA
  have HB := Lib.hid hB
  have HB1 := Lib.hid hb1
  have HAW := Lib.hid hA
  have HBW := Lib.hid hB
  clear hA hB hb1
  go_wp2_with fail
  obtain ⟨Z, hZ⟩ : ∃ Z, Z = w1.alloc (Obj.cells #[.slice (some ⟨g, 0, none⟩) 2 2, .slice (some ⟨h, 0, none⟩) 2 2] 25) := ⟨_, rfl⟩
  obtain ⟨BZ, z0, z1⟩ := box_kS w1 (some ⟨g, 0, none⟩) 2 2 (some ⟨h, 0, none⟩) 2 2
  have zf : Z.frozen? ⟨w1.heap.size, 1, none⟩ = false := by rw [hZ]; go_cell
  rw [← hZ] at BZ z0 z1 ⊢
  clear hZ
  have HA := Lib.hid (HA.out.below BZ)
  have HB := Lib.hid (HB.out.below BZ)
  have HBZ := Lib.hid (HB1.out.tr BZ)
  have HZ1 := Lib.hid (show w.heap.size ≤ w1.heap.size from HB1.out.size)
  have lz := ltb z0
  clear BZ HB1
  have HC := consistent_any (some ⟨g, 0, none⟩) 2 2 twR (some ⟨h, 0, none⟩) 2 2 twS Z HA.out HB.out (by decide) (by decide)
  rw [if_pos HV2.out, noB_false two_not] at HC
  refine HC.mono ?_
  rintro e2 w2 ⟨rfl, hb2⟩
  have z0 := kcb hb2 z0
  have z1 := kcb hb2 z1
  have zf := fzb hb2 zf lz
  have lz := ltb z0
  have HA := Lib.hid (HA.out.below hb2)
  have HB := Lib.hid (HB.out.below hb2)
  have HBY := Lib.hid (HBZ.out.tr hb2)
  have HW2 := Lib.hid (show w1.heap.size ≤ w2.heap.size by omega)
  clear HC hb2 HBZ
  go_wp2_with fail
  obtain ⟨U, hU⟩ : ∃ U, U = w2.setCell ⟨w1.heap.size, 1, none⟩ (.slice (some ⟨h, 0, none⟩) 1 2) := ⟨_, rfl⟩
  have HBU := Lib.hid (show Bl w U by rw [hU]; exact bl_set HBY.out HZ1.out)
  have HA' := Lib.hid (show Sl U (some ⟨g, 0, none⟩) 2 twR from fun h0 => by
    obtain ⟨b, off, e, hl, hc⟩ := HAW.out h0
    obtain ⟨rfl, rfl⟩ : g = b ∧ 0 = off := by simpa using e
    exact ⟨g, 0, rfl, by rw [hU]; exact Nat.lt_of_lt_of_le (Nat.lt_of_lt_of_le hl HW2.out) (size_setS _ _ _), fun j hj => by rw [hU]; exact cell_setO (by obtain ⟨_, _, e', _, hc'⟩ := HA.out h0; cases e'; exact hc' j hj) (by omega)⟩)
  have HB' := Lib.hid (show Sgl U (some ⟨h, 0, none⟩) 1 twS from fun h0 => by
    obtain ⟨b, off, e, hl, hc⟩ := HBW.out (by omega)
    obtain ⟨rfl, rfl⟩ : h = b ∧ 0 = off := by simpa using e
    obtain ⟨_, _, e', _, hc'⟩ := HB.out (by omega)
    cases e'
    exact ⟨h, 0, rfl, by rw [hU]; exact Nat.lt_of_lt_of_le (Nat.lt_of_lt_of_le hl HW2.out) (size_setS _ _ _), fun j hj => by
      obtain ⟨d0, d1, d2, d3, d4⟩ := hc' j (by omega)
      rw [hU]
      exact ⟨cell_setO d0 (by omega), cell_setO d1 (by omega), cell_setO d2 (by omega), cell_setO d3 (by omega), cell_setO d4 (by omega)⟩⟩)
  rw [← hU]
  have z0' : U.cell? ⟨w1.heap.size, 0, none⟩ = some (.slice (some ⟨g, 0, none⟩) 2 2) := by rw [hU]; go_cell
  have z1' : U.cell? ⟨w1.heap.size, 1, none⟩ = some (.slice (some ⟨h, 0, none⟩) 1 2) := by rw [hU]; go_cell
  have lu := ltb z0'
  clear hU z0 z1 zf lz HA HB HBY
  go_wp2_with fail
  refine (error_any (some ⟨g, 0, none⟩) 2 2 twR (some ⟨h, 0, none⟩) 1 2 twS 1 1000000 U HA'.out HB'.out (by decide) (by decide)).mono ?_
  rintro e3 w3 ⟨x, y, k, rfl, hr, hb3⟩
  obtain ⟨rfl, rfl, rfl⟩ := two_err hr
  have HB3 := Lib.hid (HBU.out.tr hb3)
  clear hr hb3 HA' HB' HBU z0' z1' lu
  rw [show spnV 90 110 0 = .tuple #[.agg #[.int .i64 90, .int .i64 110], .int .i64 0] from rfl]
  go_wp2_with fail
  obtain ⟨V, hV⟩ : ∃ V, V = w3.alloc (Obj.cells #[.int .i64 90, .int .i64 110] 39) := ⟨_, rfl⟩
  have v0 : V.cell? ⟨w3.heap.size, 0, none⟩ = some (.int .i64 90) := by rw [hV]; go_cell
  have v1 : V.cell? ⟨w3.heap.size, 1, none⟩ = some (.int .i64 110) := by rw [hV]; go_cell
  have HBV := Lib.hid (HB3.out.tr (show Bl w3 V by rw [hV]; exact bl_alS _ _))
  rw [← hV]
  clear hV HB3
  refine (two_any _).mono ?_
  rintro e4 w4 ⟨g2, h2, rfl, hA, hB, hb4⟩
  have HA := Lib.hid hA
  have HB := Lib.hid hB
  have v0 := kcb hb4 v0
  have v1 := kcb hb4 v1
  have HB4 := Lib.hid (HBV.out.tr hb4)
  clear hA hB hb4 HBV
  go_wp2_with fail
  obtain ⟨Y, hY⟩ : ∃ Y, Y = w4.alloc (Obj.cells #[.int .i64 0, .int .i64 3] 3) := ⟨_, rfl⟩
  have BY : Bl w4 Y := by rw [hY]; exact bl_alS _ _
  have y0 : Y.cell? ⟨w4.heap.size, 0, none⟩ = some (.int .i64 0) := by rw [hY]; go_cell
  have y1 : Y.cell? ⟨w4.heap.size, 1, none⟩ = some (.int .i64 3) := by rw [hY]; go_cell
  rw [← hY]
  clear hY
  have v0 := kcb BY v0
  have v1 := kcb BY v1
  have HB5 := Lib.hid (HB4.out.tr BY)
  have HP := proves_any (some ⟨g2, 0, none⟩) 2 2 twR (some ⟨h2, 0, none⟩) 2 2 twS (some ⟨w4.heap.size, 0, none⟩) 2 2 twT Y (HA.out.below BY) (HB.out.below BY) (fun _ => ⟨_, 0, rfl, ltb y0, fun j hj => by
    have hj2 : j = 0 ∨ j = 1 := by omega
    rcases hj2 with rfl | rfl
    · exact y0
    · exact y1⟩) (by decide) (by decide) (by decide) (fun j _ => by unfold twT rngS; split <;> omega)
  rw [HV2.out, two_prv] at HP
  refine HP.mono ?_
  rintro e6 w6 ⟨rfl, hb6⟩
  have v0 := kcb hb6 v0
  have v1 := kcb hb6 v1
  have lv := ltb v0
  have HB6 := Lib.hid (HB5.out.tr hb6)
  clear HP hb6 BY
  go_wp2_with fail
  go_ret
  exact ⟨rfl, HB6.out⟩
end Go.Proofs.Ytennmdlajealpaa
