/-
  The reference's Mean.
-/
import Derived.Test.YtbhdoafcjfcgfaaQC
import Derived.Deep.RegionHeld3
namespace Go.Proofs.Ytbhdoafcjfcgfaa
open Go.RowKit
set_option linter.unusedSimpArgs false
set_option linter.unusedVariables false

theorem bl_dr1 (w : World) : Bl w w.drew := ⟨rfl, rfl, rfl, Nat.le_refl _, fun _ _ => rfl⟩
/-- What the region holds: the box's slice, the first and the last error. -/
abbrev Sm (w : World) (P b o1 o2 : Nat) (sl u v : Value) (a : World) : Prop := Bl w a ∧ a.cell? ⟨P, 1, none⟩ = some sl ∧ a.cell? ⟨b, o1, none⟩ = some u ∧ a.cell? ⟨b, o2, none⟩ = some v ∧ P < a.heap.size ∧ b < a.heap.size
theorem Sm.t {w a a' : World} {P b o1 o2 : Nat} {sl u v : Value} (h : Sm w P b o1 o2 sl u v a) (hb : Bl a a') : Sm w P b o1 o2 sl u v a' := by
  obtain ⟨h1, c0, c1, c2, l0, l1⟩ := h
  exact ⟨Bl.tr h1 hb, (hb.cell (p := ⟨P, 1, none⟩) l0).trans c0, (hb.cell (p := ⟨b, o1, none⟩) l1).trans c1, (hb.cell (p := ⟨b, o2, none⟩) l1).trans c2, Nat.lt_of_lt_of_le l0 hb.size, Nat.lt_of_lt_of_le l1 hb.size⟩
theorem Sm.set {w a : World} {P b o1 o2 c o : Nat} {sl u v x : Value} (h : Sm w P b o1 o2 sl u v a) (h1 : c ≠ P) (h2 : c ≠ b) (hw : w.heap.size ≤ c) : Sm w P b o1 o2 sl u v (a.setCell ⟨c, o, none⟩ x) := by
  obtain ⟨k1, c0, c1, c2, l0, l1⟩ := h
  exact ⟨Below.setCell k1 hw x, (World.cell?_setCell_far _ _ _ _ h1).trans c0, (World.cell?_setCell_far _ _ _ _ h2).trans c1, (World.cell?_setCell_far _ _ _ _ h2).trans c2, by simpa using l0, by simpa using l1⟩
set_option maxHeartbeats 4000000 in
theorem rmeanR_any (s : ByteArray) (A : Option Addr) (n c : Nat) (E : Nat → Int) (w : World) (hs : s.size ≤ maxLen) (hA : Sl w A n E) (hn : n ≤ c) (hc : c ≤ maxLen) :
    Calls Try.prog 14 #[encB s A n c] w fun e w' => e = .returned (rR (meanF s n E)) ∧ Bl w w' := by
  have HA := Lib.hid hA
  have HS := Lib.hid hs
  have HC := Lib.hid hc
  have HN := Lib.hid (show n ≤ maxLen by omega)
  clear hA hs
  unfold maxLen at hc
  by_cases hv : vbB s n E = true
  rotate_left
  · have HV := Lib.hid (show vbB s n E = false by simpa using hv)
    clear hv
    have HR := Lib.hid (show meanF s n E = (0, 0, 1) by rw [meanF, HV.out]; rfl)
    go_enter Try.func14, Try.ntmps14
    go_wp2_with fail
    refine (rvalidBox_any s A n c E _ HS.out HN.out (HA.out.below (by go_grown))).mono ?_
    rintro q1 w1 ⟨rfl, hb⟩
    have x0 := kcb hb (b := w.heap.size) (o := 0) (v := .string s) (by first | assumption | (refine cellUp ?_; assumption) | go_cell)
    have x1 := kcb hb (b := w.heap.size) (o := 1) (v := .slice A n c) (by first | assumption | (refine cellUp ?_; assumption) | go_cell)
    have r0 := kcb hb (b := w.heap.size + 1) (o := 0) (v := .int .i64 0) (by first | assumption | (refine cellUp ?_; assumption) | go_cell)
    have r1 := kcb hb (b := w.heap.size + 1) (o := 1) (v := .int .i64 0) (by first | assumption | (refine cellUp ?_; assumption) | go_cell)
    have f0 := fzb hb (b := w.heap.size + 1) (o := 0) (by (try simp only [frozen?_alloc_cells, World.frozen?_setCell, World.frozen?_drew]); first | assumption | exact fz_new (by (try simp only [World.size_alloc, World.size_setCell, World.size_drew]); omega)) (by (try simp only [World.size_alloc, World.size_setCell, World.size_drew]); omega)
    have f1 := fzb hb (b := w.heap.size + 1) (o := 1) (by (try simp only [frozen?_alloc_cells, World.frozen?_setCell, World.frozen?_drew]); first | assumption | exact fz_new (by (try simp only [World.size_alloc, World.size_setCell, World.size_drew]); omega)) (by (try simp only [World.size_alloc, World.size_setCell, World.size_drew]); omega)
    have B1 : Bl w w1 := Below.trans (by go_grown) (hb.mono (by (try simp only [World.size_alloc, World.size_setCell, World.size_drew]); omega))
    have l1 := ltb r1
    have l1_1 := ltb x1
    have zz1 := B1.size
    clear hb
    rw [HV.out]
    go_wp2_with fail
    (try simp only [Exit.inBlock, Exit.then])
    refine bodyPost_ret (v := rR (0, 0, 1)) (by simp [results, Try.results14, go_sem, rR, r0, r1]) rfl ⟨by rw [HR.out], Below.trans B1 (by go_grown)⟩
  · have HV := Lib.hid hv
    obtain ⟨_, n2, n4, hE⟩ := vbB_iff.1 hv
    have HE := Lib.hid hE
    clear hv hE
    obtain ⟨b, off, rfl, hbb, hcb⟩ := HA.out (by omega)
    have HCB := Lib.hid hcb
    clear hcb
    have u1 := dyTo_at HE.out (show n - 1 < n by omega)
    have u2 := dyTo_at HE.out (show 0 < n by omega)
    obtain ⟨u, hu⟩ : ∃ u, u = E (n - 1) := ⟨_, rfl⟩
    obtain ⟨v, hv⟩ : ∃ v, v = E 0 := ⟨_, rfl⟩
    have HR := Lib.hid (show meanF s n E = lowF (u - v) ((n : Int) - 1) by rw [meanF, if_pos HV.out, hu, hv])
    have cu := HCB.out (n - 1) (by omega)
    have cv : w.cell? ⟨b, off, none⟩ = some (.int .i64 (E 0)) := HCB.out 0 (by omega)
    rw [← hu] at u1 cu
    rw [← hv] at u2 cv
    obtain ⟨u1, u1'⟩ := u1
    obtain ⟨u2, u2'⟩ := u2
    clear hu hv
    have HMK := Lib.hid (show makeF (u - v) ((n : Int) - 1) = lowF (u - v) ((n : Int) - 1) by rw [makeF, if_neg (by omega)])
    obtain ⟨q, hq⟩ : ∃ q, lowF (u - v) ((n : Int) - 1) = q := ⟨_, rfl⟩
    obtain ⟨z1, z2, z3⟩ := q
    have HLW := Lib.hid (show rR (lowF (u - v) ((n : Int) - 1)) = .tuple #[.agg #[.int .i64 z1, .int .i64 z2], .int .i64 z3] by rw [hq]; rfl)
    have HMK := Lib.hid (show rR (makeF (u - v) ((n : Int) - 1)) = .tuple #[.agg #[.int .i64 z1, .int .i64 z2], .int .i64 z3] by rw [HMK.out, hq]; rfl)
    rw [hq] at HR
    clear hq
    have tN : ((n : Int) - 1).toNat = n - 1 := by omega
    have n1 : (1 : Int) ≤ (n : Int) := by omega
    have n1' : (n : Int) - 1 < (n : Int) := by omega
    have n1'' : 0 < n := by omega
    have eN : IntKind.i64.wrap ((n : Int) - 1) = (n : Int) - 1 := IntWalk.i64_in _ (by omega)
    have eU : IntKind.i64.wrap (u - v) = u - v := IntWalk.i64_in _ (by omega)
    go_enter Try.func14, Try.ntmps14
    go_wp2_with fail
    refine (rvalidBox_any s (some ⟨b, off, none⟩) n c E _ HS.out HN.out (HA.out.below (by go_grown))).mono ?_
    rintro q1 w1 ⟨rfl, hb⟩
    have x0 := kcb hb (b := w.heap.size) (o := 0) (v := .string s) (by first | assumption | (refine cellUp ?_; assumption) | go_cell)
    have x1 := kcb hb (b := w.heap.size) (o := 1) (v := .slice (some ⟨b, off, none⟩) n c) (by first | assumption | (refine cellUp ?_; assumption) | go_cell)
    have r0 := kcb hb (b := w.heap.size + 1) (o := 0) (v := .int .i64 0) (by first | assumption | (refine cellUp ?_; assumption) | go_cell)
    have r1 := kcb hb (b := w.heap.size + 1) (o := 1) (v := .int .i64 0) (by first | assumption | (refine cellUp ?_; assumption) | go_cell)
    have f0 := fzb hb (b := w.heap.size + 1) (o := 0) (by (try simp only [frozen?_alloc_cells, World.frozen?_setCell, World.frozen?_drew]); first | assumption | exact fz_new (by (try simp only [World.size_alloc, World.size_setCell, World.size_drew]); omega)) (by (try simp only [World.size_alloc, World.size_setCell, World.size_drew]); omega)
    have f1 := fzb hb (b := w.heap.size + 1) (o := 1) (by (try simp only [frozen?_alloc_cells, World.frozen?_setCell, World.frozen?_drew]); first | assumption | exact fz_new (by (try simp only [World.size_alloc, World.size_setCell, World.size_drew]); omega)) (by (try simp only [World.size_alloc, World.size_setCell, World.size_drew]); omega)
    have B1 : Bl w w1 := Below.trans (by go_grown) (hb.mono (by (try simp only [World.size_alloc, World.size_setCell, World.size_drew]); omega))
    have l1 := ltb r1
    have l1_1 := ltb x1
    have zz1 := B1.size
    clear hb
    rw [HV.out]
    have cu := (B1.cell (p := ⟨b, off + (n - 1), none⟩) hbb).trans cu
    have cv := (B1.cell (p := ⟨b, off, none⟩) hbb).trans cv
    go_wp2_with fail
    have S0 : Sm w w.heap.size b (off + (n - 1)) off (.slice (some ⟨b, off, none⟩) n c) (.int .i64 u) (.int .i64 v) w1 := ⟨B1, x1, cu, cv, l1_1, by omega⟩
    have n2' : b ≠ w.heap.size + 1 := by omega
    go_region_held3 (fun w' => Bl w w' ∧ w'.cell? ⟨w.heap.size, 1, none⟩ = some (.slice (some ⟨b, off, none⟩) n c) ∧ w'.cell? ⟨b, off + (n - 1), none⟩ = some (.int .i64 u) ∧ w'.cell? ⟨b, off, none⟩ = some (.int .i64 v) ∧ w.heap.size < w'.heap.size ∧ b < w'.heap.size) (first | exact Sm.t S0 (bl_dr1 _) | exact Sm.t (by assumption) hh0 | exact Sm.set (Sm.set (by assumption) (by omega) (by omega) (by omega)) (by omega) (by omega) (by omega)) (first | (go_at_call 41; refine (rratio_any _ _ _ (by omega) (by omega) (by omega) (by omega) (by omega)).mono ?_; rintro e v9 ⟨rfl, hh0⟩; rw [HLW.out]; have r0 := kcb hh0 (b := w.heap.size + 1) (o := 0) (v := .int .i64 0) r0; have r1 := kcb hh0 (b := w.heap.size + 1) (o := 1) (v := .int .i64 0) r1; have f0 := fzb hh0 (b := w.heap.size + 1) (o := 0) f0 l1; have f1 := fzb hh0 (b := w.heap.size + 1) (o := 1) f1 l1; have lr9 := ltb r0))
    all_goals
      go_wp2_with fail
      rename_i hHeld
      (try simp only [Exit.inBlock, Exit.then])
      refine bodyPost_ret (v := rR (z1, z2, z3)) (by simp [results, Try.results14, go_sem, rR, r0, r1]) rfl ⟨by rw [HR.out], hHeld.1⟩
end Go.Proofs.Ytbhdoafcjfcgfaa
