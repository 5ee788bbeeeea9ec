/-
  Layers 1 to 5, the laws over several: their last check.
-/
import Derived.Test.YtchikfegpoonjaaUC
import Derived.Test.YtchikfegpoonjaaH
namespace Go.Proofs.Ytchikfegpoonjaa
open Go.RowKit Go.Maps
set_option linter.unusedSimpArgs false
set_option linter.unusedVariables false

def fvR (k : Nat) : Int := if k = 1 then 1000 else 0
def fvS (_ : Nat) : Sgt := { tm := 5, ca := 1, cb := 0, lo := -3, hi := 4 }
def potV (X : Int) (p : Spt) : Int := if p.1 = 1 then crr 1000 (max p.2 5 - min p.2 5) else if p.1 = 0 then X else 0
theorem fvR_nonneg (k : Nat) : 0 ≤ fvR k := by unfold fvR; split <;> omega
theorem potV_way {X : Int} (h1 : -4 ≤ X) (h2 : X ≤ 3) {p q : Spt} {w : Int} (h : Way fvR fvS 1 p q w) : potV X q ≤ potV X p + w := by
  induction h with
  | nil => omega
  | sgt k hk h ih =>
    rename_i w
    have e5 : crr 1000 (max (5 : Int) 5 - min 5 5) = 0 := by decide
    have hk2 : k = 0 ∨ k = 1 := by omega
    rcases hk2 with rfl | rfl
    · have e1 : (tkn fvS 0).1 = (0, 0) := by simp [tkn, fvS, spo]
      have e2 : (tkn fvS 0).2.1 = (1, 5) := by simp [tkn, fvS, spo]
      have e3 : (tkn fvS 0).2.2 = 4 := by simp [tkn, fvS]
      rw [e1] at ih
      rw [e2, e3]
      have a1 : potV X (0, 0) = X := rfl
      have a2 : potV X (1, 5) = 0 := e5
      rw [a1] at ih
      rw [a2]
      omega
    · have e1 : (tkn fvS 1).1 = (1, 5) := by simp [tkn, fvS, spo]
      have e2 : (tkn fvS 1).2.1 = (0, 0) := by simp [tkn, fvS, spo]
      have e3 : (tkn fvS 1).2.2 = 3 := by simp [tkn, fvS]
      rw [e1] at ih
      rw [e2, e3]
      have a1 : potV X (0, 0) = X := rfl
      have a2 : potV X (1, 5) = 0 := e5
      rw [a2] at ih
      rw [a1]
      omega
  | car r h hc h0 ih =>
    rename_i q w
    have hn : 0 ≤ crb fvR q r := crb_nonneg (fvR_nonneg _)
    have key : potV X r ≤ potV X q + crb fvR q r := by
      unfold potV
      rw [← hc]
      split
      · rename_i e
        have er : crb fvR q r = crr 1000 (max q.2 r.2 - min q.2 r.2) := by unfold crb; rw [e]; rfl
        rw [er]
        have h1 := crr_mono (r := 1000) (a := max r.2 5 - min r.2 5) (b := (max q.2 5 - min q.2 5) + (max q.2 r.2 - min q.2 r.2)) (by omega) (by omega)
        have h2 := crr_add (r := 1000) (a := max q.2 5 - min q.2 5) (b := max q.2 r.2 - min q.2 r.2)
        omega
      · split <;> omega
    omega
theorem fv_noC : NoC fvR fvS 1 := fun p w h => by
  have := potV_way (X := 0) (by omega) (by omega) h
  omega
theorem fv_up : LstW fvR fvS 1 (0, 0) (1, 5) 4 := by
  refine ⟨?_, fun w h => ?_⟩
  · have := Way.sgt (R := fvR) (S := fvS) (ns := 1) 0 (by omega) (Way.nil (tkn fvS 0).1)
    have e1 : (tkn fvS 0).1 = (0, 0) := by simp [tkn, fvS, spo]
    have e2 : (tkn fvS 0).2.1 = (1, 5) := by simp [tkn, fvS, spo]
    have e3 : (tkn fvS 0).2.2 = 4 := by simp [tkn, fvS]
    rw [e1, e2, e3] at this
    exact this
  · have := potV_way (X := -4) (by omega) (by omega) h
    have a : potV (-4) (1, 5) = 0 := by decide
    have b : potV (-4) (0, 0) = -4 := by decide
    omega
theorem fv_down : LstW fvR fvS 1 (1, 5) (0, 0) 3 := by
  refine ⟨?_, fun w h => ?_⟩
  · have := Way.sgt (R := fvR) (S := fvS) (ns := 1) 1 (by omega) (Way.nil (tkn fvS 1).1)
    have e1 : (tkn fvS 1).1 = (1, 5) := by simp [tkn, fvS, spo]
    have e2 : (tkn fvS 1).2.1 = (0, 0) := by simp [tkn, fvS, spo]
    have e3 : (tkn fvS 1).2.2 = 3 := by simp [tkn, fvS]
    rw [e1, e2, e3] at this
    exact this
  · have := potV_way (X := 3) (by omega) (by omega) h
    have a : potV 3 (1, 5) = 0 := by decide
    have b : potV 3 (0, 0) = 3 := by decide
    omega
theorem fv_vn : VN fvR 2 fvS 1 := ⟨by omega, by omega, by decide, by omega, fun k hk => by
  have : k = 0 ∨ k = 1 := by omega
  rcases this with rfl | rfl <;> decide, fun k hk => by
  obtain rfl : k = 0 := by omega
  decide⟩
theorem fv_err {x y k : Int} (h : BtR fvR fvS 2 1 1 0 5 x y k) : x = -3 ∧ y = 4 ∧ k = 0 := by
  have hv := vn_iff.2 fv_vn
  have e0 : spo 0 5 = (0, 0) := by simp [spo]
  have e1 : spo 1 5 = (1, 5) := by simp [spo]
  unfold BtR at h
  rw [e0, e1] at h
  rcases h with ⟨g, _⟩ | ⟨_, g, _⟩ | ⟨_, _, g, _⟩ | ⟨_, _, _, ⟨g, _⟩ | ⟨_, g, _⟩ | ⟨_, g1, g2, g3⟩⟩
  · rw [hv] at g; cases g
  · exact absurd g (by decide)
  · exact absurd g (by decide)
  · exact absurd fv_noC g
  · exact absurd fv_up.1 (g 4)
  · have hy := g1.uniq fv_up
    rcases g2 with ⟨_, g⟩ | ⟨_, g⟩
    · exact absurd fv_down.1 (g 3)
    · have hx := g.uniq fv_down
      exact ⟨by omega, hy, g3⟩
theorem mk6 : makeF 6 (-4) = (-3, 2, 0) := by decide +kernel
set_option maxRecDepth 100000 in
set_option maxHeartbeats 3200000 in
theorem awake5_any (w : World) : Calls Try.prog 6 #[] w fun e w' => e = .returned (.bool true) ∧ Bl w w' := by
  go_enter Try.func6, Try.ntmps6
  go_wp2_with fail
  obtain ⟨Z, hZ⟩ : ∃ Z, Z = (((w.alloc (Obj.cells #[.int .i64 0, .int .i64 1000] 3)).alloc (Obj.cells #[.int .i64 5, .int .i64 1, .int .i64 0, .int .i64 (-3), .int .i64 4] 23)).alloc (Obj.cells #[.slice (some ⟨w.heap.size, 0, none⟩) 2 2, .slice (some ⟨w.heap.size + 1, 0, none⟩) 1 1] 27)) := ⟨_, rfl⟩
  have BZ : Bl w Z := by rw [hZ]; go_grown
  have n0 : Z.cell? ⟨w.heap.size + 1 + 1, 0, none⟩ = some (.slice (some ⟨w.heap.size, 0, none⟩) 2 2) := by rw [hZ]; go_cell
  have n1 : Z.cell? ⟨w.heap.size + 1 + 1, 1, none⟩ = some (.slice (some ⟨w.heap.size + 1, 0, none⟩) 1 1) := by rw [hZ]; go_cell
  have r0 : Z.cell? ⟨w.heap.size, 0, none⟩ = some (.int .i64 0) := by rw [hZ]; go_cell
  have r1 : Z.cell? ⟨w.heap.size, 1, none⟩ = some (.int .i64 1000) := by rw [hZ]; go_cell
  have s0 : Z.cell? ⟨w.heap.size + 1, 0, none⟩ = some (.int .i64 5) := by rw [hZ]; go_cell
  have s1 : Z.cell? ⟨w.heap.size + 1, 1, none⟩ = some (.int .i64 1) := by rw [hZ]; go_cell
  have s2 : Z.cell? ⟨w.heap.size + 1, 2, none⟩ = some (.int .i64 0) := by rw [hZ]; go_cell
  have s3 : Z.cell? ⟨w.heap.size + 1, 3, none⟩ = some (.int .i64 (-3)) := by rw [hZ]; go_cell
  have s4 : Z.cell? ⟨w.heap.size + 1, 4, none⟩ = some (.int .i64 4) := by rw [hZ]; go_cell
  have HBZ := Lib.hid BZ
  have HA := Lib.hid (show Sl Z (some ⟨w.heap.size, 0, none⟩) 2 fvR from fun _ => ⟨_, 0, rfl, ltb r0, fun j hj => by
    have hj2 : j = 0 ∨ j = 1 := by omega
    rcases hj2 with rfl | rfl
    · exact r0
    · exact r1⟩)
  have HB := Lib.hid (show Sgl Z (some ⟨w.heap.size + 1, 0, none⟩) 1 fvS from fun _ => ⟨_, 0, rfl, ltb s0, fun j hj => by
    obtain rfl : j = 0 := by omega
    exact ⟨s0, s1, s2, s3, s4⟩⟩)
  clear r0 r1 s0 s1 s2 s3 s4 BZ
  rw [← hZ]
  clear hZ
  have lz := ltb n0
  go_wp2_with fail
  refine (error_any (some ⟨w.heap.size, 0, none⟩) 2 2 fvR (some ⟨w.heap.size + 1, 0, none⟩) 1 1 fvS 1 5 Z HA.out HB.out (by decide) (by decide)).mono ?_
  rintro e3 w3 ⟨x, y, k, rfl, hr, hb3⟩
  obtain ⟨rfl, rfl, rfl⟩ := fv_err hr
  have HB3 := Lib.hid (HBZ.out.tr hb3)
  clear hr hb3 HA HB HBZ n0 n1 lz
  rw [show spnV (-3) 4 0 = .tuple #[.agg #[.int .i64 (-3), .int .i64 4], .int .i64 0] from rfl]
  go_wp2_with fail
  obtain ⟨V, hV⟩ : ∃ V, V = w3.alloc (Obj.cells #[.int .i64 (-3), .int .i64 4] 35) := ⟨_, rfl⟩
  have v0 : V.cell? ⟨w3.heap.size, 0, none⟩ = some (.int .i64 (-3)) := by rw [hV]; go_cell
  have v1 : V.cell? ⟨w3.heap.size, 1, none⟩ = some (.int .i64 4) := by rw [hV]; go_cell
  have HBV := Lib.hid (HB3.out.tr (show Bl w3 V by rw [hV]; exact bl_alS _ _))
  rw [← hV]
  clear hV HB3
  have HMK := make_any 6 (-4) V
  rw [mk6, show rR (-3, 2, 0) = .tuple #[.agg #[.int .i64 (-3), .int .i64 2], .int .i64 0] from rfl] at HMK
  refine HMK.mono ?_
  rintro e4 w4 ⟨rfl, hb4⟩
  have v0 := kcb hb4 v0
  have v1 := kcb hb4 v1
  have HB4 := Lib.hid (HBV.out.tr hb4)
  have lv := ltb v0
  clear hb4 HBV HMK
  go_wp2_with fail
  go_ret
  exact ⟨rfl, HB4.out.tr (bl_alS _ _)⟩
end Go.Proofs.Ytchikfegpoonjaa
