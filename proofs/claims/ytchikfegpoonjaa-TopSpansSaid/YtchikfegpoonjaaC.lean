/-
  Contracts of package span and of its reference: sums, opposites, hulls, meets and wider spans.
-/
import Derived.Test.YtchikfegpoonjaaB
namespace Go.Proofs.Ytchikfegpoonjaa
open Go.RowKit
set_option linter.unusedSimpArgs false


set_option maxHeartbeats 800000 in
theorem meet_any (al ah bl bh : Int) (w : World) :
    Calls Try.prog 12 #[.agg #[.int .i64 al, .int .i64 ah], .agg #[.int .i64 bl, .int .i64 bh]] w fun e w' => e = .returned (rS (meetF al ah bl bh)) ∧ Bl w w' := by
  by_cases hv : (vS al ah && vS bl bh) = true
  · have hva : vS al ah = true := by revert hv; cases vS al ah <;> simp
    have hvb : vS bl bh = true := by revert hv; cases vS bl bh <;> simp
    obtain ⟨a1, a2, a3⟩ := vS_iff.1 hva
    obtain ⟨b1, b2, b3⟩ := vS_iff.1 hvb
    have Hv := Lib.hid hv
    clear hv hva hvb
    go_enter Try.func12, Try.ntmps12
    go_wp2_with fail
    refine (allValid2_any _ al ah bl bh _ (by go_cell) (by go_cell) (by go_cell) (by go_cell) (by simp)).mono ?_
    rintro e w1 ⟨rfl, hb⟩
    obtain ⟨u0, u1, uf, ug, ul⟩ := kept2 (b := w.heap.size) (x := .int .i64 al) (y := .int .i64 ah) hb ⟨by go_cell, by go_cell, (by (try simp only [frozen?_alloc_cells, World.frozen?_setCell]); first | assumption | exact frozen_beyond (by omega)), (by (try simp only [frozen?_alloc_cells, World.frozen?_setCell]); first | assumption | exact frozen_beyond (by omega)), (by (try simp only [World.size_alloc, World.size_setCell]); omega)⟩
    obtain ⟨v0, v1, vf, vg, vl⟩ := kept2 (b := w.heap.size + 1) (x := .int .i64 bl) (y := .int .i64 bh) hb ⟨by go_cell, by go_cell, (by (try simp only [frozen?_alloc_cells, World.frozen?_setCell]); first | assumption | exact frozen_beyond (by omega)), (by (try simp only [frozen?_alloc_cells, World.frozen?_setCell]); first | assumption | exact frozen_beyond (by omega)), (by (try simp only [World.size_alloc, World.size_setCell]); omega)⟩
    obtain ⟨r0, r1, rf, rg, rl⟩ := kept2 (b := w.heap.size + 1 + 1) (x := .int .i64 0) (y := .int .i64 0) hb ⟨by go_cell, by go_cell, (by (try simp only [frozen?_alloc_cells, World.frozen?_setCell]); first | assumption | exact frozen_beyond (by omega)), (by (try simp only [frozen?_alloc_cells, World.frozen?_setCell]); first | assumption | exact frozen_beyond (by omega)), (by (try simp only [World.size_alloc, World.size_setCell]); omega)⟩
    have B1 : Bl w w1 := Bl.tr (by go_grown) hb
    clear hb
    rw [Hv.out]
    go_wp2
    all_goals (refine bodyPost_ret (by simp [results, Try.results12, go_sem, r0, r1, rl]; try rfl) rfl ⟨?_, by go_grown⟩)
    all_goals (refine rS_eq (r := meetF al ah bl bh) ?_ ?_ ?_ <;> (rw [meetF, if_pos Hv.out] <;> (repeat' split) <;> (try simp) <;> omega))
  · have hv : (vS al ah && vS bl bh) = false := by simpa using hv
    have Hv := Lib.hid hv
    clear hv
    go_enter Try.func12, Try.ntmps12
    go_wp2_with fail
    refine (allValid2_any _ al ah bl bh _ (by go_cell) (by go_cell) (by go_cell) (by go_cell) (by simp)).mono ?_
    rintro e w1 ⟨rfl, hb⟩
    obtain ⟨r0, r1, rf, rg, rl⟩ := kept2 (b := w.heap.size + 1 + 1) (x := .int .i64 0) (y := .int .i64 0) hb ⟨by go_cell, by go_cell, (by (try simp only [frozen?_alloc_cells, World.frozen?_setCell]); first | assumption | exact frozen_beyond (by omega)), (by (try simp only [frozen?_alloc_cells, World.frozen?_setCell]); first | assumption | exact frozen_beyond (by omega)), (by (try simp only [World.size_alloc, World.size_setCell]); omega)⟩
    have B1 : Bl w w1 := Bl.tr (by go_grown) hb
    clear hb
    rw [Hv.out]
    go_wp2
    refine bodyPost_ret (v := rS (0, 0, 1)) (by simp [results, Try.results12, go_sem, rS, r0, r1]) rfl ⟨by rw [meetF, Hv.out]; rfl, ?_⟩
    go_grown
end Go.Proofs.Ytchikfegpoonjaa
