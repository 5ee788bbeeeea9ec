/-
  Contracts of the fractions: the reference's lowest terms; Make.
-/
import Derived.Test.YtiljfhkkinddeaaDoorF
namespace Go.Proofs.YtiljfhkkinddeaaDoor
open Go.RowKit
set_option linter.unusedSimpArgs false

theorem low_gcd {n d : Int} (h0 : d ≠ 0) : (Int.gcd (lowN n d) (lowD n d) : Int) = 1 ∧ 1 ≤ lowD n d := by
  have hg := gcd_pos' (n := n) h0
  have hgn : 0 < Int.gcd n d := by omega
  have key : ∀ a b : Int, Int.gcd a b = Int.gcd n d → 0 < b → (Int.gcd (a / (Int.gcd n d : Int)) (b / (Int.gcd n d : Int)) : Int) = 1 ∧ 1 ≤ b / (Int.gcd n d : Int) := by
    intro a b hab hb
    refine ⟨?_, ?_⟩
    · have := Int.gcd_ediv_gcd_ediv_gcd (i := a) (j := b) (by omega)
      rw [hab] at this
      omega
    · have hd : (Int.gcd n d : Int) ∣ b := by rw [← hab]; exact Int.gcd_dvd_right _ _
      exact Int.le_ediv_of_mul_le hg (by have := Int.le_of_dvd hb hd; omega)
  unfold lowN lowD
  by_cases h : d < 0
  · rw [if_pos h, if_pos h]
    exact key (-n) (-d) (gcd_abs _ _ _ _ (.inr rfl) (.inr rfl)) (by omega)
  · rw [if_neg h, if_neg h]
    exact key n d rfl (by omega)

theorem low_vR {n d : Int} (h0 : d ≠ 0) : vR (lowN n d) (lowD n d) = true ↔ ¬ (1000000000 < lowD n d ∨ lowN n d < -1000000000 ∨ 1000000000 < lowN n d) := by
  obtain ⟨h1, h2⟩ := low_gcd (n := n) h0
  rw [vR_iff]
  constructor
  · rintro ⟨h, _⟩; omega
  · intro h; exact ⟨by omega, h1⟩


set_option maxHeartbeats 800000 in
theorem rlowest_any (n d : Int) (w : World) (hn : -2000000000000000000 ≤ n) (hn' : n ≤ 2000000000000000000) (hd : -2000000000000000000 ≤ d) (hd' : d ≤ 2000000000000000000) (h0 : d ≠ 0) :
    Calls Tryd.prog 62 #[.int .i64 n, .int .i64 d] w fun e w' => e = .returned (rR (lowF n d)) ∧ Bl w w' := by
  have hg := gcd_pos' (n := n) h0
  have hu : (Int.gcd n d : Int) ≤ 2000000000000000000 := by
    have h1 : (Int.gcd n d : Int) ∣ d := Int.gcd_dvd_right _ _
    by_cases h : d < 0
    · have := Int.le_of_dvd (by omega) ((Int.dvd_neg).2 h1); omega
    · have := Int.le_of_dvd (by omega) h1; omega
  have V := Lib.hid (low_vR (n := n) h0)
  by_cases h1 : d < 0
  · have e1 : -n.tdiv (Int.gcd n d : Int) = lowN n d := by rw [lowN, if_pos h1]; rw [← Int.neg_tdiv]; exact tdiv_dvd ((Int.dvd_neg).2 (Int.gcd_dvd_left _ _))
    have e2 : -d.tdiv (Int.gcd n d : Int) = lowD n d := by rw [lowD, if_pos h1]; rw [← Int.neg_tdiv]; exact tdiv_dvd ((Int.dvd_neg).2 (Int.gcd_dvd_right _ _))
    have b := div_small (x := (-n)) hg (by omega) (by omega)
    have b' := div_small (x := (-d)) hg (by omega) (by omega)
    rw [show (-n) / (Int.gcd n d : Int) = lowN n d by rw [lowN, if_pos h1], ← e1] at b
    rw [show (-d) / (Int.gcd n d : Int) = lowD n d by rw [lowD, if_pos h1], ← e2] at b'
    obtain ⟨b1, b2⟩ := b
    obtain ⟨b3, b4⟩ := b'
    have E1 := Lib.hid e1
    have E2 := Lib.hid e2
    clear e1 e2
    go_enter Tryd.func62, Tryd.ntmps62
    go_wp2_with fail
    refine (rcd_any _ _ _ (by omega) (by omega) (by omega) (by omega)).mono ?_
    rintro e w1 ⟨rfl, hb⟩
    obtain ⟨r0, r1, rf, rg, rl⟩ := kept2 (b := w.heap.size) (x := .int .i64 0) (y := .int .i64 0) hb ⟨by go_cell, by go_cell, (by (try simp only [frozen?_alloc_cells, World.frozen?_setCell, fz_drew, fz_drewN]); first | assumption | exact frozen_beyond (by (try simp only [World.size_alloc, World.size_setCell, World.size_drew, sz_drewN]); omega)), (by (try simp only [frozen?_alloc_cells, World.frozen?_setCell, fz_drew, fz_drewN]); first | assumption | exact frozen_beyond (by (try simp only [World.size_alloc, World.size_setCell, World.size_drew, sz_drewN]); omega)), (by (try simp only [World.size_alloc, World.size_setCell, World.size_drew, sz_drewN]); omega)⟩
    have B1 : Bl w w1 := Bl.tr (by go_grown) hb
    clear hb
    generalize hG : (Int.gcd n d : Int) = G at *
    have HG := Lib.hid hG
    clear hG
    go_wp2_with fail
    go_region
    rw [E1.out, E2.out]
    have F : Hid (lowF n d = if 1000000000 < lowD n d ∨ lowN n d < -1000000000 ∨ 1000000000 < lowN n d then (0, 0, 4) else (lowN n d, lowD n d, 0)) := rfl
    generalize lowN n d = N at *
    generalize lowD n d = D at *
    clear E1 E2 b1 b2 b3 b4 hg hu
    go_wp2_with fail
    refine (rvalidRatio_any _ _ _).mono ?_
    rintro e w2 ⟨rfl, hb⟩
    obtain ⟨a0, a1, af, ag, al⟩ := kept2 (b := w1.heap.size) (x := .int .i64 N) (y := .int .i64 D) hb ⟨by go_cell, by go_cell, (by (try simp only [frozen?_alloc_cells, World.frozen?_setCell, fz_drew, fz_drewN]); first | assumption | exact frozen_beyond (by (try simp only [World.size_alloc, World.size_setCell, World.size_drew, sz_drewN]); omega)), (by (try simp only [frozen?_alloc_cells, World.frozen?_setCell, fz_drew, fz_drewN]); first | assumption | exact frozen_beyond (by (try simp only [World.size_alloc, World.size_setCell, World.size_drew, sz_drewN]); omega)), (by (try simp only [World.size_alloc, World.size_setCell, World.size_drew, sz_drewN]); omega)⟩
    obtain ⟨r0, r1, rf, rg, rl⟩ := kept2 (b := w.heap.size) (x := .int .i64 0) (y := .int .i64 0) hb ⟨by go_cell, by go_cell, (by (try simp only [frozen?_alloc_cells, World.frozen?_setCell, fz_drew, fz_drewN]); first | assumption | exact frozen_beyond (by (try simp only [World.size_alloc, World.size_setCell, World.size_drew, sz_drewN]); omega)), (by (try simp only [frozen?_alloc_cells, World.frozen?_setCell, fz_drew, fz_drewN]); first | assumption | exact frozen_beyond (by (try simp only [World.size_alloc, World.size_setCell, World.size_drew, sz_drewN]); omega)), (by (try simp only [World.size_alloc, World.size_setCell, World.size_drew, sz_drewN]); omega)⟩
    have B2 : Bl w w2 := Below.trans (by go_grown) (hb.mono (by (try simp only [World.size_alloc, World.size_setCell, World.size_drew, sz_drewN]); omega))
    clear hb
    by_cases hv : vR N D = true
    · have hc := V.out.1 hv
      rw [hv]
      clear hv V
      have Hc := Lib.hid hc
      clear hc
      go_wp2
      refine bodyPost_ret (by simp [results, Tryd.results62, go_sem, r0, r1]; try rfl) rfl ⟨?_, by go_grown⟩
      have hc := Hc.out
      rw [F.out]; refine rR_eq ?_ ?_ ?_ <;> ((repeat' split) <;> (try simp) <;> omega)
    · have hc := mt V.out.2 hv
      have hv : vR N D = false := by simpa using hv
      rw [hv]
      clear hv V
      have Hc := Lib.hid hc
      clear hc
      go_wp2
      refine bodyPost_ret (by simp [results, Tryd.results62, go_sem, r0, r1]; try rfl) rfl ⟨?_, by go_grown⟩
      have hc := Hc.out
      rw [F.out]; refine rR_eq ?_ ?_ ?_ <;> ((repeat' split) <;> (try simp) <;> omega)
  · have e1 : n.tdiv (Int.gcd n d : Int) = lowN n d := by rw [lowN, if_neg h1]; exact tdiv_dvd (Int.gcd_dvd_left _ _)
    have e2 : d.tdiv (Int.gcd n d : Int) = lowD n d := by rw [lowD, if_neg h1]; exact tdiv_dvd (Int.gcd_dvd_right _ _)
    have b := div_small (x := n) hg (by omega) (by omega)
    have b' := div_small (x := d) hg (by omega) (by omega)
    rw [show n / (Int.gcd n d : Int) = lowN n d by rw [lowN, if_neg h1], ← e1] at b
    rw [show d / (Int.gcd n d : Int) = lowD n d by rw [lowD, if_neg h1], ← e2] at b'
    obtain ⟨b1, b2⟩ := b
    obtain ⟨b3, b4⟩ := b'
    have E1 := Lib.hid e1
    have E2 := Lib.hid e2
    clear e1 e2
    go_enter Tryd.func62, Tryd.ntmps62
    go_wp2_with fail
    refine (rcd_any _ _ _ (by omega) (by omega) (by omega) (by omega)).mono ?_
    rintro e w1 ⟨rfl, hb⟩
    obtain ⟨r0, r1, rf, rg, rl⟩ := kept2 (b := w.heap.size) (x := .int .i64 0) (y := .int .i64 0) hb ⟨by go_cell, by go_cell, (by (try simp only [frozen?_alloc_cells, World.frozen?_setCell, fz_drew, fz_drewN]); first | assumption | exact frozen_beyond (by (try simp only [World.size_alloc, World.size_setCell, World.size_drew, sz_drewN]); omega)), (by (try simp only [frozen?_alloc_cells, World.frozen?_setCell, fz_drew, fz_drewN]); first | assumption | exact frozen_beyond (by (try simp only [World.size_alloc, World.size_setCell, World.size_drew, sz_drewN]); omega)), (by (try simp only [World.size_alloc, World.size_setCell, World.size_drew, sz_drewN]); omega)⟩
    have B1 : Bl w w1 := Bl.tr (by go_grown) hb
    clear hb
    generalize hG : (Int.gcd n d : Int) = G at *
    have HG := Lib.hid hG
    clear hG
    go_wp2_with fail
    go_region
    rw [E1.out, E2.out]
    have F : Hid (lowF n d = if 1000000000 < lowD n d ∨ lowN n d < -1000000000 ∨ 1000000000 < lowN n d then (0, 0, 4) else (lowN n d, lowD n d, 0)) := rfl
    generalize lowN n d = N at *
    generalize lowD n d = D at *
    clear E1 E2 b1 b2 b3 b4 hg hu
    go_wp2_with fail
    refine (rvalidRatio_any _ _ _).mono ?_
    rintro e w2 ⟨rfl, hb⟩
    obtain ⟨a0, a1, af, ag, al⟩ := kept2 (b := w1.heap.size) (x := .int .i64 N) (y := .int .i64 D) hb ⟨by go_cell, by go_cell, (by (try simp only [frozen?_alloc_cells, World.frozen?_setCell, fz_drew, fz_drewN]); first | assumption | exact frozen_beyond (by (try simp only [World.size_alloc, World.size_setCell, World.size_drew, sz_drewN]); omega)), (by (try simp only [frozen?_alloc_cells, World.frozen?_setCell, fz_drew, fz_drewN]); first | assumption | exact frozen_beyond (by (try simp only [World.size_alloc, World.size_setCell, World.size_drew, sz_drewN]); omega)), (by (try simp only [World.size_alloc, World.size_setCell, World.size_drew, sz_drewN]); omega)⟩
    obtain ⟨r0, r1, rf, rg, rl⟩ := kept2 (b := w.heap.size) (x := .int .i64 0) (y := .int .i64 0) hb ⟨by go_cell, by go_cell, (by (try simp only [frozen?_alloc_cells, World.frozen?_setCell, fz_drew, fz_drewN]); first | assumption | exact frozen_beyond (by (try simp only [World.size_alloc, World.size_setCell, World.size_drew, sz_drewN]); omega)), (by (try simp only [frozen?_alloc_cells, World.frozen?_setCell, fz_drew, fz_drewN]); first | assumption | exact frozen_beyond (by (try simp only [World.size_alloc, World.size_setCell, World.size_drew, sz_drewN]); omega)), (by (try simp only [World.size_alloc, World.size_setCell, World.size_drew, sz_drewN]); omega)⟩
    have B2 : Bl w w2 := Below.trans (by go_grown) (hb.mono (by (try simp only [World.size_alloc, World.size_setCell, World.size_drew, sz_drewN]); omega))
    clear hb
    by_cases hv : vR N D = true
    · have hc := V.out.1 hv
      rw [hv]
      clear hv V
      have Hc := Lib.hid hc
      clear hc
      go_wp2
      refine bodyPost_ret (by simp [results, Tryd.results62, go_sem, r0, r1]; try rfl) rfl ⟨?_, by go_grown⟩
      have hc := Hc.out
      rw [F.out]; refine rR_eq ?_ ?_ ?_ <;> ((repeat' split) <;> (try simp) <;> omega)
    · have hc := mt V.out.2 hv
      have hv : vR N D = false := by simpa using hv
      rw [hv]
      clear hv V
      have Hc := Lib.hid hc
      clear hc
      go_wp2
      refine bodyPost_ret (by simp [results, Tryd.results62, go_sem, r0, r1]; try rfl) rfl ⟨?_, by go_grown⟩
      have hc := Hc.out
      rw [F.out]; refine rR_eq ?_ ?_ ?_ <;> ((repeat' split) <;> (try simp) <;> omega)
end Go.Proofs.YtiljfhkkinddeaaDoor
