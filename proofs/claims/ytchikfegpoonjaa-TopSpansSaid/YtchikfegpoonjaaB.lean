/-
  Contracts of package span and of its reference: spans, second part.
-/
import Derived.Test.YtchikfegpoonjaaA
namespace Go.Proofs.Ytchikfegpoonjaa
open Go.RowKit
set_option linter.unusedSimpArgs false

/-- Two cells of a block, and that they may be written. -/
abbrev Bx2 (w : World) (b : Nat) (x y : Value) : Prop := w.cell? ⟨b, 0, none⟩ = some x ∧ w.cell? ⟨b, 1, none⟩ = some y ∧ w.frozen? ⟨b, 0, none⟩ = false ∧ w.frozen? ⟨b, 1, none⟩ = false ∧ b < w.heap.size
theorem frozen_beyond {w : World} {b o : Nat} (h : w.heap.size ≤ b) : w.frozen? ⟨b, o, none⟩ = false := by
  have : w.heap[b]? = none := by simp [h]
  simp [World.frozen?, this]
theorem fz_drew (w : World) (a : Addr) : w.drew.frozen? a = w.frozen? a := rfl
theorem fz_drewN (w : World) (n : Nat) (a : Addr) : (w.drewN n).frozen? a = w.frozen? a := rfl
theorem sz_drewN (w : World) (n : Nat) : (w.drewN n).heap.size = w.heap.size := rfl
/-- A call that left a block alone. -/
theorem kept2 {W w1 : World} (hb : Bl W w1) {b : Nat} {x y : Value} (h : Bx2 W b x y) : Bx2 w1 b x y := by
  obtain ⟨hc, hf⟩ := bcell hb
  obtain ⟨h0, h1, g0, g1, hlt⟩ := h
  exact ⟨(hc _ _ hlt).trans h0, (hc _ _ hlt).trans h1, (hf _ _ hlt).trans g0, (hf _ _ hlt).trans g1, Nat.lt_of_lt_of_le hlt hb.size⟩

def sumF (al ah bl bh : Int) : Int × Int × Int := if vS al ah && vS bl bh then limF (al + bl) (ah + bh) else (0, 0, 1)
def oppF (al ah : Int) : Int × Int × Int := if vS al ah then (-ah, -al, 0) else (0, 0, 1)
def hullF (al ah bl bh : Int) : Int × Int × Int := if vS al ah && vS bl bh then (min al bl, max ah bh, 0) else (0, 0, 1)
def meetF (al ah bl bh : Int) : Int × Int × Int := if vS al ah && vS bl bh then (if max al bl > min ah bh then (0, 0, 8) else (max al bl, min ah bh, 0)) else (0, 0, 1)
def widF (al ah n : Int) : Int × Int × Int := if vS al ah then (if n < 0 then (0, 0, 7) else if n > 1000000000000 then (0, 0, 4) else limF (al - n) (ah + n)) else (0, 0, 1)

theorem vS_iff {lo hi : Int} : vS lo hi = true ↔ -1000000000000 ≤ lo ∧ lo ≤ hi ∧ hi ≤ 1000000000000 := by simp [vS, and_assoc]
theorem rS_eq {a b c : Int} {r : Int × Int × Int} (h1 : r.1 = a) (h2 : r.2.1 = b) (h3 : r.2.2 = c) : Ending.returned (.tuple #[.agg #[.int .i64 a, .int .i64 b], .int .i64 c]) = .returned (rS r) := by
  subst h1 h2 h3; rfl
theorem chk_eq_lim {lo hi : Int} (h : lo ≤ hi) : chkF lo hi = limF lo hi := by
  unfold chkF limF
  by_cases hv : vS lo hi = true
  · have := vS_iff.1 hv
    rw [if_pos hv, if_neg (by omega)]
  · rw [if_neg hv, if_pos]
    have h2 := mt vS_iff.2 hv
    omega


set_option maxHeartbeats 400000 in
theorem allValid1_any (b : Nat) (lo hi : Int) (w : World) (h0 : w.cell? ⟨b, 0, none⟩ = some (.int .i64 lo)) (h1 : w.cell? ⟨b, 1, none⟩ = some (.int .i64 hi)) :
    Calls Try.prog 22 #[.slice (some ⟨b, 0, none⟩) 1 1] w fun e w' => e = .returned (.bool (vS lo hi)) ∧ Bl w w' := by
  by_cases hv : vS lo hi = true
  · go_enter Try.func22, Try.ntmps22
    go_wp2
    refine wp_loop_rounds 2 ?_
    rw [rounds_succ]
    go_wp2_with fail
    refine (validSpan_any _ _ _).mono ?_
    rintro e w1 ⟨rfl, hb⟩
    have B1 : Bl w w1 := Bl.tr (by go_grown) hb
    clear hb
    rw [hv]
    go_wp2
    rw [rounds_succ]
    go_wp2
    go_ret
    exact ⟨ret_bool hv.symm, by go_grown⟩
  · have hv : vS lo hi = false := by simpa using hv
    go_enter Try.func22, Try.ntmps22
    go_wp2
    refine wp_loop_rounds 2 ?_
    rw [rounds_succ]
    go_wp2_with fail
    refine (validSpan_any _ _ _).mono ?_
    rintro e w1 ⟨rfl, hb⟩
    have B1 : Bl w w1 := Bl.tr (by go_grown) hb
    clear hb
    rw [hv]
    go_wp2
    go_ret
    exact ⟨ret_bool hv.symm, by go_grown⟩

set_option maxHeartbeats 800000 in
theorem allValid2_any (b : Nat) (lo hi lo2 hi2 : Int) (w : World) (h0 : w.cell? ⟨b, 0, none⟩ = some (.int .i64 lo)) (h1 : w.cell? ⟨b, 1, none⟩ = some (.int .i64 hi)) (h2 : w.cell? ⟨b, 2, none⟩ = some (.int .i64 lo2)) (h3 : w.cell? ⟨b, 3, none⟩ = some (.int .i64 hi2)) (hlt : b < w.heap.size) :
    Calls Try.prog 22 #[.slice (some ⟨b, 0, none⟩) 2 2] w fun e w' => e = .returned (.bool (vS lo hi && vS lo2 hi2)) ∧ Bl w w' := by
  by_cases hv : vS lo hi = true
  · go_enter Try.func22, Try.ntmps22
    go_wp2
    refine wp_loop_rounds 3 ?_
    rw [rounds_succ]
    go_wp2_with fail
    refine (validSpan_any _ _ _).mono ?_
    rintro e w1 ⟨rfl, hb⟩
    have B1 : Bl w w1 := Bl.tr (by go_grown) hb
    clear hb
    have g2 := (B1.cell (p := ⟨b, 2, none⟩) hlt).trans h2
    have g3 := (B1.cell (p := ⟨b, 3, none⟩) hlt).trans h3
    rw [hv]
    have z1 := B1.size
    go_wp2
    rw [rounds_succ]
    go_wp2_with fail
    refine (validSpan_any _ _ _).mono ?_
    rintro e w2 ⟨rfl, hb⟩
    have B2 : Bl w w2 := Below.trans (by go_grown) (hb.mono (by simp; omega))
    clear hb
    by_cases hv2 : vS lo2 hi2 = true
    · rw [hv2]
      go_wp2
      rw [rounds_succ]
      go_wp2
      go_ret
      exact ⟨ret_bool (by rw [hv, hv2]; rfl), by go_grown⟩
    · have hv2 : vS lo2 hi2 = false := by simpa using hv2
      rw [hv2]
      go_wp2
      go_ret
      exact ⟨ret_bool (by rw [hv, hv2]; rfl), by go_grown⟩
  · have hv : vS lo hi = false := by simpa using hv
    go_enter Try.func22, Try.ntmps22
    go_wp2
    refine wp_loop_rounds 3 ?_
    rw [rounds_succ]
    go_wp2_with fail
    refine (validSpan_any _ _ _).mono ?_
    rintro e w1 ⟨rfl, hb⟩
    have B1 : Bl w w1 := Bl.tr (by go_grown) hb
    clear hb
    rw [hv]
    go_wp2
    go_ret
    exact ⟨ret_bool (by rw [hv]; rfl), by go_grown⟩

end Go.Proofs.Ytchikfegpoonjaa
