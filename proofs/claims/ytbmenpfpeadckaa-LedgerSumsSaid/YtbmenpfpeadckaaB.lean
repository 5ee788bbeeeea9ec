/-
  Contracts of package span and of its reference: spans, second part.
-/
import Derived.Test.YtbmenpfpeadckaaA
namespace Go.Proofs.Ytbmenpfpeadckaa
open Go.RowKit
set_option linter.unusedSimpArgs false

/-- Two cells of a block, and that they may be written. -/
abbrev Bx2 (w : World) (b : Nat) (x y : Value) : Prop := w.cell? ⟨b, 0, none⟩ = some x ∧ w.cell? ⟨b, 1, none⟩ = some y ∧ w.frozen? ⟨b, 0, none⟩ = false ∧ w.frozen? ⟨b, 1, none⟩ = false ∧ b < w.heap.size
theorem frozen_beyond {w : World} {b o : Nat} (h : w.heap.size ≤ b) : w.frozen? ⟨b, o, none⟩ = false := by
  have : w.heap[b]? = none := by simp [h]
  simp [World.frozen?, this]
theorem fz_drew (w : World) (a : Addr) : w.drew.frozen? a = w.frozen? a := rfl
theorem fz_drewN (w : World) (n : Nat) (a : Addr) : (w.drewN n).frozen? a = w.frozen? a := rfl
theorem sz_drewN (w : World) (n : Nat) : (w.drewN n).heap.size = w.heap.size := rfl
/-- A call that left a block alone. -/
theorem kept2 {W w1 : World} (hb : Bl W w1) {b : Nat} {x y : Value} (h : Bx2 W b x y) : Bx2 w1 b x y := by
  obtain ⟨hc, hf⟩ := bcell hb
  obtain ⟨h0, h1, g0, g1, hlt⟩ := h
  exact ⟨(hc _ _ hlt).trans h0, (hc _ _ hlt).trans h1, (hf _ _ hlt).trans g0, (hf _ _ hlt).trans g1, Nat.lt_of_lt_of_le hlt hb.size⟩

def sumF (al ah bl bh : Int) : Int × Int × Int := if vS al ah && vS bl bh then limF (al + bl) (ah + bh) else (0, 0, 1)
def oppF (al ah : Int) : Int × Int × Int := if vS al ah then (-ah, -al, 0) else (0, 0, 1)
def hullF (al ah bl bh : Int) : Int × Int × Int := if vS al ah && vS bl bh then (min al bl, max ah bh, 0) else (0, 0, 1)
def meetF (al ah bl bh : Int) : Int × Int × Int := if vS al ah && vS bl bh then (if max al bl > min ah bh then (0, 0, 8) else (max al bl, min ah bh, 0)) else (0, 0, 1)
def widF (al ah n : Int) : Int × Int × Int := if vS al ah then (if n < 0 then (0, 0, 7) else if n > 1000000000000 then (0, 0, 4) else limF (al - n) (ah + n)) else (0, 0, 1)

theorem vS_iff {lo hi : Int} : vS lo hi = true ↔ -1000000000000 ≤ lo ∧ lo ≤ hi ∧ hi ≤ 1000000000000 := by simp [vS, and_assoc]
theorem rS_eq {a b c : Int} {r : Int × Int × Int} (h1 : r.1 = a) (h2 : r.2.1 = b) (h3 : r.2.2 = c) : Ending.returned (.tuple #[.agg #[.int .i64 a, .int .i64 b], .int .i64 c]) = .returned (rS r) := by
  subst h1 h2 h3; rfl
theorem chk_eq_lim {lo hi : Int} (h : lo ≤ hi) : chkF lo hi = limF lo hi := by
  unfold chkF limF
  by_cases hv : vS lo hi = true
  · have := vS_iff.1 hv
    rw [if_pos hv, if_neg (by omega)]
  · rw [if_neg hv, if_pos]
    have h2 := mt vS_iff.2 hv
    omega

