/-
  Package sight: whether a list proves a contradiction.
-/
import Derived.Test.YtchikfegpoonjaaQB
import Derived.BigQuiet
import Derived.Deep.QuietTactic
import Derived.Deep.RegionHeld3
namespace Go.Proofs.Ytchikfegpoonjaa
open Go.RowKit Go.Maps
set_option linter.unusedSimpArgs false
set_option linter.unusedVariables false

/-- Where the first k marks of a list lead from a point, and at what cost. -/
def pvS (R : Nat → Int) (S : Nat → Sgt) (m : Nat) (T : Nat → Int) (p0 : Spt) : Nat → Option (Spt × Int)
  | 0 => some (p0, 0)
  | k + 1 => match pvS R S m T p0 k with
    | none => none
    | some u => if mkB m (T k) = true ∧ (tkn S (T k).toNat).1.1 = u.1.1 then some ((tkn S (T k).toNat).2.1, u.2 + (crb R u.1 (tkn S (T k).toNat).1 + (tkn S (T k).toNat).2.2)) else none
theorem pvS_stop {R : Nat → Int} {S : Nat → Sgt} {m : Nat} {T : Nat → Int} {p0 : Spt} {k n : Nat} (hk : k ≤ n) (h : pvS R S m T p0 k = none) : pvS R S m T p0 n = none := by
  induction n with
  | zero => obtain rfl : k = 0 := by omega
            exact h
  | succ n ih =>
    by_cases e : k = n + 1
    · subst e; exact h
    · rw [pvS, ih (by omega)]
theorem pvS_next {R : Nat → Int} {S : Nat → Sgt} {m : Nat} {T : Nat → Int} {p0 p : Spt} {s : Int} {k : Nat} (h : pvS R S m T p0 k = some (p, s)) (hm : mkB m (T k) = true) (hc : (tkn S (T k).toNat).1.1 = p.1) :
    pvS R S m T p0 (k + 1) = some ((tkn S (T k).toNat).2.1, s + (crb R p (tkn S (T k).toNat).1 + (tkn S (T k).toNat).2.2)) := by
  rw [pvS, h]; exact if_pos ⟨hm, hc⟩
theorem pvS_bad {R : Nat → Int} {S : Nat → Sgt} {m : Nat} {T : Nat → Int} {p0 p : Spt} {s : Int} {k : Nat} (h : pvS R S m T p0 k = some (p, s)) (hm : ¬ (mkB m (T k) = true ∧ (tkn S (T k).toNat).1.1 = p.1)) : pvS R S m T p0 (k + 1) = none := by
  rw [pvS, h]; exact if_neg hm
/-- Whether a list is a proof. -/
def prvV (R : Nat → Int) (S : Nat → Sgt) (m : Nat) (T : Nat → Int) (n : Nat) : Bool :=
  decide (1 ≤ n) && mkB m (T (n - 1)) && (match pvS R S m T (tkn S (T (n - 1)).toNat).2.1 n with | none => false | some u => decide (u.2 < 0))
theorem prvV_none {R : Nat → Int} {S : Nat → Sgt} {m : Nat} {T : Nat → Int} {n : Nat} (h : pvS R S m T (tkn S (T (n - 1)).toNat).2.1 n = none) : prvV R S m T n = false := by
  rw [prvV, h, Bool.and_false]
theorem prvV_some {R : Nat → Int} {S : Nat → Sgt} {m : Nat} {T : Nat → Int} {n : Nat} {p : Spt} {s : Int} (h1 : 1 ≤ n) (h2 : mkB m (T (n - 1)) = true) (h : pvS R S m T (tkn S (T (n - 1)).toNat).2.1 n = some (p, s)) : prvV R S m T n = decide (s < 0) := by
  rw [prvV, h, h2, decide_eq_true h1]; rfl
/-- The first k marks are a way. -/
theorem pvS_way {R : Nat → Int} {S : Nat → Sgt} {m : Nat} (hR : ∀ k, k < 2 * m → 0 ≤ R (tkn S k).1.1.toNat) {T : Nat → Int} {p0 p : Spt} {s : Int} {k : Nat} (h : pvS R S m T p0 k = some (p, s)) : Way R S m p0 p s ∧ (1 ≤ k → mkB m (T (k - 1)) = true ∧ p = (tkn S (T (k - 1)).toNat).2.1) := by
  induction k generalizing p s with
  | zero =>
    simp only [pvS, Option.some.injEq, Prod.mk.injEq] at h
    obtain ⟨rfl, rfl⟩ := h
    exact ⟨.nil _, fun h => absurd h (by omega)⟩
  | succ k ih =>
    rw [pvS] at h
    split at h
    · cases h
    · rename_i u hu
      split at h
      · rename_i hc
        obtain ⟨hm, he⟩ := hc
        simp only [Option.some.injEq, Prod.mk.injEq] at h
        obtain ⟨rfl, rfl⟩ := h
        obtain ⟨k0, k1⟩ := mkB_iff.1 hm
        have hlt : (T k).toNat < 2 * m := by omega
        have h1 := (ih hu).1.car (tkn S (T k).toNat).1 he.symm (by rw [← he]; exact hR _ hlt)
        exact ⟨(h1.sgt _ hlt).cast (by omega), fun _ => ⟨hm, rfl⟩⟩
      · cases h
/-- A proof shows a contradiction. -/
theorem prvV_not {R : Nat → Int} {S : Nat → Sgt} {m : Nat} (hR : ∀ k, k < 2 * m → 0 ≤ R (tkn S k).1.1.toNat) {T : Nat → Int} {n : Nat} (h : prvV R S m T n = true) : ¬ NoC R S m := fun hN => by
  simp only [prvV, Bool.and_eq_true, decide_eq_true_eq] at h
  obtain ⟨⟨h1, h2⟩, h3⟩ := h
  split at h3
  · cases h3
  · rename_i u hu
    have h3 := of_decide_eq_true h3
    obtain ⟨g1, g2⟩ := pvS_way hR (p := u.1) (s := u.2) hu
    rw [(g2 h1).2] at g1
    have := hN _ _ g1
    omega
/-- What the sum may be. -/
theorem pvS_bd {R : Nat → Int} {n m : Nat} {S : Nat → Sgt} (hv : VN R n S m) {T : Nat → Int} {p0 p : Spt} {s : Int} {k : Nat} (h0 : PtB n p0) (h : pvS R S m T p0 k = some (p, s)) : PtB n p ∧ -((k : Int) * 2000000000) ≤ s ∧ s ≤ (k : Int) * 2000000000 := by
  induction k generalizing p s with
  | zero =>
    simp only [pvS, Option.some.injEq, Prod.mk.injEq] at h
    obtain ⟨rfl, rfl⟩ := h
    exact ⟨h0, by omega, by omega⟩
  | succ k ih =>
    rw [pvS] at h
    split at h
    · cases h
    · rename_i u hu
      split at h
      · rename_i hc
        obtain ⟨hm, he⟩ := hc
        simp only [Option.some.injEq, Prod.mk.injEq] at h
        obtain ⟨rfl, rfl⟩ := h
        obtain ⟨k0, k1⟩ := mkB_iff.1 hm
        obtain ⟨a1, a2, a3⟩ := ih hu
        obtain ⟨b1, b2, b3, b4⟩ := tkn_ok hv (k := (T k).toNat) (by omega)
        have hr := hv.ra u.1.1.toNat (by have := a1.1; omega)
        have hx := crr_bd hr (dt := max u.1.2 (tkn S (T k).toNat).1.2 - min u.1.2 (tkn S (T k).toNat).1.2) (by have := a1.2; have := b1.2; omega)
        have hy : crb R u.1 (tkn S (T k).toNat).1 = crr (R u.1.1.toNat) (max u.1.2 (tkn S (T k).toNat).1.2 - min u.1.2 (tkn S (T k).toNat).1.2) := rfl
        refine ⟨b2, ?_, ?_⟩ <;> rw [hy] <;> omega
      · cases h
theorem put_0S {X : World} {b : Nat} {x : Value} (c0 : X.cell? ⟨b, 0, none⟩ = some x) (u v : Value) : ((X.setCell ⟨b, 0, none⟩ u).setCell ⟨b, 1, none⟩ v).cell? ⟨b, 0, none⟩ = some u := by go_cell
theorem put_1S {X : World} {b : Nat} {x y : Value} (c0 : X.cell? ⟨b, 0, none⟩ = some x) (c1 : X.cell? ⟨b, 1, none⟩ = some y) (u v : Value) : ((X.setCell ⟨b, 0, none⟩ u).setCell ⟨b, 1, none⟩ v).cell? ⟨b, 1, none⟩ = some v := by go_cell
theorem bl_alS (w : World) (o : Obj) : Bl w (w.alloc o) := by go_grown
theorem box_kS (w : World) (A : Option Addr) (n c : Nat) (B : Option Addr) (m d : Nat) : Bl w (w.alloc (Obj.cells #[.slice A n c, .slice B m d] 27)) ∧ (w.alloc (Obj.cells #[.slice A n c, .slice B m d] 27)).cell? ⟨w.heap.size, 0, none⟩ = some (.slice A n c) ∧ (w.alloc (Obj.cells #[.slice A n c, .slice B m d] 27)).cell? ⟨w.heap.size, 1, none⟩ = some (.slice B m d) := ⟨by go_grown, by go_cell, by go_cell⟩