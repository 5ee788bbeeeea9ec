/-
  The walk of RateOpposite.
-/
import Derived.Test.YtbhdoafcjfcgfaaRK
namespace Go.Proofs.Ytbhdoafcjfcgfaa
open Go.RowKit
set_option linter.unusedSimpArgs false
set_option linter.unusedVariables false

theorem grown_set (W : World) (b o : Nat) (v : Value) : W.grownBy (W.setCell ⟨b, o, none⟩ v) (some b) :=
  ⟨rfl, rfl, rfl, (KeepsWalks.setCell W _ v).size, fun k _ hk => Below.heap_setCell _ _ _ k (fun e => hk (by rw [e]))⟩
theorem mn_congr {f g : Nat → Int} {k : Nat} (h0 : f 0 = g 0) (h : ∀ j, j < k → f j = g j) : mnF f k = mnF g k := by
  induction k with
  | zero => exact h0
  | succ k ih => rw [mnF, mnF, ih (fun j hj => h j (by omega)), h k (by omega)]
theorem mx_congr {f g : Nat → Int} {k : Nat} (h0 : f 0 = g 0) (h : ∀ j, j < k → f j = g j) : mxF f k = mxF g k := by
  induction k with
  | zero => exact h0
  | succ k ih => rw [mxF, mxF, ih (fun j hj => h j (by omega)), h k (by omega)]
theorem lp_congr {f g : Nat → Int} {k : Nat} (h : ∀ j, j < k → f j = g j) : lpF f k = lpF g k := by
  induction k with
  | zero => rfl
  | succ k ih => rw [lpF, lpF, ih (fun j hj => h j (by omega)), h k (by omega)]
theorem mn_neg (f : Nat → Int) (k : Nat) : mnF (fun j => -f j) k = -mxF f k := by
  induction k with
  | zero => rfl
  | succ k ih => rw [mnF, mxF, ih]; omega
theorem mx_neg (f : Nat → Int) (k : Nat) : mxF (fun j => -f j) k = -mnF f k := by
  induction k with
  | zero => rfl
  | succ k ih => rw [mnF, mxF, ih]; omega
theorem lp_neg (f : Nat → Int) (k : Nat) : lpF (fun j => -f j) k = lpF f k := by
  induction k with
  | zero => rfl
  | succ k ih => rw [lpF, lpF, ih, Int.natAbs_neg]
/-- The errors turned round. -/
def ngF (E : Nat → Int) (j : Nat) : Int := IntKind.i64.wrap (-(E j))
theorem ng_at {E : Nat → Int} {n j : Nat} (h : dyTo E n = true) (hj : j < n) : ngF E j = -(E j) := by
  have := dyTo_at h hj
  unfold ngF
  exact IntWalk.i64_in _ (by omega)
theorem ng_vb {s : ByteArray} {n : Nat} {E : Nat → Int} (h : vbB s n E = true) : vbB s n (ngF E) = true := by
  obtain ⟨a, b, c, d⟩ := vbB_iff.1 h
  refine vbB_iff.2 ⟨a, b, c, dyTo_of fun k hk => ?_⟩
  rw [ng_at d hk]
  have := dyTo_at d hk
  omega
theorem ng_tr {s : ByteArray} {n : Nat} {E : Nat → Int} (h : vbB s n E = true) (h2 : 2 ≤ (n - 1) / 7) :
    mnF (rtF (ngF E) 7) ((n - 1) / 7) = -mxF (rtF E 7) ((n - 1) / 7) ∧ mxF (rtF (ngF E) 7) ((n - 1) / 7) = -mnF (rtF E 7) ((n - 1) / 7) ∧ lpF (stF (rtF (ngF E) 7)) ((n - 1) / 7 - 1) = lpF (stF (rtF E 7)) ((n - 1) / 7 - 1) := by
  obtain ⟨_, _, c, d⟩ := vbB_iff.1 h
  have e : ∀ j, j < (n - 1) / 7 → rtF (ngF E) 7 j = -(rtF E 7 j) := fun j hj => by
    unfold rtF
    rw [ng_at d (j := 7 * (j + 1)) (by omega), ng_at d (j := 7 * j) (by omega)]
    omega
  refine ⟨?_, ?_, ?_⟩
  · rw [← mn_neg]; exact mn_congr (e 0 (by omega)) e
  · rw [← mx_neg]; exact mx_congr (e 0 (by omega)) e
  · rw [← lp_neg]
    refine lp_congr fun j hj => ?_
    unfold stF
    rw [e j (by omega), e (j + 1) (by omega)]
    omega
theorem trR_shape (s : ByteArray) (n : Nat) (E : Nat → Int) : ∃ (s' : ByteArray) (a b l q e : Int), trR s n E = .tuple #[.agg #[.string s', .int .i64 a, .int .i64 b, .int .i64 l, .int .i64 q], .int .i64 e] := by
  unfold trR trV trZ
  split
  · exact ⟨_, _, _, _, _, _, rfl⟩
  · split
    · exact ⟨_, _, _, _, _, _, rfl⟩
    · exact ⟨_, _, _, _, _, _, rfl⟩
theorem own_set {w : World} {base b o : Nat} {e : TypeId} {size n g cap : Nat} {u : Value} {xs : List Value} (h : w.ownsRow base e size (.slice (some ⟨g, 0, none⟩) n cap) n xs) (hb : b < base) : (w.setCell ⟨b, o, none⟩ u).ownsRow base e size (.slice (some ⟨g, 0, none⟩) n cap) n xs := by
  refine h.kept (grown_set w b o u) (.inr ?_)
  have hl := h.lt g rfl
  simp [Value.ownBlock]
  omega
