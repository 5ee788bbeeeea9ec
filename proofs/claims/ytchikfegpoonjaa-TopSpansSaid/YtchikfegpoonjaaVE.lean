/-
  TopSpans, pure: what a net of two clocks says of its clock.
-/
import Derived.Test.YtchikfegpoonjaaQA
namespace Go.Proofs.Ytchikfegpoonjaa
set_option linter.unusedSimpArgs false
set_option linter.unusedVariables false

/-- What a sight says of clock 1 by the sky at its own time. -/
def upH (s : Sgt) : Int := if s.ca = 0 then -s.lo else s.hi
def loH (s : Sgt) : Int := if s.ca = 0 then -s.hi else s.lo
theorem tk2 {R : Nat → Int} {S : Nat → Sgt} {m j : Nat} (h : VN R 2 S m) (hj : j < 2 * m) : ∃ k, k < m ∧ (((tkn S j).1 = (0, 0) ∧ (tkn S j).2.1 = (1, (S k).tm) ∧ (tkn S j).2.2 = upH (S k)) ∨ ((tkn S j).1 = (1, (S k).tm) ∧ (tkn S j).2.1 = (0, 0) ∧ (tkn S j).2.2 = -loH (S k))) := by
  refine ⟨j / 2, by omega, ?_⟩
  have hs := sgB_iff.1 (h.sg (j / 2) (by omega))
  obtain ⟨t1, a1, b1, hne, _⟩ := hs
  have e0 : ∀ t, spo 0 t = (0, 0) := fun t => by simp [spo]
  have e1 : ∀ t, spo 1 t = (1, t) := fun t => by simp [spo]
  have hc : ((S (j / 2)).ca = 0 ∧ (S (j / 2)).cb = 1) ∨ ((S (j / 2)).ca = 1 ∧ (S (j / 2)).cb = 0) := by omega
  unfold tkn upH loH
  rcases hc with ⟨ha, hb⟩ | ⟨ha, hb⟩
  · rw [ha, hb, e0, e1]
    by_cases q : j % 2 = 0
    · simp [q]
    · have q1 : j % 2 = 1 := by omega
      simp [q1]
  · rw [ha, hb, e0, e1]
    by_cases q : j % 2 = 0
    · simp [q]
    · have q1 : j % 2 = 1 := by omega
      simp [q1]
theorem tk2_up {R : Nat → Int} {S : Nat → Sgt} {m k : Nat} (h : VN R 2 S m) (hk : k < m) : Way R S m (0, 0) (1, (S k).tm) (upH (S k)) ∧ Way R S m (1, (S k).tm) (0, 0) (-loH (S k)) := by
  have hs := sgB_iff.1 (h.sg k hk)
  obtain ⟨t1, a1, b1, hne, _⟩ := hs
  have e0 : ∀ t, spo 0 t = (0, 0) := fun t => by simp [spo]
  have e1 : ∀ t, spo 1 t = (1, t) := fun t => by simp [spo]
  have hc : ((S k).ca = 0 ∧ (S k).cb = 1) ∨ ((S k).ca = 1 ∧ (S k).cb = 0) := by omega
  have d1 : (2 * k) / 2 = k := by omega
  have d2 : (2 * k + 1) / 2 = k := by omega
  have d3 : (2 * k) % 2 = 0 := by omega
  have d4 : (2 * k + 1) % 2 = 1 := by omega
  have w0 := Way.sgt (R := R) (S := S) (ns := m) (2 * k) (by omega) (Way.nil (tkn S (2 * k)).1)
  have w1 := Way.sgt (R := R) (S := S) (ns := m) (2 * k + 1) (by omega) (Way.nil (tkn S (2 * k + 1)).1)
  unfold tkn at w0 w1
  rw [d1, d3] at w0
  rw [d2, d4] at w1
  unfold upH loH
  rcases hc with ⟨ha, hb⟩ | ⟨ha, hb⟩
  · rw [ha, hb, e0, e1] at w0 w1
    rw [ha]
    refine ⟨?_, ?_⟩
    · exact Way.cast w1 (by simp)
    · exact Way.cast w0 (by simp)
  · rw [ha, hb, e0, e1] at w0 w1
    rw [ha]
    refine ⟨?_, ?_⟩
    · exact Way.cast w0 (by simp)
    · exact Way.cast w1 (by simp)
section
variable {R : Nat → Int} {S : Nat → Sgt} {m : Nat}
theorem cc_tri (h : VN R 2 S m) (a b c : Int) : crb R (1, a) (1, c) ≤ crb R (1, a) (1, b) + crb R (1, b) (1, c) :=
  crb_tri (R := R) (p := (1, a)) (q := (1, b)) (r := (1, c)) (h.ra 1 (by omega)).1 rfl
theorem loop2 (h : VN R 2 S m) (hN : NoC R S m) {j k : Nat} (hj : j < m) (hk : k < m) : 0 ≤ upH (S j) + crb R (1, (S j).tm) (1, (S k).tm) - loH (S k) := by
  have w := ((tk2_up h hj).1.car (1, (S k).tm) rfl (h.ra 1 (by omega)).1).append (tk2_up h hk).2
  have := hN _ _ w
  omega
theorem up_ge (h : VN R 2 S m) (hN : NoC R S m) {p q : Spt} {w : Int} (hw : Way R S m p q w) (hp : p.1 = 0) : (q.1 = 0 ∧ 0 ≤ w) ∨ (q.1 = 1 ∧ ∃ k, k < m ∧ upH (S k) + crb R (1, (S k).tm) (1, q.2) ≤ w) := by
  induction hw with
  | nil => exact .inl ⟨hp, Int.le_refl _⟩
  | sgt j hj g ih =>
    obtain ⟨k, hk, ⟨e1, e2, e3⟩ | ⟨e1, e2, e3⟩⟩ := tk2 h hj
    · rw [e1] at ih
      rw [e2, e3]
      rcases ih with ⟨_, i2⟩ | ⟨i1, _⟩
      · exact .inr ⟨rfl, k, hk, by rw [crb_same]; omega⟩
      · exact absurd i1 (by simp)
    · rw [e1] at ih
      rw [e2, e3]
      rcases ih with ⟨i1, _⟩ | ⟨_, i, hi, i2⟩
      · exact absurd i1 (by simp)
      · have := loop2 h hN hi hk
        simp only at i2
        exact .inl ⟨rfl, by omega⟩
  | car r g hc h0 ih =>
    rename_i q w
    have hn : 0 ≤ crb R q r := crb_nonneg h0
    rcases ih with ⟨i1, i2⟩ | ⟨i1, k, hk, i2⟩
    · exact .inl ⟨by omega, by omega⟩
    · refine .inr ⟨by omega, k, hk, ?_⟩
      have eq : q = (1, q.2) := by rw [← i1]
      have er : r = (1, r.2) := by rw [← i1, hc]
      have := cc_tri h (S k).tm q.2 r.2
      rw [← eq, ← er] at this
      rw [← eq] at i2
      rw [← er]
      omega
theorem dn_ge (h : VN R 2 S m) (hN : NoC R S m) {a : Int} {p q : Spt} {w : Int} (hw : Way R S m p q w) (hp : p = (1, a)) :
    (q.1 = 0 ∧ ∃ k, k < m ∧ crb R (1, a) (1, (S k).tm) - loH (S k) ≤ w) ∨ (q.1 = 1 ∧ (crb R (1, a) (1, q.2) ≤ w ∨ ∃ k j, k < m ∧ j < m ∧ (crb R (1, a) (1, (S k).tm) - loH (S k)) + (upH (S j) + crb R (1, (S j).tm) (1, q.2)) ≤ w)) := by
  induction hw with
  | nil => exact .inr ⟨by rw [hp], .inl (by rw [hp]; simp only; rw [crb_same]; exact Int.le_refl _)⟩
  | sgt i hi g ih =>
    obtain ⟨k, hk, ⟨e1, e2, e3⟩ | ⟨e1, e2, e3⟩⟩ := tk2 h hi
    · rw [e1] at ih
      rw [e2, e3]
      rcases ih with ⟨_, b, hb, i2⟩ | ⟨i1, _⟩
      · exact .inr ⟨rfl, .inr ⟨b, k, hb, hk, by rw [crb_same]; omega⟩⟩
      · exact absurd i1 (by simp)
    · rw [e1] at ih
      rw [e2, e3]
      rcases ih with ⟨i1, _⟩ | ⟨_, i2 | ⟨b, j, hb, hj, i2⟩⟩
      · exact absurd i1 (by simp)
      · simp only at i2
        exact .inl ⟨rfl, k, hk, by omega⟩
      · have := loop2 h hN hj hk
        simp only at i2
        exact .inl ⟨rfl, b, hb, by omega⟩
  | car r g hc h0 ih =>
    rename_i q w
    have hn : 0 ≤ crb R q r := crb_nonneg h0
    rcases ih with ⟨i1, k, hk, i2⟩ | ⟨i1, i2⟩
    · exact .inl ⟨by omega, k, hk, by omega⟩
    · have eq : q = (1, q.2) := by rw [← i1]
      have er : r = (1, r.2) := by rw [← i1, hc]
      refine .inr ⟨by omega, ?_⟩
      rcases i2 with i2 | ⟨b, j, hb, hj, i2⟩
      · have := cc_tri h a q.2 r.2
        rw [← eq, ← er] at this
        rw [← eq] at i2
        rw [← er]
        exact .inl (by omega)
      · have := cc_tri h (S j).tm q.2 r.2
        rw [← eq, ← er] at this
        rw [← eq] at i2
        rw [← er]
        exact .inr ⟨b, j, hb, hj, by omega⟩
end
theorem crb_turn (R : Nat → Int) (a b : Int) : crb R (1, a) (1, b) = crb R (1, b) (1, a) := by
  unfold crb
  simp only
  congr 1
  omega
theorem spans_err {R : Nat → Int} {S : Nat → Sgt} (h : VN R 2 S 2) (hN : NoC R S 2) {t x y k : Int} (ht : 0 ≤ t ∧ t ≤ 1000000000000) (hb : BtR R S 2 2 1 0 t x y k) :
    x = max (loH (S 0) - crb R (1, (S 0).tm) (1, t)) (loH (S 1) - crb R (1, (S 1).tm) (1, t)) ∧ y = min (upH (S 0) + crb R (1, (S 0).tm) (1, t)) (upH (S 1) + crb R (1, (S 1).tm) (1, t)) ∧ k = 0 ∧ x ≤ y := by
  have hv := vn_iff.2 h
  have e0 : spo 0 t = (0, 0) := by simp [spo]
  have e1 : spo 1 t = (1, t) := by simp [spo]
  have r1 := (h.ra 1 (by omega)).1
  have u0 := (tk2_up h (show 0 < 2 by omega)).1.car (1, t) rfl r1
  have u1 := (tk2_up h (show 1 < 2 by omega)).1.car (1, t) rfl r1
  have v0 := ((Way.nil (R := R) (S := S) (ns := 2) (1, t)).car (1, (S 0).tm) rfl r1).append (tk2_up h (show 0 < 2 by omega)).2
  have v1 := ((Way.nil (R := R) (S := S) (ns := 2) (1, t)).car (1, (S 1).tm) rfl r1).append (tk2_up h (show 1 < 2 by omega)).2
  unfold BtR at hb
  rw [e0, e1] at hb
  rcases hb with ⟨g, _⟩ | ⟨_, g, _⟩ | ⟨_, _, g, _⟩ | ⟨_, _, _, ⟨g, _⟩ | ⟨_, g, _⟩ | ⟨_, g1, g2, g3⟩⟩
  · rw [hv] at g; cases g
  · exact absurd g (by decide)
  · exfalso
    revert g
    simp only [inB]
    simp
    omega
  · exact absurd hN g
  · exact absurd u0 (g _)
  · have y0 := g1.2 _ u0
    have y1 := g1.2 _ u1
    have hy : y = min (upH (S 0) + crb R (1, (S 0).tm) (1, t)) (upH (S 1) + crb R (1, (S 1).tm) (1, t)) := by
      rcases up_ge h hN g1.1 rfl with ⟨i1, _⟩ | ⟨_, k, hk, i2⟩
      · exact absurd i1 (by simp)
      · simp only at i2
        obtain rfl | rfl : k = 0 ∨ k = 1 := by omega
        · omega
        · omega
    rcases g2 with ⟨_, g⟩ | ⟨_, g⟩
    · exact absurd v0 (g _)
    · have x0 := g.2 _ v0
      have x1 := g.2 _ v1
      have c0 := crb_turn R t (S 0).tm
      have c1 := crb_turn R t (S 1).tm
      have hxy := hN _ _ (g1.1.append g.1)
      refine ⟨?_, hy, g3, by omega⟩
      rcases dn_ge h hN g.1 rfl with ⟨_, k, hk, i2⟩ | ⟨i1, _⟩
      · obtain rfl | rfl : k = 0 ∨ k = 1 := by omega
        · omega
        · omega
      · exact absurd i1 (by simp)
theorem spans_bad {R : Nat → Int} {S : Nat → Sgt} {m : Nat} (h : VN R 2 S m) (hN : ¬ NoC R S m) {t x y k : Int} (ht : 0 ≤ t ∧ t ≤ 1000000000000) (hb : BtR R S 2 m 1 0 t x y k) : k = 9 := by
  have hv := vn_iff.2 h
  unfold BtR at hb
  rcases hb with ⟨g, _⟩ | ⟨_, g, _⟩ | ⟨_, _, g, _⟩ | ⟨_, _, _, ⟨_, _, _, g⟩ | ⟨g, _⟩ | ⟨g, _⟩⟩
  · rw [hv] at g; cases g
  · exact absurd g (by decide)
  · exfalso
    revert g
    simp only [inB]
    simp
    omega
  · exact g
  · exact absurd g hN
  · exact absurd g hN
end Go.Proofs.Ytchikfegpoonjaa
