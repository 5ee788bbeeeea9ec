/-
  Package sight, pure: the document's net of two sights.
-/
import Derived.Test.YtchikfegpoonjaaPZ
namespace Go.Proofs.Ytchikfegpoonjaa
set_option linter.unusedSimpArgs false
set_option linter.unusedVariables false

/-- A height that no step of the first sight's net climbs at less than its cost. -/
def potT (T : Int) (p : Spt) : Int := if p.1 = 1 then crr 10000 (max p.2 T - min p.2 T) else if p.1 = 0 then crr 10000 (max 0 T - min 0 T) - 100 else 0
theorem twR_nonneg (k : Nat) : 0 ≤ twR k := by unfold twR; split <;> omega
theorem pot_way {T : Int} {p q : Spt} {w : Int} (h : Way twR twS 1 p q w) : potT T q ≤ potT T p + w := by
  induction h with
  | nil => omega
  | sgt k hk h ih =>
    rename_i w
    have hk2 : k = 0 ∨ k = 1 := by omega
    rcases hk2 with rfl | rfl
    · have e1 : (tkn twS 0).1 = (0, 0) := by simp [tkn, twS, spo]
      have e2 : (tkn twS 0).2.1 = (1, 0) := by simp [tkn, twS, spo]
      have e3 : (tkn twS 0).2.2 = 100 := by simp [tkn, twS]
      rw [e1] at ih
      rw [e2, e3]
      simp only [potT] at ih ⊢
      simp at ih ⊢
      omega
    · have e1 : (tkn twS 1).1 = (1, 0) := by simp [tkn, twS, spo]
      have e2 : (tkn twS 1).2.1 = (0, 0) := by simp [tkn, twS, spo]
      have e3 : (tkn twS 1).2.2 = -100 := by simp [tkn, twS]
      rw [e1] at ih
      rw [e2, e3]
      simp only [potT] at ih ⊢
      simp at ih ⊢
      omega
  | car r h hc h0 ih =>
    rename_i q w
    have hn : 0 ≤ crb twR q r := crb_nonneg (twR_nonneg _)
    have key : potT T r ≤ potT T q + crb twR q r := by
      unfold potT
      rw [← hc]
      split
      · rename_i e
        have er : crb twR q r = crr 10000 (max q.2 r.2 - min q.2 r.2) := by unfold crb; rw [e]; rfl
        rw [er]
        have h1 := crr_mono (r := 10000) (a := max r.2 T - min r.2 T) (b := (max q.2 T - min q.2 T) + (max q.2 r.2 - min q.2 r.2)) (by omega) (by omega)
        have h2 := crr_add (r := 10000) (a := max q.2 T - min q.2 T) (b := max q.2 r.2 - min q.2 r.2)
        omega
      · split <;> omega
    omega
theorem two_noC : NoC twR twS 1 := fun p w h => by
  have := pot_way (T := 0) h
  omega
theorem two_up : LstW twR twS 1 (0, 0) (1, 1000000) 110 := by
  refine ⟨?_, fun w h => ?_⟩
  · have h1 : Way twR twS 1 (0, 0) (1, 0) 100 := by
      have := Way.sgt (R := twR) (S := twS) (ns := 1) 0 (by omega) (Way.nil (tkn twS 0).1)
      have e1 : (tkn twS 0).1 = (0, 0) := by simp [tkn, twS, spo]
      have e2 : (tkn twS 0).2.1 = (1, 0) := by simp [tkn, twS, spo]
      have e3 : (tkn twS 0).2.2 = 100 := by simp [tkn, twS]
      rw [e1, e2, e3] at this
      exact this
    exact (h1.car (1, 1000000) rfl (twR_nonneg _)).cast (by decide)
  · have := pot_way (T := 0) h
    have a : potT 0 (1, 1000000) = 10 := by decide
    have b : potT 0 (0, 0) = -100 := by decide
    omega
theorem two_down : LstW twR twS 1 (1, 1000000) (0, 0) (-90) := by
  refine ⟨?_, fun w h => ?_⟩
  · have h1 : Way twR twS 1 (1, 1000000) (1, 0) (0 + crb twR (1, 1000000) (1, 0)) := (Way.nil (1, 1000000)).car (1, 0) rfl (twR_nonneg _)
    have e1 : (tkn twS 1).1 = (1, 0) := by simp [tkn, twS, spo]
    have e2 : (tkn twS 1).2.1 = (0, 0) := by simp [tkn, twS, spo]
    have e3 : (tkn twS 1).2.2 = -100 := by simp [tkn, twS]
    rw [← e1] at h1
    have := Way.sgt (R := twR) (S := twS) (ns := 1) 1 (by omega) h1
    rw [e2, e3] at this
    exact this.cast (by decide)
  · have := pot_way (T := 1000000) h
    have a : potT 1000000 (1, 1000000) = 0 := by decide
    have b : potT 1000000 (0, 0) = -90 := by decide
    omega
theorem two_not : ¬ NoC twR twS 2 := fun h => by
  have g1 : Way twR twS 2 (1, 1000000) (0, 0) (-150) := by
    have := Way.sgt (R := twR) (S := twS) (ns := 2) 3 (by omega) (Way.nil (tkn twS 3).1)
    have e1 : (tkn twS 3).1 = (1, 1000000) := by simp [tkn, twS, spo]
    have e2 : (tkn twS 3).2.1 = (0, 0) := by simp [tkn, twS, spo]
    have e3 : (tkn twS 3).2.2 = -150 := by simp [tkn, twS]
    rw [e1, e2, e3] at this
    exact this.cast (by omega)
  have e1 : (tkn twS 0).1 = (0, 0) := by simp [tkn, twS, spo]
  have e2 : (tkn twS 0).2.1 = (1, 0) := by simp [tkn, twS, spo]
  have e3 : (tkn twS 0).2.2 = 100 := by simp [tkn, twS]
  rw [← e1] at g1
  have g2 := Way.sgt (R := twR) (S := twS) (ns := 2) 0 (by omega) g1
  rw [e2, e3] at g2
  have g3 := g2.car (1, 1000000) rfl (twR_nonneg _)
  have := h _ _ g3
  have e : crb twR (1, 0) (1, 1000000) = 10 := by decide
  omega
theorem two_vn (m : Nat) (hm : m ≤ 2) : VN twR 2 twS m := ⟨by omega, by omega, by decide, by omega, fun k hk => by
  have : k = 0 ∨ k = 1 := by omega
  rcases this with rfl | rfl <;> decide, fun k hk => by
  have : k = 0 ∨ k = 1 := by omega
  rcases this with rfl | rfl <;> decide⟩
theorem two_err {x y k : Int} (h : BtR twR twS 2 1 1 0 1000000 x y k) : x = 90 ∧ y = 110 ∧ k = 0 := by
  have hv := vn_iff.2 (two_vn 1 (by omega))
  have e0 : spo 0 1000000 = (0, 0) := by simp [spo]
  have e1 : spo 1 1000000 = (1, 1000000) := by simp [spo]
  unfold BtR at h
  rw [e0, e1] at h
  rcases h with ⟨g, _⟩ | ⟨_, g, _⟩ | ⟨_, _, g, _⟩ | ⟨_, _, _, ⟨g, _⟩ | ⟨_, g, _⟩ | ⟨_, g1, g2, g3⟩⟩
  · rw [hv] at g; cases g
  · exact absurd g (by decide)
  · exact absurd g (by decide)
  · exact absurd two_noC g
  · exact absurd two_up.1 (g 110)
  · have hy := g1.uniq two_up
    rcases g2 with ⟨_, g⟩ | ⟨_, g⟩
    · exact absurd two_down.1 (g (-90))
    · have hx := g.uniq two_down
      exact ⟨by omega, hy, g3⟩
end Go.Proofs.Ytchikfegpoonjaa
