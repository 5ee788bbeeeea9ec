/-
  Package sight, pure: ways back, how far bounds may lie, what two answers of Between say of each other.
-/
import Derived.Test.YtchikfegpoonjaaPW
namespace Go.Proofs.Ytchikfegpoonjaa
set_option linter.unusedSimpArgs false
set_option linter.unusedVariables false

theorem tkn_flip (S : Nat → Sgt) (k : Nat) : ∃ k' c, k' / 2 = k / 2 ∧ tkn S k' = ((tkn S k).2.1, (tkn S k).1, c) := by
  have h2 : k % 2 = 0 ∨ k % 2 = 1 := by omega
  rcases h2 with h | h
  · refine ⟨k + 1, -(S (k / 2)).lo, by omega, ?_⟩
    have e : (k + 1) / 2 = k / 2 := by omega
    unfold tkn
    rw [if_pos (by omega), if_neg (by omega), e]
  · refine ⟨k - 1, (S (k / 2)).hi, by omega, ?_⟩
    have e : (k - 1) / 2 = k / 2 := by omega
    unfold tkn
    rw [if_neg (by omega), if_pos (by omega), e]
/-- Where steps lead, others lead back. -/
theorem way_back {R : Nat → Int} {S : Nat → Sgt} {m : Nat} {p q : Spt} {w : Int} (h : Way R S m p q w) : ∃ z, Way R S m q p z := by
  induction h with
  | nil => exact ⟨0, .nil _⟩
  | sgt k hk h ih =>
    obtain ⟨z, hz⟩ := ih
    obtain ⟨k', c, e1, e2⟩ := tkn_flip S k
    have g := Way.sgt (R := R) (S := S) (ns := m) k' (by omega) (Way.nil (tkn S k').1)
    rw [e2] at g
    exact ⟨_, g.append hz⟩
  | car r h hc h0 ih =>
    rename_i q w
    obtain ⟨z, hz⟩ := ih
    exact ⟨_, ((Way.nil r).car q hc.symm (by rw [← hc]; exact h0)).append hz⟩
/-- How far a least cost may lie. -/
theorem lst_bd {R : Nat → Int} {n m : Nat} {S : Nat → Sgt} (hv : VN R n S m) (hN : NoC R S m) {p q : Spt} (hp : PtB n p) (hq : PtB n q) {x : Int} (h : LstW R S m p q x) : -128000000000 ≤ x ∧ x ≤ 128000000000 := by
  obtain ⟨C, hK, hl⟩ := stp_ok (q := [p, q]) hv (vn_ne hv) (fun r hr => by
    simp at hr
    rcases hr with rfl | rfl
    · exact hp
    · exact hq) (by simp)
  obtain ⟨⟨h1, g1⟩, h2, g2⟩ := pts_two S m p q
  have hw := h.1
  rw [← g1] at hw
  have hw' : Way R S m (gtP (ptsC S m [p, q]) (ixP p (ptsC S m [p, q]))) (gtP (ptsC S m [p, q]) (ixP q (ptsC S m [p, q]))) x := by rw [g2]; exact hw
  obtain ⟨k, z, a1, a2⟩ := C.back0 h1 h2 hw'
  obtain ⟨l, z', b1, b2, b3⟩ := short C.ends (C.noC.2 hN) (by omega) k _ _ z a1
  have c1 := C.way b1
  rw [g1, g2] at c1
  have c2 := h.2 _ c1
  have d := walk_bd hK.cost b1
  have e1 : (l : Int) * 1000000000 ≤ 128000000000 := by omega
  omega
/-- A good answer of Between. -/
theorem btr_ok {R : Nat → Int} {S : Nat → Sgt} {n m : Nat} {a b t x y : Int} (h : BtR R S n m a b t x y 0) :
    VN R n S m ∧ (0 ≤ a ∧ a < (n : Int)) ∧ (0 ≤ b ∧ b < (n : Int)) ∧ (0 ≤ t ∧ t ≤ 1000000000000) ∧ NoC R S m ∧ LstW R S m (spo b t) (spo a t) y ∧ LstW R S m (spo a t) (spo b t) (-x) ∧ (-128000000000 ≤ x ∧ x ≤ 128000000000) ∧ (-128000000000 ≤ y ∧ y ≤ 128000000000) := by
  rcases h with ⟨_, _, _, g⟩ | ⟨_, _, _, _, g⟩ | ⟨_, _, _, _, _, g⟩ | ⟨hv, hc, ht, ⟨_, _, _, g⟩ | ⟨_, _, _, _, g⟩ | ⟨hN, h1, h2, _⟩⟩
  · exact absurd g (by decide)
  · exact absurd g (by decide)
  · exact absurd g (by decide)
  · exact absurd g (by decide)
  · exact absurd g (by decide)
  · have hv := vn_iff.1 hv
    obtain ⟨ha, hb⟩ := (Bool.and_eq_true _ _ ▸ hc : clB n a = true ∧ clB n b = true)
    have ht := inB_iff.1 ht
    have ha := clB_iff.1 ha
    have hb := clB_iff.1 hb
    have n1 : 1 ≤ n := by have := hv.n2; omega
    have pa := spo_ok n1 ha ht
    have pb := spo_ok n1 hb ht
    have h3 : LstW R S m (spo a t) (spo b t) (-x) := by
      rcases h2 with ⟨_, g⟩ | ⟨_, g⟩
      · obtain ⟨z, hz⟩ := way_back h1.1
        exact absurd hz (g z)
      · exact g
    have d1 := lst_bd hv hN pb pa h1
    have d2 := lst_bd hv hN pa pb h3
    exact ⟨hv, ha, hb, ht, hN, h1, h3, ⟨by omega, by omega⟩, d1⟩
/-- An answer that is none. -/
theorem btr_bad {R : Nat → Int} {S : Nat → Sgt} {n m : Nat} {a b t x y k : Int} (h : BtR R S n m a b t x y k) (hk : k ≠ 0) : x = 0 ∧ y = 0 ∧
    ((k = 1 ∧ vnB R n S m = false) ∨ (k = 5 ∧ vnB R n S m = true ∧ (clB n a && clB n b) = false) ∨ (k = 7 ∧ vnB R n S m = true ∧ (clB n a && clB n b) = true ∧ inB t 0 1000000000000 = false) ∨
      (vnB R n S m = true ∧ (clB n a && clB n b) = true ∧ inB t 0 1000000000000 = true ∧ ((k = 9 ∧ ¬ NoC R S m) ∨ (k = 8 ∧ NoC R S m ∧ ∀ w, ¬ Way R S m (spo b t) (spo a t) w)))) := by
  rcases h with ⟨g1, g2, g3, g⟩ | ⟨g1, g2, g3, g4, g⟩ | ⟨g1, g2, g3, g4, g5, g⟩ | ⟨hv, hc, ht, ⟨g1, g2, g3, g⟩ | ⟨g1, g2, g3, g4, g⟩ | ⟨_, _, _, g⟩⟩
  · exact ⟨g2, g3, .inl ⟨g, g1⟩⟩
  · exact ⟨g3, g4, .inr (.inl ⟨g, g1, g2⟩)⟩
  · exact ⟨g4, g5, .inr (.inr (.inl ⟨g, g1, g2, g3⟩))⟩
  · exact ⟨g2, g3, .inr (.inr (.inr ⟨hv, hc, ht, .inl ⟨g, g1⟩⟩))⟩
  · exact ⟨g3, g4, .inr (.inr (.inr ⟨hv, hc, ht, .inr ⟨g, g1, g2⟩⟩))⟩
  · exact absurd g hk
theorem btr_of_ok {R : Nat → Int} {S : Nat → Sgt} {n m : Nat} {a b t x y : Int} (hv : VN R n S m) (ha : 0 ≤ a ∧ a < (n : Int)) (hb : 0 ≤ b ∧ b < (n : Int)) (ht : 0 ≤ t ∧ t ≤ 1000000000000) (hN : NoC R S m) (h1 : LstW R S m (spo b t) (spo a t) y) {x' y' k' : Int} (h : BtR R S n m a b t x' y' k') : k' = 0 ∧ y' = y := by
  have v := vn_iff.2 hv
  have c : (clB n a && clB n b) = true := by rw [clB_iff.2 ha, clB_iff.2 hb]; rfl
  have i := inB_iff.2 ht
  rcases h with ⟨g, _⟩ | ⟨_, g, _⟩ | ⟨_, _, g, _⟩ | ⟨_, _, _, ⟨g, _⟩ | ⟨_, g, _⟩ | ⟨_, g1, g2, g3⟩⟩
  · rw [v] at g; cases g
  · rw [c] at g; cases g
  · rw [i] at g; cases g
  · exact absurd hN g
  · exact absurd h1.1 (g y)
  · exact ⟨g3, g1.uniq h1⟩
/-- The difference turned round. -/
theorem btr_turn {R : Nat → Int} {S : Nat → Sgt} {n m : Nat} {a b t x y k x' y' k' : Int} (h : BtR R S n m a b t x y k) (g : BtR R S n m b a t x' y' k') : k' = k ∧ (k = 0 → x' = -y ∧ y' = -x) := by
  by_cases hk : k = 0
  · subst hk
    obtain ⟨hv, ha, hb, ht, hN, h1, h2, _, _⟩ := btr_ok h
    obtain ⟨rfl, e⟩ := btr_of_ok (x := x) hv hb ha ht hN h2 g
    obtain ⟨_, _, _, _, _, g1, g2, _, _⟩ := btr_ok g
    have := g2.uniq h1
    exact ⟨rfl, fun _ => ⟨by omega, e⟩⟩
  · refine ⟨?_, fun e => absurd e hk⟩
    by_cases hk' : k' = 0
    · subst hk'
      obtain ⟨hv, ha, hb, ht, hN, h1, h2, _, _⟩ := btr_ok g
      obtain ⟨rfl, _⟩ := btr_of_ok (x := x) hv hb ha ht hN h2 h
      exact absurd rfl hk
    · obtain ⟨_, _, h1⟩ := btr_bad h hk
      obtain ⟨_, _, g1⟩ := btr_bad g hk'
      rw [Bool.and_comm] at g1
      rcases h1 with ⟨a1, a2⟩ | ⟨a1, a2, a3⟩ | ⟨a1, a2, a3, a4⟩ | ⟨a2, a3, a4, ⟨a1, a5⟩ | ⟨a1, a5, a6⟩⟩ <;>
      rcases g1 with ⟨b1, b2⟩ | ⟨b1, b2, b3⟩ | ⟨b1, b2, b3, b4⟩ | ⟨b2, b3, b4, ⟨b1, b5⟩ | ⟨b1, b5, b6⟩⟩ <;>
      first
        | omega
        | (rw [a2] at b2; exact Bool.noConfusion b2)
        | (rw [a3] at b3; exact Bool.noConfusion b3)
        | (rw [a4] at b4; exact Bool.noConfusion b4)
        | exact absurd a5 b5
        | exact absurd b5 a5
theorem btr_uniq {R : Nat → Int} {S : Nat → Sgt} {n m : Nat} {a b t x y k x' y' k' : Int} (h : BtR R S n m a b t x y k) (g : BtR R S n m a b t x' y' k') : x' = x ∧ y' = y ∧ k' = k := by
  by_cases hk : k = 0
  · subst hk
    obtain ⟨hv, ha, hb, ht, hN, h1, h2, _, _⟩ := btr_ok h
    obtain ⟨rfl, e⟩ := btr_of_ok (x := x) hv ha hb ht hN h1 g
    obtain ⟨_, _, _, _, _, g1, g2, _, _⟩ := btr_ok g
    have := g2.uniq h2
    exact ⟨by omega, e, rfl⟩
  · by_cases hk' : k' = 0
    · subst hk'
      obtain ⟨hv, ha, hb, ht, hN, h1, h2, _, _⟩ := btr_ok g
      obtain ⟨rfl, _⟩ := btr_of_ok (x := x) hv ha hb ht hN h1 h
      exact absurd rfl hk
    · obtain ⟨e1, e2, h1⟩ := btr_bad h hk
      obtain ⟨e3, e4, g1⟩ := btr_bad g hk'
      refine ⟨by omega, by omega, ?_⟩
      rcases h1 with ⟨a1, a2⟩ | ⟨a1, a2, a3⟩ | ⟨a1, a2, a3, a4⟩ | ⟨a2, a3, a4, ⟨a1, a5⟩ | ⟨a1, a5, a6⟩⟩ <;>
      rcases g1 with ⟨b1, b2⟩ | ⟨b1, b2, b3⟩ | ⟨b1, b2, b3, b4⟩ | ⟨b2, b3, b4, ⟨b1, b5⟩ | ⟨b1, b5, b6⟩⟩ <;>
      first
        | omega
        | (rw [a2] at b2; exact Bool.noConfusion b2)
        | (rw [a3] at b3; exact Bool.noConfusion b3)
        | (rw [a4] at b4; exact Bool.noConfusion b4)
        | exact absurd a5 b5
        | exact absurd b5 a5
/-- Bounds over a third clock are no narrower. -/
theorem btr_over {R : Nat → Int} {S : Nat → Sgt} {n m : Nat} {a b c t x y x1 y1 x2 y2 : Int} (h : BtR R S n m a b t x y 0) (g1 : BtR R S n m a c t x1 y1 0) (g2 : BtR R S n m c b t x2 y2 0) : x1 + x2 ≤ x ∧ y ≤ y1 + y2 := by
  obtain ⟨_, _, _, _, _, h1, h2, _, _⟩ := btr_ok h
  obtain ⟨_, _, _, _, _, a1, a2, _, _⟩ := btr_ok g1
  obtain ⟨_, _, _, _, _, b1, b2, _, _⟩ := btr_ok g2
  have u := h1.2 _ (b1.1.append a1.1)
  have v := h2.2 _ (a2.1.append b2.1)
  omega
end Go.Proofs.Ytchikfegpoonjaa
