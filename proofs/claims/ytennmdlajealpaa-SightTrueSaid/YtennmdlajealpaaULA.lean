/-
  Package sight: true errors lie in all bounds (pure); the law's `is`.
-/
import Derived.Test.YtennmdlajealpaaUE
namespace Go.Proofs.Ytennmdlajealpaa
open Go.RowKit Go.Maps
set_option linter.unusedSimpArgs false
set_option linter.unusedVariables false

/-- The error of a clock that keeps its rate, rounded down. -/
def isF (E Q : Nat → Int) (c : Nat) (t : Int) : Int := E c + Q c * t / 1000000000
/-- True errors: they keep the rates' bounds and fit all sights. -/
structure TrOk (E Q R : Nat → Int) (n : Nat) (S : Nat → Sgt) (m : Nat) : Prop where
  e0 : E 0 = 0
  q0 : Q 0 = 0
  ra : ∀ c, c < n → -R c ≤ Q c ∧ Q c ≤ R c
  sg : ∀ k, k < m → (S k).lo ≤ isF E Q (S k).ca.toNat (S k).tm - isF E Q (S k).cb.toNat (S k).tm ∧ isF E Q (S k).ca.toNat (S k).tm - isF E Q (S k).cb.toNat (S k).tm ≤ (S k).hi
def trP (E Q : Nat → Int) (p : Spt) : Int := isF E Q p.1.toNat p.2
theorem trP_spo {E Q R : Nat → Int} {n m : Nat} {S : Nat → Sgt} (h : TrOk E Q R n S m) (c t : Int) : trP E Q (spo c t) = isF E Q c.toNat t := by
  unfold spo
  split
  · rename_i e
    subst e
    simp [trP, isF, h.q0]
  · rfl
theorem floor_step {x y z : Int} (h : y - x ≤ z) : y / 1000000000 - x / 1000000000 ≤ (z + 999999999) / 1000000000 := by omega
theorem rate_le {q r s t : Int} (h1 : -r ≤ q) (h2 : q ≤ r) : q * t - q * s ≤ r * (max s t - min s t) := by
  rw [← Int.mul_sub]
  by_cases h : s ≤ t
  · rw [show max s t - min s t = t - s by omega]
    exact Int.mul_le_mul_of_nonneg_right h2 (by omega)
  · rw [show max s t - min s t = s - t by omega]
    have := Int.mul_le_mul_of_nonneg_right h1 (show 0 ≤ s - t by omega)
    have e1 : q * (t - s) = -(q * (s - t)) := by rw [← Int.mul_neg]; congr 1; omega
    have e2 : -r * (s - t) = -(r * (s - t)) := Int.neg_mul _ _
    omega
/-- No way is cheaper than what is true. -/
theorem tr_way {E Q R : Nat → Int} {n m : Nat} {S : Nat → Sgt} (hv : VN R n S m) (h : TrOk E Q R n S m) {p q : Spt} {w : Int} (hw : Way R S m p q w) (hp : 0 ≤ p.1 ∧ p.1 < (n : Int)) : (0 ≤ q.1 ∧ q.1 < (n : Int)) ∧ trP E Q q - trP E Q p ≤ w := by
  induction hw with
  | nil => exact ⟨hp, by omega⟩
  | sgt k hk g ih =>
    obtain ⟨_, ih⟩ := ih
    obtain ⟨_, b2, _⟩ := tkn_ok hv hk
    refine ⟨b2.1, ?_⟩
    have hs := h.sg (k / 2) (by omega)
    unfold tkn at ih ⊢
    split
    · rename_i e
      rw [if_pos e] at ih
      dsimp only at ih ⊢
      rw [trP_spo h] at ih ⊢
      omega
    · rename_i e
      rw [if_neg e] at ih
      dsimp only at ih ⊢
      rw [trP_spo h] at ih ⊢
      omega
  | car r g hc h0 ih =>
    rename_i q0 w0
    obtain ⟨hq, ih⟩ := ih
    refine ⟨by rw [← hc]; exact hq, ?_⟩
    have hra := h.ra q0.1.toNat (by omega)
    have h1 := rate_le (s := q0.2) (t := r.2) hra.1 hra.2
    have h2 := floor_step h1
    have e1 : trP E Q r = E q0.1.toNat + Q q0.1.toNat * r.2 / 1000000000 := by unfold trP isF; rw [hc]
    have e2 : trP E Q q0 = E q0.1.toNat + Q q0.1.toNat * q0.2 / 1000000000 := rfl
    have e3 : crb R q0 r = (R q0.1.toNat * (max q0.2 r.2 - min q0.2 r.2) + 999999999) / 1000000000 := rfl
    omega
theorem tr_noC {E Q R : Nat → Int} {n m : Nat} {S : Nat → Sgt} (hv : VN R n S m) (h : TrOk E Q R n S m) : NoC R S m := fun p w hw => by
  rcases hw.parts with ⟨_, h0⟩ | ⟨k, w1, w2, hk, h1, h2, rfl⟩
  · exact h0
  · have := (tr_way hv h (h2.append h1) (tkn_ok hv hk).1.1).2
    omega
/-- What is true lies within the bounds. -/
theorem tr_in {E Q R : Nat → Int} {n m : Nat} {S : Nat → Sgt} (h : TrOk E Q R n S m) {c : Nat} {t x y k : Int} (hv : VN R n S m) (hc : c < n) (ht : 0 ≤ t ∧ t ≤ 1000000000000) (g : BtR R S n m (c : Int) 0 t x y k) :
    k = 8 ∨ (k = 0 ∧ x ≤ isF E Q c t ∧ isF E Q c t ≤ y) := by
  have hN := tr_noC hv h
  by_cases hk : k = 0
  · subst hk
    obtain ⟨_, _, _, _, _, g1, g2, _, _⟩ := btr_ok g
    have n1 := hv.n2
    have p0 : (spo 0 t).1 = 0 := spo_fst _ _
    have pc : (spo (c : Int) t).1 = c := spo_fst _ _
    have u := (tr_way hv h g1.1 (by rw [p0]; omega)).2
    have v := (tr_way hv h g2.1 (by rw [pc]; omega)).2
    rw [trP_spo h, trP_spo h] at u v
    have z : isF E Q (0 : Int).toNat t = 0 := by simp [isF, h.e0, h.q0]
    rw [z, Int.toNat_natCast] at u v
    exact .inr ⟨rfl, by omega, by omega⟩
  · obtain ⟨_, _, g1⟩ := btr_bad g hk
    have c1 : (clB n (c : Int) && clB n 0) = true := by rw [clB_iff.2 ⟨by omega, by omega⟩, clB_iff.2 ⟨by omega, by have := hv.n2; omega⟩]; rfl
    rcases g1 with ⟨_, q⟩ | ⟨_, _, q⟩ | ⟨_, _, _, q⟩ | ⟨_, _, _, ⟨_, q⟩ | ⟨q, _⟩⟩
    · rw [vn_iff.2 hv] at q; cases q
    · rw [c1] at q; cases q
    · rw [inB_iff.2 ht] at q; cases q
    · exact absurd hN q
    · exact .inl q
theorem quo_floor {x : Int} : (x.tmod 1000000000 < 0 → x.tdiv 1000000000 - 1 = x / 1000000000) ∧ (¬ x.tmod 1000000000 < 0 → x.tdiv 1000000000 = x / 1000000000) := by
  by_cases h : 0 ≤ x
  · rw [Int.tdiv_eq_ediv_of_nonneg h, Int.tmod_eq_emod_of_nonneg h]
    omega
  · obtain ⟨y, rfl⟩ : ∃ y, x = -y := ⟨-x, by omega⟩
    rw [Int.neg_tdiv, Int.neg_tmod, Int.tdiv_eq_ediv_of_nonneg (by omega), Int.tmod_eq_emod_of_nonneg (by omega)]
    omega
theorem isF_bd {E Q : Nat → Int} {c : Nat} {t : Int} (h1 : -1000000 ≤ Q c ∧ Q c ≤ 1000000) (h2 : -86400000 ≤ E c ∧ E c ≤ 86400000) (ht : 0 ≤ t ∧ t ≤ 1000000000000) : -1000000000000000000 ≤ Q c * t ∧ Q c * t ≤ 1000000000000000000 ∧ -1100000000 ≤ isF E Q c t ∧ isF E Q c t ≤ 1100000000 := by
  have a := Int.mul_le_mul_of_nonneg_right h1.2 ht.1
  have b := Int.mul_le_mul_of_nonneg_right h1.1 ht.1
  have c1 : (1000000 : Int) * t ≤ 1000000 * 1000000000000 := Int.mul_le_mul_of_nonneg_left ht.2 (by omega)
  unfold isF
  omega
set_option maxRecDepth 100000 in
set_option maxHeartbeats 3200000 in
theorem is_any (AE : Option Addr) (ne ce : Nat) (E : Nat → Int) (AQ : Option Addr) (nq cq : Nat) (Q : Nat → Int) (c : Nat) (t : Int) (w : World) (hE : Sl w AE ne E) (hQ : Sl w AQ nq Q) (h1 : c < ne) (h2 : c < nq)
    (b1 : -1000000 ≤ Q c ∧ Q c ≤ 1000000) (b2 : -86400000 ≤ E c ∧ E c ≤ 86400000) (ht : 0 ≤ t ∧ t ≤ 1000000000000) :
    Calls Try.prog 52 #[.agg #[.slice AE ne ce, .slice AQ nq cq], .int .i64 (c : Int), .int .i64 t] w fun e w' => e = .returned (.int .i64 (isF E Q c t)) ∧ Bl w w' := by
  obtain ⟨q1, q2, q3, q4⟩ := isF_bd b1 b2 ht
  obtain ⟨f1, f2⟩ := @quo_floor (Q c * t)
  have hF : isF E Q c t = E c + Q c * t / 1000000000 := rfl
  obtain ⟨a1, o1, rfl, l1, hc1⟩ := hE (by omega)
  obtain ⟨a2, o2, rfl, l2, hc2⟩ := hQ (by omega)
  have x1 := hc1 c h1
  have x2 := hc2 c h2
  obtain ⟨r, hr⟩ : ∃ r, r = isF E Q c t := ⟨_, rfl⟩
  rw [← hr] at q3 q4 hF ⊢
  obtain ⟨u, hu⟩ : ∃ u, u = E c := ⟨_, rfl⟩
  obtain ⟨v, hv⟩ : ∃ v, v = Q c := ⟨_, rfl⟩
  rw [← hu] at x1 hF b2
  rw [← hv] at x2 hF q1 q2 f1 f2 b1
  clear hr hu hv hc1 hc2 hE hQ
  obtain ⟨z, hz⟩ : ∃ z, z = v * t := ⟨_, rfl⟩
  rw [← hz] at hF q1 q2 f1 f2
  have e0 : IntKind.i64.wrap (v * t) = z := by rw [← hz]; exact IntWalk.i64_in _ (by omega)
  obtain ⟨d, hd⟩ : ∃ d, d = z.tdiv 1000000000 := ⟨_, rfl⟩
  obtain ⟨m, hm⟩ : ∃ m, m = z.tmod 1000000000 := ⟨_, rfl⟩
  rw [← hd, ← hm] at f1 f2
  have ly1 : a1 < w.heap.size + 1 := by omega
  have ly2 : a2 < w.heap.size + 1 := by omega
  have hzb : -1000000001 ≤ z / 1000000000 ∧ z / 1000000000 ≤ 1000000001 := by omega
  have hmd : m = z - 1000000000 * d := by rw [hm, hd]; exact Int.tmod_def _ _
  by_cases hm0 : m < 0
  · have f3 := f1 hm0
    have e1 : IntKind.i64.wrap (z.tdiv 1000000000) = d := by rw [← hd]; exact IntWalk.i64_in _ (by omega)
    have e2 : IntKind.i64.wrap (z.tmod 1000000000) = m := by rw [← hm]; exact IntWalk.i64_in _ (by omega)
    have e3 : IntKind.i64.wrap (d - 1) = d - 1 := IntWalk.i64_in _ (by omega)
    have g3 : wrap64 (d - 1) = d - 1 := IntWalk.wrap64_in _ (by omega)
    have g4 : wrap64 (u + (d - 1)) = r := by rw [f3, ← hF]; exact IntWalk.wrap64_in _ (by omega)
    have hm1 : z.tmod 1000000000 < 0 := by rw [← hm]; exact hm0
    clear f1 f2 f3 hd hm hz hmd hzb hF q1 q2 q3 q4 b1 b2 ht
    go_enter Try.func52, Try.ntmps52
    go_wp2_with fail
    go_ret
    exact ⟨ret_int g4, by go_grown⟩
  · have f3 := f2 hm0
    have e1 : IntKind.i64.wrap (z.tdiv 1000000000) = d := by rw [← hd]; exact IntWalk.i64_in _ (by omega)
    have e2 : IntKind.i64.wrap (z.tmod 1000000000) = m := by rw [← hm]; exact IntWalk.i64_in _ (by omega)
    have g4 : wrap64 (u + d) = r := by rw [f3, ← hF]; exact IntWalk.wrap64_in _ (by omega)
    have hm1 : ¬ z.tmod 1000000000 < 0 := by rw [← hm]; exact hm0
    clear f1 f2 f3 hd hm hz hmd hzb hF q1 q2 q3 q4 b1 b2 ht
    go_enter Try.func52, Try.ntmps52
    go_wp2_with fail
    go_ret
    exact ⟨ret_int rfl, by go_grown⟩
end Go.Proofs.Ytennmdlajealpaa
