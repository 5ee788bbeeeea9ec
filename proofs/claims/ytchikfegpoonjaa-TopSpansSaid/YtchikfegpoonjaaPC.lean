/-
  Package sight, pure: a circle below nothing lies behind a cost that falls in the last round.
-/
import Derived.Test.YtchikfegpoonjaaPB
namespace Go.Proofs.Ytchikfegpoonjaa
set_option linter.unusedSimpArgs false
set_option linter.unusedVariables false

/-- What is known of costs that were pushed: when each one fell last (the time, the round). -/
structure Gho (E : Nat → Edg) (m : Nat) (st : Stt) (T L : Nat → Nat) (now r : Nat) : Prop where
  up : ∀ v, (st.b v = -1 ∧ L v = 0) ∨ ∃ e, e < m ∧ st.b v = (e : Int) ∧ (E e).to = v ∧ 1 ≤ L v ∧ L v ≤ L (E e).fr + 1 ∧ st.c (E e).fr + (E e).co ≤ st.c v ∧ (T v < T (E e).fr → st.c (E e).fr + (E e).co < st.c v)
  tm : ∀ v, T v ≤ now
  ds : ∀ u v, 0 < T u → T u = T v → u = v
  lv : ∀ v, 1 ≤ L v → 0 < T v
  lr : ∀ v, L v ≤ r
/-- Which steps have been tried in the round r. -/
def Trd (E : Nat → Edg) (m : Nat) (st : Stt) (L : Nat → Nat) (r i : Nat) : Prop :=
  ∀ j, j < m → st.c (E j).to ≤ st.c (E j).fr + (E j).co ∨ st.c (E j).fr = unR ∨ (j < i ∧ r ≤ L (E j).fr) ∨ (i ≤ j ∧ r ≤ L (E j).fr + 1)
def updN (f : Nat → Nat) (t v : Nat) : Nat → Nat := fun j => if j = t then v else f j
theorem updN_same (f : Nat → Nat) (t v : Nat) : updN f t v t = v := if_pos rfl
theorem updN_ne (f : Nat → Nat) {t j : Nat} (v : Nat) (h : j ≠ t) : updN f t v j = f j := if_neg h
section
variable {E : Nat → Edg} {m : Nat}
theorem gho_push {st : Stt} {T L : Nat → Nat} {now r i : Nat} (hL : ∀ i, i < m → (E i).fr ≠ (E i).to) (h : Gho E m st T L now r) (ht : Trd E m st L r i) (hr : 1 ≤ r) (hi : i < m) (ho : okP (E i) st.c = true) :
    Gho E m (pushS E i st) (updN T (E i).to (now + 1)) (updN L (E i).to r) (now + 1) r ∧ Trd E m (pushS E i st) (updN L (E i).to r) r (i + 1) := by
  obtain ⟨ho1, ho2⟩ := okP_iff.1 ho
  have hne := hL i hi
  have cu : (pushS E i st).c (E i).fr = st.c (E i).fr := upd_ne _ _ hne
  have cv : (pushS E i st).c (E i).to = st.c (E i).fr + (E i).co := upd_same _ _ _
  have cx : ∀ x, x ≠ (E i).to → (pushS E i st).c x = st.c x := fun x hx => upd_ne _ _ hx
  have bv : (pushS E i st).b (E i).to = i := upd_same _ _ _
  have bx : ∀ x, x ≠ (E i).to → (pushS E i st).b x = st.b x := fun x hx => upd_ne _ _ hx
  have lu : r ≤ L (E i).fr + 1 := by
    rcases ht i hi with g | g | ⟨g, _⟩ | ⟨_, g⟩
    · omega
    · exact absurd g ho1
    · omega
    · exact g
  refine ⟨⟨fun x => ?_, fun x => ?_, fun x y => ?_, fun x => ?_, fun x => ?_⟩, fun j hj => ?_⟩
  · by_cases e : x = (E i).to
    · subst e
      right
      refine ⟨i, hi, bv, rfl, ?_, ?_, ?_, ?_⟩
      · rw [updN_same]; exact hr
      · rw [updN_same, updN_ne _ _ hne]; exact lu
      · rw [cu, cv]; exact Int.le_refl _
      · rw [updN_same, updN_ne _ _ hne]
        intro q
        have := h.tm (E i).fr
        omega
    · rcases h.up x with ⟨h1, h2⟩ | ⟨e', h1, h2, h3, h4, h5, h6, h7⟩
      · exact .inl ⟨by rw [bx x e]; exact h1, by rw [updN_ne _ _ e]; exact h2⟩
      · right
        refine ⟨e', h1, by rw [bx x e]; exact h2, h3, by rw [updN_ne _ _ e]; exact h4, ?_, ?_, ?_⟩
        · rw [updN_ne _ _ e]
          by_cases q : (E e').fr = (E i).to
          · rw [q, updN_same]; have := h.lr x; omega
          · rw [updN_ne _ _ q]; exact h5
        · rw [cx x e]
          by_cases q : (E e').fr = (E i).to
          · rw [q, cv]; rw [q] at h6; omega
          · rw [cx _ q]; exact h6
        · rw [cx x e, updN_ne _ _ e]
          by_cases q : (E e').fr = (E i).to
          · intro _; rw [q, cv]; rw [q] at h6; omega
          · rw [cx _ q, updN_ne _ _ q]; exact h7
  · by_cases e : x = (E i).to
    · rw [e, updN_same]; exact Nat.le_refl _
    · rw [updN_ne _ _ e]; have := h.tm x; omega
  · by_cases e : x = (E i).to <;> by_cases e' : y = (E i).to
    · intro _ _; rw [e, e']
    · rw [e, updN_same, updN_ne _ _ e']; have := h.tm y; intro _ q; omega
    · rw [e', updN_same, updN_ne _ _ e]; have := h.tm x; intro _ q; omega
    · rw [updN_ne _ _ e, updN_ne _ _ e']; exact h.ds x y
  · by_cases e : x = (E i).to
    · rw [e, updN_same, updN_same]; omega
    · rw [updN_ne _ _ e, updN_ne _ _ e]; exact h.lv x
  · by_cases e : x = (E i).to
    · rw [e, updN_same]; exact Nat.le_refl _
    · rw [updN_ne _ _ e]; exact h.lr x
  · by_cases ef : (E j).fr = (E i).to
    · rw [ef, updN_same]
      by_cases q : j < i + 1
      · exact .inr (.inr (.inl ⟨q, Nat.le_refl _⟩))
      · exact .inr (.inr (.inr ⟨by omega, by omega⟩))
    · rw [cx _ ef, updN_ne _ _ ef]
      by_cases e1 : j = i
      · subst e1; left; rw [cv]; exact Int.le_refl _
      · have key : (pushS E i st).c (E j).to ≤ st.c (E j).to := by
          by_cases et : (E j).to = (E i).to
          · rw [et, cv]; omega
          · rw [cx _ et]; exact Int.le_refl _
        rcases ht j hj with g | g | ⟨g1, g2⟩ | ⟨g1, g2⟩
        · left; omega
        · exact .inr (.inl g)
        · exact .inr (.inr (.inl ⟨by omega, g2⟩))
        · exact .inr (.inr (.inr ⟨by omega, g2⟩))
theorem trd_skip {st : Stt} {L : Nat → Nat} {r i : Nat} (ht : Trd E m st L r i) (ho : okP (E i) st.c = false) : Trd E m st L r (i + 1) := fun j hj => by
  by_cases e : j = i
  · subst e
    rcases okP_no.1 ho with g | g
    · exact .inr (.inl g)
    · exact .inl g
  · rcases ht j hj with g | g | ⟨g1, g2⟩ | ⟨g1, g2⟩
    · exact .inl g
    · exact .inr (.inl g)
    · exact .inr (.inr (.inl ⟨by omega, g2⟩))
    · exact .inr (.inr (.inr ⟨by omega, g2⟩))
theorem trd_next {st : Stt} {L : Nat → Nat} {r : Nat} (ht : Trd E m st L r m) : Trd E m st L (r + 1) 0 := fun j hj => by
  rcases ht j hj with g | g | ⟨g1, g2⟩ | ⟨g1, g2⟩
  · exact .inl g
  · exact .inr (.inl g)
  · exact .inr (.inr (.inr ⟨by omega, by omega⟩))
  · omega
theorem gho_pass {st : Stt} {T L : Nat → Nat} {now r : Nat} (hL : ∀ i, i < m → (E i).fr ≠ (E i).to) (h : Gho E m st T L now r) (ht : Trd E m st L r 0) (hr : 1 ≤ r) (i : Nat) (hi : i ≤ m) :
    ∃ T' L' now', Gho E m (pasS E st i).1 T' L' now' r ∧ Trd E m (pasS E st i).1 L' r i ∧ ((pasS E st i).2 = -1 ∨ ∃ v : Nat, (pasS E st i).2 = (v : Int) ∧ L' v = r ∧ ∃ j, j < m ∧ (E j).to = v) := by
  induction i with
  | zero => exact ⟨T, L, now, h, ht, .inl rfl⟩
  | succ i ih =>
    obtain ⟨T', L', now', h1, h2, h3⟩ := ih (by omega)
    cases ho : okP (E i) (pasS E st i).1.c with
    | true =>
      rw [pasS_yes ho]
      obtain ⟨g1, g2⟩ := gho_push hL h1 h2 hr (by omega) ho
      exact ⟨_, _, _, g1, g2, .inr ⟨(E i).to, rfl, updN_same _ _ _, i, by omega, rfl⟩⟩
    | false => rw [pasS_no ho]; exact ⟨T', L', now', h1, trd_skip h2 ho, h3⟩
theorem gho_mono {st : Stt} {T L : Nat → Nat} {now r r' : Nat} (h : Gho E m st T L now r) (hr : r ≤ r') : Gho E m st T L now r' := ⟨h.up, h.tm, h.ds, h.lv, fun v => Nat.le_trans (h.lr v) hr⟩
theorem gho_set (hL : ∀ i, i < m → (E i).fr ≠ (E i).to) : ∀ (k : Nat) {st : Stt} {f : Int} {T L : Nat → Nat} {now r : Nat}, Gho E m st T L now r → Trd E m st L (r + 1) 0 → 1 ≤ k →
    (setS E m k st f).2 = -1 ∨ ∃ T' L' now', ∃ v : Nat, Gho E m (setS E m k st f).1 T' L' now' (r + k) ∧ (setS E m k st f).2 = (v : Int) ∧ L' v = r + k ∧ ∃ j, j < m ∧ (E j).to = v := by
  intro k
  induction k with
  | zero => intro _ _ _ _ _ _ _ _ h; omega
  | succ k ih =>
    intro st f T L now r h ht _
    obtain ⟨T', L', now', h1, h2, h3⟩ := gho_pass hL (gho_mono h (Nat.le_succ r)) ht (by omega) m (Nat.le_refl _)
    rw [setS]
    split
    · left; assumption
    · rename_i hne
      cases k with
      | zero =>
        rcases h3 with h3 | ⟨v, h3, h4, h5⟩
        · exact absurd h3 hne
        · exact .inr ⟨T', L', now', v, h1, h3, h4, h5⟩
      | succ k =>
        have := ih (f := (pasS E st m).2) h1 (trd_next h2) (by omega)
        rw [show r + 1 + (k + 1) = r + (k + 1 + 1) by omega] at this
        exact this
/-- From a point back by the step by which it got its cost. -/
def prF (E : Nat → Edg) (b : Nat → Int) (v : Nat) : Nat := (E (b v).toNat).fr
def itF (f : Nat → Nat) : Nat → Nat → Nat
  | 0, v => v
  | k + 1, v => f (itF f k v)
theorem itF_add (f : Nat → Nat) (j k v : Nat) : itF f (j + k) v = itF f j (itF f k v) := by
  induction j with
  | zero => rw [Nat.zero_add]; rfl
  | succ j ih => rw [Nat.succ_add]; show f (itF f (j + k) v) = _; rw [ih]; rfl
theorem itF_one (f : Nat → Nat) (k v : Nat) : itF f k (f v) = itF f (k + 1) v := by rw [itF_add f k 1 v]; rfl
/-- The step by which a point got its cost is there. -/
def HasB (E : Nat → Edg) (m : Nat) (b : Nat → Int) (v : Nat) : Prop := ∃ e, e < m ∧ b v = (e : Int) ∧ (E e).to = v
theorem HasB.pr {b : Nat → Int} {v : Nat} (h : HasB E m b v) : ∃ e, e < m ∧ b v = (e : Int) ∧ (E e).to = v ∧ prF E b v = (E e).fr := by
  obtain ⟨e, h1, h2, h3⟩ := h
  exact ⟨e, h1, h2, h3, by simp [prF, h2]⟩
/-- The sum of the costs of so many steps back. -/
def smF (E : Nat → Edg) (b : Nat → Int) (v : Nat) : Nat → Int
  | 0 => 0
  | k + 1 => smF E b v k + (E (b (itF (prF E b) k v)).toNat).co
/-- A circle of steps back. -/
structure Cyc (E : Nat → Edg) (m : Nat) (b : Nat → Int) (y p : Nat) : Prop where
  p1 : 1 ≤ p
  ret : itF (prF E b) p y = y
  fst : ∀ k, 1 ≤ k → k < p → itF (prF E b) k y ≠ y
  has : ∀ k, HasB E m b (itF (prF E b) k y)
  neg : smF E b y p < 0
theorem least_pos {P : Nat → Prop} (h : ∃ p, 1 ≤ p ∧ P p) : ∃ p, 1 ≤ p ∧ P p ∧ ∀ k, 1 ≤ k → k < p → ¬ P k := by
  obtain ⟨p, h1, h2⟩ := h
  induction p using Nat.strongRecOn with
  | _ p ih =>
    by_cases q : ∃ k, 1 ≤ k ∧ k < p ∧ P k
    · obtain ⟨k, a, b, c⟩ := q; exact ih k b a c
    · exact ⟨p, h1, h2, fun k a b c => q ⟨k, a, b, c⟩⟩
theorem gho_cyc {st : Stt} {T L : Nat → Nat} {now n v : Nat} (hE : ∀ i, i < m → (E i).fr < n ∧ (E i).to < n) (hL : ∀ i, i < m → (E i).fr ≠ (E i).to) (h : Gho E m st T L now n) (hv : L v = n) (hvn : v < n) :
    (∀ k, k < n → HasB E m st.b (itF (prF E st.b) k v)) ∧ ∃ p, Cyc E m st.b (itF (prF E st.b) n v) p := by
  obtain ⟨x, hx⟩ : ∃ x : Nat → Nat, x = fun k => itF (prF E st.b) k v := ⟨_, rfl⟩
  have x0 : x 0 = v := by rw [hx]; rfl
  have xs : ∀ k, x (k + 1) = prF E st.b (x k) := fun k => by rw [hx]; rfl
  have xa : ∀ j k, x (j + k) = itF (prF E st.b) j (x k) := fun j k => by rw [hx]; exact itF_add _ _ _ _
  -- of a point with a round the step is there
  have hb : ∀ u, 1 ≤ L u → HasB E m st.b u ∧ L u ≤ L (prF E st.b u) + 1 ∧ prF E st.b u < n := fun u hu => by
    rcases h.up u with ⟨_, g⟩ | ⟨e, h1, h2, h3, h4, h5, _⟩
    · omega
    · have hp : prF E st.b u = (E e).fr := by simp [prF, h2]
      exact ⟨⟨e, h1, h2, h3⟩, by rw [hp]; exact h5, by rw [hp]; exact (hE e h1).1⟩
  have lk : ∀ k, k ≤ n → n ≤ L (x k) + k ∧ x k < n := by
    intro k
    induction k with
    | zero => intro _; rw [x0, hv]; exact ⟨by omega, hvn⟩
    | succ k ih =>
      intro hk
      obtain ⟨g1, g2⟩ := ih (by omega)
      obtain ⟨_, g4, g5⟩ := hb (x k) (by omega)
      rw [xs]
      exact ⟨by omega, g5⟩
  have l1 : ∀ k, k < n → 1 ≤ L (x k) := fun k hk => by have := (lk k (by omega)).1; omega
  obtain ⟨i, j, hij, hj, he⟩ := pigeon n x (fun k hk => (lk k hk).2)
  -- from the place i on all goes round
  have per : ∀ k, i ≤ k → x (k + (j - i)) = x k := fun k hk => by
    have a := xa (k - i) j
    have b := xa (k - i) i
    rw [show k - i + j = k + (j - i) by omega] at a
    rw [show k - i + i = k by omega] at b
    rw [a, b, he]
  have lall : ∀ k, 1 ≤ L (x k) := by
    intro k
    induction k using Nat.strongRecOn with
    | _ k ih =>
      by_cases q : k < n
      · exact l1 k q
      · have := per (k - (j - i)) (by omega)
        rw [show k - (j - i) + (j - i) = k by omega] at this
        rw [this]
        exact ih _ (by omega)
  have hasx : ∀ k, HasB E m st.b (x k) := fun k => (hb _ (lall k)).1
  have hxk : ∀ k, itF (prF E st.b) k v = x k := fun k => by rw [hx]
  refine ⟨fun k hk => by rw [hxk]; exact hasx k, ?_⟩
  rw [hxk]
  have hyk : ∀ k, itF (prF E st.b) k (x n) = x (k + n) := fun k => (xa k n).symm
  obtain ⟨p, p1, p2, p3⟩ := least_pos (P := fun p => itF (prF E st.b) p (x n) = x n) ⟨j - i, by omega, by rw [hyk, Nat.add_comm]; exact per n (by omega)⟩
  refine ⟨p, p1, p2, p3, fun k => by rw [hyk]; exact hasx _, ?_⟩
  -- each step of it costs at most the difference of its ends' costs; one of them less
  obtain ⟨y, hy⟩ : ∃ y : Nat → Nat, y = fun k => x (k + n) := ⟨_, rfl⟩
  have stp : ∀ k, ∃ e, e < m ∧ (E (st.b (y k)).toNat) = E e ∧ (E e).to = y k ∧ (E e).fr = y (k + 1) ∧ st.c (y (k + 1)) + (E e).co ≤ st.c (y k) ∧ (T (y k) < T (y (k + 1)) → st.c (y (k + 1)) + (E e).co < st.c (y k)) := fun k => by
    have hlk := lall (k + n)
    have hyk' : y k = x (k + n) := by rw [hy]
    rcases h.up (x (k + n)) with ⟨_, g⟩ | ⟨e, h1, h2, h3, h4, h5, h6, h7⟩
    · omega
    · have hp : prF E st.b (x (k + n)) = (E e).fr := by simp [prF, h2]
      have hyk1 : y (k + 1) = (E e).fr := by rw [hy, ← hp, ← xs]; simp [Nat.add_right_comm]
      exact ⟨e, h1, by rw [hyk', h2]; simp, by rw [hyk']; exact h3, hyk1.symm, by rw [hyk1, hyk']; exact h6, by rw [hyk1, hyk']; exact h7⟩
  have sm : ∀ k, smF E st.b (x n) k + st.c (y k) ≤ st.c (y 0) ∧ ((∃ q, q < k ∧ T (y q) < T (y (q + 1))) → smF E st.b (x n) k + st.c (y k) < st.c (y 0)) := by
    intro k
    induction k with
    | zero => exact ⟨by simp [smF], fun ⟨q, a, _⟩ => by omega⟩
    | succ k ih =>
      obtain ⟨e, h1, h2, h3, h4, h5, h6⟩ := stp k
      have hs : smF E st.b (x n) (k + 1) = smF E st.b (x n) k + (E e).co := by
        rw [smF, hyk]
        rw [show E (st.b (x (k + n))).toNat = E e from by rw [← h2, hy]]
      rw [hs]
      refine ⟨by omega, ?_⟩
      rintro ⟨q, a, b⟩
      by_cases e' : q = k
      · subst e'; have := h6 b; omega
      · have := ih.2 ⟨q, by omega, b⟩; omega
  have hyp : y p = y 0 := by rw [hy]; dsimp only; rw [← hyk, p2, Nat.zero_add]
  have hex : ∃ q, q < p ∧ T (y q) < T (y (q + 1)) := by
    refine Classical.byContradiction fun hno => ?_
    have dec : ∀ k, k ≤ p → T (y k) ≤ T (y 0) ∧ T (y p) ≤ T (y (p - k)) := by
      intro k
      induction k with
      | zero => intro _; exact ⟨Nat.le_refl _, by simp⟩
      | succ k ih =>
        intro hk
        obtain ⟨a, b⟩ := ih (by omega)
        have c : ¬ T (y k) < T (y (k + 1)) := fun q => hno ⟨k, by omega, q⟩
        have d : ¬ T (y (p - (k + 1))) < T (y (p - (k + 1) + 1)) := fun q => hno ⟨p - (k + 1), by omega, q⟩
        rw [show p - (k + 1) + 1 = p - k by omega] at d
        exact ⟨by omega, by omega⟩
    have a := (dec 1 p1).1
    have b := (dec (p - 1) (by omega)).2
    rw [show p - (p - 1) = 1 by omega, hyp] at b
    have lt0 : 0 < T (y 0) := h.lv _ (by rw [hy]; exact lall _)
    have eq := h.ds _ _ lt0 (show T (y 0) = T (y 1) by omega)
    obtain ⟨e, h1, h2, h3, h4, _⟩ := stp 0
    exact hL e h1 (by rw [h4, h3, eq])
  have := (sm p).2 hex
  rw [hyp] at this
  omega
/-- Costs that were all nothing and still fall in the last round: a circle below nothing lies behind the one that fell last. -/
theorem set_cyc {n : Nat} (hE : ∀ i, i < m → (E i).fr < n ∧ (E i).to < n) (hL : ∀ i, i < m → (E i).fr ≠ (E i).to) (hn : 1 ≤ n) (c0 : Nat → Int) (f : Int) (h : (setS E m n ⟨c0, fun _ => -1⟩ f).2 ≠ -1) :
    ∃ v : Nat, v < n ∧ (setS E m n ⟨c0, fun _ => -1⟩ f).2 = (v : Int) ∧ (∀ k, k < n → HasB E m (setS E m n ⟨c0, fun _ => -1⟩ f).1.b (itF (prF E (setS E m n ⟨c0, fun _ => -1⟩ f).1.b) k v)) ∧
      ∃ p, Cyc E m (setS E m n ⟨c0, fun _ => -1⟩ f).1.b (itF (prF E (setS E m n ⟨c0, fun _ => -1⟩ f).1.b) n v) p := by
  have h0 : Gho E m ⟨c0, fun _ => -1⟩ (fun _ => 0) (fun _ => 0) 0 0 := ⟨fun v => .inl ⟨rfl, rfl⟩, fun v => Nat.le_refl _, fun u v q => absurd q (by simp), fun v q => absurd q (by simp), fun v => Nat.le_refl _⟩
  rcases gho_set hL n (f := f) h0 (fun j hj => .inr (.inr (.inr ⟨Nat.zero_le _, by simp⟩))) hn with g | ⟨T', L', now', v, h1, h2, h3, j, hj, hv⟩
  · exact absurd g h
  · rw [Nat.zero_add] at h1 h3
    have hvn : v < n := by rw [← hv]; exact (hE j hj).2
    obtain ⟨g1, g2⟩ := gho_cyc hE hL h1 h3 hvn
    exact ⟨v, hvn, h2, g1, g2⟩
/-- The numbers of a proof that lie on so many steps back. -/
def noF (E : Nat → Edg) (b : Nat → Int) (v : Nat) : Nat → List Int
  | 0 => []
  | k + 1 => if (E (b (itF (prF E b) k v)).toNat).no = -1 then noF E b v k else noF E b v k ++ [(E (b (itF (prF E b) k v)).toNat).no]
theorem noF_len (E : Nat → Edg) (b : Nat → Int) (v k : Nat) : (noF E b v k).length ≤ k := by
  induction k with
  | zero => simp [noF]
  | succ k ih =>
    rw [noF]
    split
    · omega
    · simp; omega
/-- Not all steps of a circle below nothing are carries. -/
theorem Cyc.some {b : Nat → Int} {y p : Nat} (h : Cyc E m b y p) (hc : ∀ i, i < m → (E i).no = -1 → 0 ≤ (E i).co) : noF E b y p ≠ [] := by
  have key : ∀ k, noF E b y k = [] → 0 ≤ smF E b y k := by
    intro k
    induction k with
    | zero => intro _; exact Int.le_refl _
    | succ k ih =>
      intro hk
      rw [noF] at hk
      split at hk
      · rename_i q
        obtain ⟨e, h1, h2, _⟩ := h.has k
        rw [smF]
        have := ih hk
        rw [h2] at q ⊢
        have := hc e h1 (by simpa using q)
        simp only [Int.toNat_natCast]
        omega
      · simp at hk
  intro q
  have := key p q
  have := h.neg
  omega
end
end Go.Proofs.Ytchikfegpoonjaa
