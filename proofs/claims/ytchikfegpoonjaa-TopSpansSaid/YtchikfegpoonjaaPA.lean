/-
  Package sight, pure: costs that are pushed along steps until nothing changes.
-/
import Derived.Test.YtchikfegpoonjaaKB
namespace Go.Proofs.Ytchikfegpoonjaa
set_option linter.unusedSimpArgs false
set_option linter.unusedVariables false

/-- What stands for no cost. -/
abbrev unR : Int := 9223372036854775807
/-- A step of a chart. -/
structure Edg where
  fr : Nat
  to : Nat
  co : Int
  no : Int
/-- One place of a list of numbers turned. -/
def upd (f : Nat → Int) (t : Nat) (v : Int) : Nat → Int := fun j => if j = t then v else f j
theorem upd_same (f : Nat → Int) (t : Nat) (v : Int) : upd f t v t = v := if_pos rfl
theorem upd_ne (f : Nat → Int) {t j : Nat} (v : Int) (h : j ≠ t) : upd f t v j = f j := if_neg h
/-- Costs, and the steps by which they came. -/
structure Stt where
  c : Nat → Int
  b : Nat → Int
def okP (s : Edg) (c : Nat → Int) : Bool := decide (c s.fr ≠ unR) && decide (c s.fr + s.co < c s.to)
theorem okP_iff {s : Edg} {c : Nat → Int} : okP s c = true ↔ c s.fr ≠ unR ∧ c s.fr + s.co < c s.to := by simp [okP]
theorem okP_no {s : Edg} {c : Nat → Int} : okP s c = false ↔ (c s.fr = unR ∨ c s.to ≤ c s.fr + s.co) := by
  rw [← Bool.not_eq_true, okP_iff]
  constructor
  · intro h
    by_cases e : c s.fr = unR
    · exact .inl e
    · exact .inr (by have := fun q => h ⟨e, q⟩; omega)
  · rintro (h | h) ⟨h1, h2⟩
    · exact h1 h
    · omega
def pushS (E : Nat → Edg) (i : Nat) (st : Stt) : Stt := ⟨upd st.c (E i).to (st.c (E i).fr + (E i).co), upd st.b (E i).to i⟩
/-- The first i steps pushed, one after the other; the last point whose cost fell. -/
def pasS (E : Nat → Edg) (st : Stt) : Nat → Stt × Int
  | 0 => (st, -1)
  | i + 1 => if okP (E i) (pasS E st i).1.c then (pushS E i (pasS E st i).1, (E i).to) else pasS E st i
theorem pasS_yes {E : Nat → Edg} {st : Stt} {i : Nat} (h : okP (E i) (pasS E st i).1.c = true) : pasS E st (i + 1) = (pushS E i (pasS E st i).1, ((E i).to : Int)) := by rw [pasS, if_pos h]
theorem pasS_no {E : Nat → Edg} {st : Stt} {i : Nat} (h : okP (E i) (pasS E st i).1.c = false) : pasS E st (i + 1) = pasS E st i := by rw [pasS, if_neg (by rw [h]; decide)]
/-- So many rounds, up to the first in which nothing falls. -/
def setS (E : Nat → Edg) (m : Nat) : Nat → Stt → Int → Stt × Int
  | 0, st, f => (st, f)
  | k + 1, st, _ => if (pasS E st m).2 = -1 then pasS E st m else setS E m k (pasS E st m).1 (pasS E st m).2

/-- Some walk of these steps. -/
inductive Wlk (E : Nat → Edg) (m : Nat) : Nat → Nat → Nat → Int → Prop
  | nil (u : Nat) : Wlk E m u u 0 0
  | snoc {u v k : Nat} {w : Int} (h : Wlk E m u v k w) (i : Nat) (hi : i < m) (hf : (E i).fr = v) : Wlk E m u (E i).to (k + 1) (w + (E i).co)
variable {E : Nat → Edg} {m : Nat}
theorem Wlk.append {u v x k l : Nat} {w z : Int} (h : Wlk E m u v k w) (g : Wlk E m v x l z) : Wlk E m u x (k + l) (w + z) := by
  induction g with
  | nil => simpa using h
  | snoc g i hi hf ih => rw [← Nat.add_assoc, ← Int.add_assoc]; exact ih.snoc i hi hf
theorem Wlk.cast {u v k l : Nat} {w z : Int} (h : Wlk E m u v k w) (e : k = l) (e' : w = z) : Wlk E m u v l z := by subst e e'; exact h
/-- No circle costs less than nothing. -/
def NoNeg (E : Nat → Edg) (m : Nat) : Prop := ∀ u k w, Wlk E m u u k w → 0 ≤ w

/-- All costs are those of walks from where there was one at first. -/
def Got (E : Nat → Edg) (m : Nat) (c0 c : Nat → Int) : Prop := ∀ v, c v = unR ∨ ∃ u k w, Wlk E m u v k w ∧ c0 u ≠ unR ∧ c v = c0 u + w
theorem Got.start (E : Nat → Edg) (m : Nat) (c0 : Nat → Int) : Got E m c0 c0 := fun v => by
  by_cases h : c0 v = unR
  · exact .inl h
  · exact .inr ⟨v, 0, 0, .nil v, h, by omega⟩
theorem Got.push {c0 : Nat → Int} {st : Stt} {i : Nat} (h : Got E m c0 st.c) (hi : i < m) (ho : okP (E i) st.c = true) : Got E m c0 (pushS E i st).c := fun v => by
  by_cases e : v = (E i).to
  · subst e
    have hc : (pushS E i st).c (E i).to = st.c (E i).fr + (E i).co := upd_same _ _ _
    rcases h (E i).fr with g | ⟨u, k, w, hw, h0, h1⟩
    · exact absurd g (okP_iff.1 ho).1
    · exact .inr ⟨u, _, _, hw.snoc i hi rfl, h0, by rw [hc, h1]; omega⟩
  · rw [show (pushS E i st).c v = st.c v from upd_ne _ _ e]; exact h v
theorem Got.pass {c0 : Nat → Int} {st : Stt} (h : Got E m c0 st.c) {i : Nat} (hi : i ≤ m) : Got E m c0 (pasS E st i).1.c := by
  induction i with
  | zero => exact h
  | succ i ih =>
    cases ho : okP (E i) (pasS E st i).1.c with
    | true => rw [pasS_yes ho]; exact (ih (by omega)).push (by omega) ho
    | false => rw [pasS_no ho]; exact ih (by omega)
theorem Got.set {c0 : Nat → Int} {n : Nat} {st : Stt} {f : Int} (h : Got E m c0 st.c) : Got E m c0 (setS E m n st f).1.c := by
  induction n generalizing st f with
  | zero => exact h
  | succ n ih =>
    rw [setS]
    split
    · exact h.pass (Nat.le_refl _)
    · exact ih (h.pass (Nat.le_refl _))
/-- Costs fall only. -/
theorem pas_le {st : Stt} {i : Nat} (v : Nat) : (pasS E st i).1.c v ≤ st.c v := by
  induction i with
  | zero => exact Int.le_refl _
  | succ i ih =>
    cases ho : okP (E i) (pasS E st i).1.c with
    | true =>
      rw [pasS_yes ho]
      by_cases e : v = (E i).to
      · subst e
        have := (okP_iff.1 ho).2
        show upd _ _ _ _ ≤ _
        rw [upd_same]; omega
      · show upd _ _ _ _ ≤ _
        rw [upd_ne _ _ e]; exact ih
    | false => rw [pasS_no ho]; exact ih
/-- Nothing fell: nothing was turned, and no step is left to push. -/
theorem pas_still {st : Stt} {i : Nat} (h : (pasS E st i).2 = -1) : (pasS E st i).1 = st ∧ ∀ j, j < i → okP (E j) st.c = false := by
  induction i with
  | zero => exact ⟨rfl, fun j hj => by omega⟩
  | succ i ih =>
    cases ho : okP (E i) (pasS E st i).1.c with
    | true => rw [pasS_yes ho] at h; simp only at h; omega
    | false =>
      rw [pasS_no ho] at h ⊢
      obtain ⟨e, g⟩ := ih h
      refine ⟨e, fun j hj => ?_⟩
      by_cases q : j = i
      · subst q; rw [← e]; exact ho
      · exact g j (by omega)
/-- When all is still, no step is left to push. -/
theorem set_still {n : Nat} {st : Stt} {f : Int} (hn : 1 ≤ n) (h : (setS E m n st f).2 = -1) : ∀ j, j < m → okP (E j) (setS E m n st f).1.c = false := by
  induction n generalizing st f with
  | zero => omega
  | succ n ih =>
    rw [setS] at h ⊢
    split
    · rename_i q
      have := pas_still q
      rw [this.1]; exact this.2
    · rename_i q
      rw [if_neg q] at h
      cases n with
      | zero => exact absurd h q
      | succ n => exact ih (by omega) h
/-- Behind k rounds no cost is above that of a walk of at most k steps. -/
def Low (E : Nat → Edg) (m : Nat) (c0 c : Nat → Int) (k : Nat) : Prop := ∀ u v l w, Wlk E m u v l w → l ≤ k → c0 u ≠ unR → c v ≤ c0 u + w
theorem fin_pas {st : Stt} {i : Nat} {v : Nat} (h : st.c v < unR) : (pasS E st i).1.c v < unR := Int.lt_of_le_of_lt (pas_le v) h
theorem low_step {c0 : Nat → Int} {st : Stt} {k : Nat} (hL : Low E m c0 st.c k) (hB : ∀ u l w, c0 u ≠ unR → (∃ v, Wlk E m u v l w) → l ≤ k → c0 u + w < unR) : Low E m c0 (pasS E st m).1.c (k + 1) := by
  -- behind the step i of the round its end is no dearer than its begin and the step
  have key : ∀ i, i ≤ m → ∀ j, j < i → st.c (E j).fr < unR → (pasS E st i).1.c (E j).to ≤ st.c (E j).fr + (E j).co := by
    intro i
    induction i with
    | zero => intro _ j hj; omega
    | succ i ih =>
      intro hi j hj hf
      cases ho : okP (E i) (pasS E st i).1.c with
      | true =>
        rw [pasS_yes ho]
        have h2 := (okP_iff.1 ho).2
        by_cases e : (E j).to = (E i).to
        · show upd _ _ _ _ ≤ _
          rw [e, upd_same]
          by_cases q : j = i
          · subst q; have := pas_le (E := E) (st := st) (i := j) (E j).fr; omega
          · have := ih (by omega) j (by omega) hf; rw [e] at this; omega
        · show upd _ _ _ _ ≤ _
          rw [upd_ne _ _ e]
          exact ih (by omega) j (by have : j ≠ i := fun q => e (by rw [q]); omega) hf
      | false =>
        rw [pasS_no ho]
        by_cases q : j = i
        · subst q
          rcases okP_no.1 ho with g | g
          · have := fin_pas (E := E) (i := j) hf; omega
          · have := pas_le (E := E) (st := st) (i := j) (E j).fr; omega
        · exact ih (by omega) j (by omega) hf
  intro u v l w hw hl h0
  cases hw with
  | nil => have := hL u u 0 0 (.nil u) (by omega) h0; have := pas_le (E := E) (st := st) (i := m) u; omega
  | snoc hw i hi hf =>
    rename_i v' l' w'
    have h1 := hL _ _ _ _ hw (by omega) h0
    have h2 := hB u _ _ h0 ⟨_, hw⟩ (by omega)
    have h3 := key m (Nat.le_refl _) i hi (by rw [hf]; omega)
    rw [hf] at h3
    omega

/-- Numbers below n at more than n places: two are the same. -/
theorem pigeon (n : Nat) (p : Nat → Nat) (h : ∀ i, i ≤ n → p i < n) : ∃ i j, i < j ∧ j ≤ n ∧ p i = p j := by
  induction n generalizing p with
  | zero => exact absurd (h 0 (Nat.le_refl _)) (by omega)
  | succ n ih =>
    by_cases e : ∃ i, i ≤ n ∧ p i = p (n + 1)
    · obtain ⟨i, hi, he⟩ := e
      exact ⟨i, n + 1, by omega, Nat.le_refl _, he⟩
    · obtain ⟨i, j, h1, h2, h3⟩ := ih (fun i => if p i = n then p (n + 1) else p i) (fun i hi => by
        have h1 := h i (by omega)
        have h2 := h (n + 1) (Nat.le_refl _)
        have h3 : p i ≠ p (n + 1) := fun q => e ⟨i, hi, q⟩
        (try dsimp only)
        split <;> omega)
      refine ⟨i, j, h1, by omega, ?_⟩
      have h4 : p i ≠ p (n + 1) := fun q => e ⟨i, by omega, q⟩
      have h5 : p j ≠ p (n + 1) := fun q => e ⟨j, h2, q⟩
      (try dsimp only at h3)
      split at h3 <;> split at h3 <;> omega
/-- A walk place by place. -/
theorem Wlk.places {u v k : Nat} {w : Int} (h : Wlk E m u v k w) : ∃ (p : Nat → Nat) (a : Nat → Int), p 0 = u ∧ p k = v ∧ a 0 = 0 ∧ a k = w ∧ ∀ i, i < k → ∃ e, e < m ∧ (E e).fr = p i ∧ (E e).to = p (i + 1) ∧ a (i + 1) = a i + (E e).co := by
  induction h with
  | nil => exact ⟨fun _ => u, fun _ => 0, rfl, rfl, rfl, rfl, fun i hi => by omega⟩
  | snoc h i hi hf ih =>
    rename_i v k w
    obtain ⟨p, a, h0, h1, h2, h3, h4⟩ := ih
    refine ⟨fun j => if j ≤ k then p j else (E i).to, fun j => if j ≤ k then a j else w + (E i).co, by simp [h0], by simp [show ¬ k + 1 ≤ k by omega], by simp [h2], by simp [show ¬ k + 1 ≤ k by omega], fun j hj => ?_⟩
    by_cases e : j = k
    · subst e; exact ⟨i, hi, by simp [h1, hf], by simp [show ¬ j + 1 ≤ j by omega], by simp [h3, show ¬ j + 1 ≤ j by omega]⟩
    · obtain ⟨e', g1, g2, g3, g4⟩ := h4 j (by omega)
      exact ⟨e', g1, by simp [g2, show j ≤ k by omega], by simp [g3, show j + 1 ≤ k by omega], by simp [g4, show j ≤ k by omega, show j + 1 ≤ k by omega]⟩
theorem walk_part {p : Nat → Nat} {a : Nat → Int} {k : Nat} (h : ∀ i, i < k → ∃ e, e < m ∧ (E e).fr = p i ∧ (E e).to = p (i + 1) ∧ a (i + 1) = a i + (E e).co) (i l : Nat) (hl : i + l ≤ k) : Wlk E m (p i) (p (i + l)) l (a (i + l) - a i) := by
  induction l with
  | zero => exact (Wlk.nil (p i)).cast rfl (by simp)
  | succ l ih =>
    obtain ⟨e, h1, h2, h3, h4⟩ := h (i + l) (by omega)
    have := (ih (by omega)).snoc e h1 h2
    rw [h3] at this
    exact this.cast rfl (by rw [← Nat.add_assoc, h4]; omega)
/-- Where no circle costs less than nothing, a walk may be as short as there are points. -/
theorem short {n : Nat} (hE : ∀ i, i < m → (E i).fr < n ∧ (E i).to < n) (hN : NoNeg E m) (hn : 1 ≤ n) : ∀ k u v w, Wlk E m u v k w → ∃ l z, Wlk E m u v l z ∧ l < n ∧ z ≤ w := by
  intro k
  induction k using Nat.strongRecOn with
  | _ k ih =>
    intro u v w h
    by_cases hk : k < n
    · exact ⟨k, w, h, hk, Int.le_refl _⟩
    · obtain ⟨p, a, h0, h1, h2, h3, h4⟩ := h.places
      obtain ⟨i, j, hij, hj, he⟩ := pigeon n p (fun i hi => by
        by_cases e : i < k
        · obtain ⟨e', g1, g2, _⟩ := h4 i e
          rw [← g2]; exact (hE e' g1).1
        · obtain ⟨e', g1, _, g3, _⟩ := h4 (i - 1) (by omega)
          rw [show i - 1 + 1 = i by omega] at g3
          rw [← g3]; exact (hE e' g1).2)
      have A := walk_part h4 0 i (by omega)
      have B := walk_part h4 i (j - i) (by omega)
      have C := walk_part h4 j (k - j) (by omega)
      simp only [Nat.zero_add, show i + (j - i) = j by omega, show j + (k - j) = k by omega, h0, h1, h2, h3] at A B C
      rw [← he] at B C
      have hb := hN _ _ _ B
      obtain ⟨l, z, g1, g2, g3⟩ := ih (i + (k - j)) (by omega) u v _ (A.append C)
      exact ⟨l, z, g1, g2, by omega⟩
/-- What is not unreached is small. -/
def Bdd (c : Nat → Int) (B : Int) : Prop := ∀ v, c v = unR ∨ (-B ≤ c v ∧ c v ≤ B)
theorem Bdd.mono {c : Nat → Int} {B B' : Int} (h : Bdd c B) (hB : B ≤ B') : Bdd c B' := fun v => (h v).imp_right fun ⟨a, b⟩ => ⟨by omega, by omega⟩
theorem Bdd.push {st : Stt} {i : Nat} {B C : Int} (h : Bdd st.c B) (ho : okP (E i) st.c = true) (hC : -C ≤ (E i).co ∧ (E i).co ≤ C) (h0 : 0 ≤ C) : Bdd (pushS E i st).c (B + C) := fun v => by
  by_cases e : v = (E i).to
  · subst e
    rw [show (pushS E i st).c (E i).to = st.c (E i).fr + (E i).co from upd_same _ _ _]
    rcases h (E i).fr with g | g
    · exact absurd g (okP_iff.1 ho).1
    · right; omega
  · rw [show (pushS E i st).c v = st.c v from upd_ne _ _ e]
    exact (h.mono (B' := B + C) (by omega)) v
theorem Bdd.pass {st : Stt} {B C : Int} (h : Bdd st.c B) (hC : ∀ i, i < m → -C ≤ (E i).co ∧ (E i).co ≤ C) (h0 : 0 ≤ C) {i : Nat} (hi : i ≤ m) : Bdd (pasS E st i).1.c (B + i * C) := by
  induction i with
  | zero => simpa [pasS] using h
  | succ i ih =>
    have g := ih (by omega)
    have e : B + ((i + 1 : Nat) : Int) * C = B + i * C + C := by rw [Int.natCast_add, Int.add_mul]; omega
    rw [e]
    cases ho : okP (E i) (pasS E st i).1.c with
    | true => rw [pasS_yes ho]; exact g.push ho (hC i (by omega)) h0
    | false => rw [pasS_no ho]; exact g.mono (by omega)
theorem Bdd.set {n : Nat} {st : Stt} {f B C : Int} (h : Bdd st.c B) (hC : ∀ i, i < m → -C ≤ (E i).co ∧ (E i).co ≤ C) (h0 : 0 ≤ C) : Bdd (setS E m n st f).1.c (B + n * (m * C)) := by
  have hm : 0 ≤ (m : Int) * C := Int.mul_nonneg (by omega) h0
  induction n generalizing st f B with
  | zero => simpa [setS] using h
  | succ n ih =>
    have g := h.pass hC h0 (i := m) (Nat.le_refl _)
    have e : B + ((n + 1 : Nat) : Int) * (m * C) = B + m * C + n * (m * C) := by rw [Int.natCast_add, Int.add_mul]; omega
    have hn : 0 ≤ (n : Int) * (m * C) := Int.mul_nonneg (by omega) hm
    rw [e, setS]
    split
    · exact g.mono (by omega)
    · exact ih g
theorem set_le {n : Nat} {st : Stt} {f : Int} (v : Nat) : (setS E m n st f).1.c v ≤ st.c v := by
  induction n generalizing st f with
  | zero => exact Int.le_refl _
  | succ n ih =>
    rw [setS]
    split
    · exact pas_le v
    · exact Int.le_trans (ih) (pas_le v)
/-- Where no step is left to push, a walk costs at least the difference of its ends' costs. -/
theorem still_walk {c : Nat → Int} {B C : Int} (hs : ∀ j, j < m → okP (E j) c = false) (hb : Bdd c B) (hC : ∀ i, i < m → -C ≤ (E i).co ∧ (E i).co ≤ C) (hBC : B + C < unR) {u v k : Nat} {w : Int} (h : Wlk E m u v k w) (hu : c u ≠ unR) : c v ≠ unR ∧ c v ≤ c u + w := by
  induction h with
  | nil => exact ⟨hu, by omega⟩
  | snoc h i hi hf ih =>
    obtain ⟨h1, h2⟩ := ih
    have g := okP_no.1 (hs i hi)
    rw [hf] at g
    rcases g with g | g
    · exact absurd g h1
    · have := hC i hi
      rcases hb _ with q | q
      · exact absurd q h1
      · refine ⟨by omega, by omega⟩
/-- All is still at the end exactly if no circle costs less than nothing. -/
theorem still_noNeg {c : Nat → Int} {B C : Int} (hs : ∀ j, j < m → okP (E j) c = false) (hb : Bdd c B) (hC : ∀ i, i < m → -C ≤ (E i).co ∧ (E i).co ≤ C) (hBC : B + C < unR) (hf : ∀ v, c v ≠ unR) : NoNeg E m := fun u k w h => by
  have := (still_walk hs hb hC hBC h (hf u)).2
  omega
theorem walk_bd {C : Int} (hC : ∀ i, i < m → -C ≤ (E i).co ∧ (E i).co ≤ C) {u v k : Nat} {w : Int} (h : Wlk E m u v k w) : -(k * C) ≤ w ∧ w ≤ k * C := by
  induction h with
  | nil => simp
  | snoc h i hi hf ih =>
    rename_i k w
    have := hC i hi
    have e : ((k + 1 : Nat) : Int) * C = k * C + C := by rw [Int.natCast_add, Int.add_mul]; omega
    rw [e]; omega
theorem set_falls {n : Nat} {c0 : Nat → Int} {C : Int} (hE : ∀ i, i < m → (E i).fr < n ∧ (E i).to < n) (hN : NoNeg E m) (hC : ∀ i, i < m → -C ≤ (E i).co ∧ (E i).co ≤ C) (h0 : 0 ≤ C) (hc0 : ∀ v, c0 v = unR ∨ c0 v = 0) (hnC : n * C < unR) :
    ∀ r k st f, 1 ≤ r → k + r = n → Got E m c0 st.c → Low E m c0 st.c k → (setS E m r st f).2 = -1 := by
  intro r
  induction r with
  | zero => intro k st f h; omega
  | succ r ih =>
    intro k st f _ hk hG hL
    rw [setS]
    split
    · assumption
    · rename_i hne
      cases r with
      | succ r =>
        refine ih (k + 1) _ _ (by omega) (by omega) (hG.pass (Nat.le_refl _)) (low_step hL fun u l w hu ⟨v, hw⟩ hl => ?_)
        have hb := (walk_bd hC hw).2
        have : (l : Int) * C ≤ n * C := Int.mul_le_mul_of_nonneg_right (by omega) h0
        rcases hc0 u with e | e
        · exact absurd e hu
        · omega
      | zero =>
        refine absurd ?_ hne
        have key : ∀ i, i ≤ m → pasS E st i = (st, -1) := by
          intro i
          induction i with
          | zero => intro _; rfl
          | succ i ihi =>
            intro hi
            have e := ihi (by omega)
            cases ho : okP (E i) (pasS E st i).1.c with
            | false => rw [pasS_no ho, e]
            | true =>
              rw [e] at ho
              have h2 := (okP_iff.1 ho).2
              have g := hG.push (i := i) (by omega) ho (E i).to
              have hc : (pushS E i st).c (E i).to = st.c (E i).fr + (E i).co := upd_same _ _ _
              rw [hc] at g
              have h1 := (okP_iff.1 ho).1
              rcases hG (E i).fr with q | ⟨u, l, w, hw, hu, hq⟩
              · exact absurd q h1
              · obtain ⟨l', z, g1, g2, g3⟩ := short hE hN (by omega) _ _ _ _ (hw.snoc i (by omega) rfl)
                have := hL u _ _ _ g1 (by omega) hu
                dsimp only at h1 h2 hq hc this
                omega
        rw [key m (Nat.le_refl _)]
/-- Pushed for as many rounds as there are points, the costs come to rest exactly if no circle costs less than nothing. -/
theorem set_rest {n : Nat} {c0 b0 : Nat → Int} {C : Int} (hE : ∀ i, i < m → (E i).fr < n ∧ (E i).to < n) (hC : ∀ i, i < m → -C ≤ (E i).co ∧ (E i).co ≤ C) (h0 : 0 ≤ C) (hc0 : ∀ v, c0 v = unR ∨ c0 v = 0) (hnC : n * C < unR) (hn : 1 ≤ n) (hN : NoNeg E m) (f : Int) : (setS E m n ⟨c0, b0⟩ f).2 = -1 :=
  set_falls hE hN hC h0 hc0 hnC n 0 _ f hn (by omega) (Got.start E m c0) (fun u v l w hw hl hu => by
    cases hw with
    | nil => dsimp only; omega
    | snoc => omega)
theorem rest_noNeg {n : Nat} {b0 : Nat → Int} {f C : Int} (hC : ∀ i, i < m → -C ≤ (E i).co ∧ (E i).co ≤ C) (h0 : 0 ≤ C) (hnC : n * (m * C) + C < unR) (hn : 1 ≤ n) (h : (setS E m n ⟨fun _ => 0, b0⟩ f).2 = -1) : NoNeg E m := by
  have hb := Bdd.set (E := E) (m := m) (n := n) (st := ⟨fun _ => 0, b0⟩) (f := f) (B := 0) (C := C) (fun v => .inr ⟨by simp, by simp⟩) hC h0
  refine still_noNeg (set_still hn h) hb hC (by omega) fun v => ?_
  have := set_le (E := E) (m := m) (n := n) (st := ⟨fun _ => 0, b0⟩) (f := f) v
  have hz : 0 ≤ (n : Int) * (m * C) := Int.mul_nonneg (by omega) (Int.mul_nonneg (by omega) h0)
  dsimp only at this
  omega
/-- The least cost of walks from u to v. -/
def IsMin (E : Nat → Edg) (m u v : Nat) (x : Int) : Prop := (∃ k, Wlk E m u v k x) ∧ ∀ k w, Wlk E m u v k w → x ≤ w
/-- The costs from one point: unreached, or the least. -/
theorem rest_least {n u : Nat} {b0 : Nat → Int} {f C : Int} (hE : ∀ i, i < m → (E i).fr < n ∧ (E i).to < n) (hC : ∀ i, i < m → -C ≤ (E i).co ∧ (E i).co ≤ C) (h0 : 0 ≤ C) (hn : 1 ≤ n) (hN : NoNeg E m) (hnC : n * (m * C) + C < unR) (hnC' : n * C < unR) (v : Nat) :
    ((setS E m n ⟨upd (fun _ => unR) u 0, b0⟩ f).1.c v = unR ∧ ∀ k w, ¬ Wlk E m u v k w) ∨ ((setS E m n ⟨upd (fun _ => unR) u 0, b0⟩ f).1.c v ≠ unR ∧ IsMin E m u v ((setS E m n ⟨upd (fun _ => unR) u 0, b0⟩ f).1.c v)) := by
  have hc0 : ∀ v, upd (fun _ => unR) u 0 v = unR ∨ upd (fun _ => unR) u 0 v = 0 := fun v => by
    unfold upd; split
    · exact .inr rfl
    · exact .inl rfl
  have hr := set_rest (b0 := b0) hE hC h0 hc0 hnC' hn hN f
  have hs := set_still hn hr
  have hb := Bdd.set (E := E) (m := m) (n := n) (st := ⟨upd (fun _ => unR) u 0, b0⟩) (f := f) (B := 0) (C := C) (fun v => by rcases hc0 v with h | h; exact .inl h; exact .inr (by simp [h])) hC h0
  have hg := Got.set (E := E) (m := m) (n := n) (st := ⟨upd (fun _ => unR) u 0, b0⟩) (f := f) (Got.start E m _)
  have hu := set_le (E := E) (m := m) (n := n) (st := ⟨upd (fun _ => unR) u 0, b0⟩) (f := f) u
  generalize (setS E m n ⟨upd (fun _ => unR) u 0, b0⟩ f).1.c = c at hs hb hg hu
  dsimp only at hu
  rw [upd_same] at hu
  have hz : 0 ≤ (n : Int) * (m * C) := Int.mul_nonneg (by omega) (Int.mul_nonneg (by omega) h0)
  have hw : ∀ k w, Wlk E m u v k w → c v ≠ unR ∧ c v ≤ w := fun k w h => by
    have := still_walk hs hb hC (by omega) h (by omega)
    exact ⟨this.1, by omega⟩
  by_cases e : c v = unR
  · exact .inl ⟨e, fun k w h => (hw k w h).1 e⟩
  · refine .inr ⟨e, ?_, fun k w h => (hw k w h).2⟩
    rcases hg v with q | ⟨u', k, w, h1, h2, h3⟩
    · exact absurd q e
    · have : u' = u := Classical.byContradiction fun q => h2 (upd_ne (fun _ => unR) 0 q)
      subst this
      rw [show (Stt.mk (upd (fun _ => unR) u' 0) b0).c u' = 0 from upd_same (fun _ => unR) u' 0] at h3
      exact ⟨k, h1.cast rfl (by omega)⟩
end Go.Proofs.Ytchikfegpoonjaa
