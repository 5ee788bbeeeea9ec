/-
  Package sight, pure: points, sights, ways, charts.
-/
import Derived.Test.YtchikfegpoonjaaPA
namespace Go.Proofs.Ytchikfegpoonjaa
set_option linter.unusedSimpArgs false
set_option linter.unusedVariables false

/-- A clock at a time. -/
abbrev Spt := Int × Int
def spo (c t : Int) : Spt := if c = 0 then (0, 0) else (c, t)
/-- A sight. -/
structure Sgt where
  tm : Int
  ca : Int
  cb : Int
  lo : Int
  hi : Int
/-- From where to where a sight's step leads, and its cost. -/
def tkn (S : Nat → Sgt) (k : Nat) : Spt × Spt × Int :=
  if k % 2 = 1 then (spo (S (k / 2)).ca (S (k / 2)).tm, spo (S (k / 2)).cb (S (k / 2)).tm, -(S (k / 2)).lo) else (spo (S (k / 2)).cb (S (k / 2)).tm, spo (S (k / 2)).ca (S (k / 2)).tm, (S (k / 2)).hi)
def crr (r dt : Int) : Int := (r * dt + 999999999) / 1000000000
def crb (R : Nat → Int) (p q : Spt) : Int := crr (R p.1.toNat) (max p.2 q.2 - min p.2 q.2)
theorem crr_nonneg {r dt : Int} (hr : 0 ≤ r) (hd : 0 ≤ dt) : 0 ≤ crr r dt := by
  have := Int.mul_nonneg hr hd
  unfold crr; omega
theorem crr_zero (r : Int) : crr r 0 = 0 := by simp [crr]
theorem crb_same (R : Nat → Int) (p : Spt) : crb R p p = 0 := by
  unfold crb
  rw [show max p.2 p.2 - min p.2 p.2 = 0 by omega, crr_zero]
theorem crb_nonneg {R : Nat → Int} {p q : Spt} (h : 0 ≤ R p.1.toNat) : 0 ≤ crb R p q := crr_nonneg h (by omega)
theorem crr_mono {r a b : Int} (hr : 0 ≤ r) (h : a ≤ b) : crr r a ≤ crr r b := by
  have := Int.mul_le_mul_of_nonneg_left h hr
  unfold crr; omega
theorem crr_add {r a b : Int} : crr r (a + b) ≤ crr r a + crr r b := by
  unfold crr
  rw [Int.mul_add]
  generalize r * a = x
  generalize r * b = y
  omega
theorem crb_tri {R : Nat → Int} {p q r : Spt} (hR : 0 ≤ R p.1.toNat) (h : p.1 = q.1) : crb R p r ≤ crb R p q + crb R q r := by
  unfold crb
  rw [← h]
  exact Int.le_trans (crr_mono hR (by omega)) crr_add
theorem crb_comm {R : Nat → Int} {p q : Spt} (h : p.1 = q.1) : crb R p q = crb R q p := by
  unfold crb
  rw [h, show max p.2 q.2 - min p.2 q.2 = max q.2 p.2 - min q.2 p.2 by omega]

/-- Steps lead from a point to another one, at this cost. -/
inductive Way (R : Nat → Int) (S : Nat → Sgt) (ns : Nat) : Spt → Spt → Int → Prop
  | nil (p : Spt) : Way R S ns p p 0
  | sgt {p : Spt} {w : Int} (k : Nat) (hk : k < 2 * ns) (h : Way R S ns p (tkn S k).1 w) : Way R S ns p (tkn S k).2.1 (w + (tkn S k).2.2)
  | car {p q : Spt} {w : Int} (r : Spt) (h : Way R S ns p q w) (hc : q.1 = r.1) (h0 : 0 ≤ R q.1.toNat) : Way R S ns p r (w + crb R q r)
variable {R : Nat → Int} {S : Nat → Sgt} {ns : Nat}
theorem Way.cast {p q : Spt} {w z : Int} (h : Way R S ns p q w) (e : w = z) : Way R S ns p q z := e ▸ h
theorem Way.append {p q r : Spt} {w z : Int} (h : Way R S ns p q w) (g : Way R S ns q r z) : Way R S ns p r (w + z) := by
  induction g with
  | nil => simpa using h
  | sgt k hk g ih => rw [← Int.add_assoc]; exact ih.sgt k hk
  | car r g hc h0 ih => rw [← Int.add_assoc]; exact ih.car r hc h0
/-- No steps lead back at a cost below nothing. -/
def NoC (R : Nat → Int) (S : Nat → Sgt) (ns : Nat) : Prop := ∀ p w, Way R S ns p p w → 0 ≤ w
/-- The least cost. -/
def LstW (R : Nat → Int) (S : Nat → Sgt) (ns : Nat) (p q : Spt) (x : Int) : Prop := Way R S ns p q x ∧ ∀ w, Way R S ns p q w → x ≤ w
theorem LstW.uniq {p q : Spt} {x y : Int} (h : LstW R S ns p q x) (g : LstW R S ns p q y) : x = y := by
  have := h.2 _ g.1
  have := g.2 _ h.1
  omega
/-- A way of carries alone, or one by a sight's point. -/
theorem Way.parts {p q : Spt} {w : Int} (h : Way R S ns p q w) : (p.1 = q.1 ∧ 0 ≤ w) ∨ ∃ k w1 w2, k < 2 * ns ∧ Way R S ns p (tkn S k).1 w1 ∧ Way R S ns (tkn S k).1 q w2 ∧ w = w1 + w2 := by
  induction h with
  | nil => exact .inl ⟨rfl, Int.le_refl _⟩
  | sgt k hk h ih =>
    rename_i w
    exact .inr ⟨k, w, _, hk, h, ((Way.nil _).sgt k hk).cast (by rw [Int.zero_add]), rfl⟩
  | car r h hc h0 ih =>
    rcases ih with ⟨h1, h2⟩ | ⟨k, w1, w2, h1, h2, h3, rfl⟩
    · exact .inl ⟨h1.trans hc, by have := crb_nonneg (q := r) h0; omega⟩
    · exact .inr ⟨k, w1, _, h1, h2, h3.car r hc h0, by omega⟩

/-- A chart of a net: its points P, its steps E. -/
structure Chart (R : Nat → Int) (S : Nat → Sgt) (ns : Nat) (P : Nat → Spt) (n : Nat) (E : Nat → Edg) (m : Nat) : Prop where
  inj : ∀ i j, i < n → j < n → P i = P j → i = j
  pos : ∀ i, i < n → 0 ≤ R (P i).1.toNat
  edge : ∀ i, i < m → (E i).fr < n ∧ (E i).to < n ∧ ((∃ k, k < 2 * ns ∧ P (E i).fr = (tkn S k).1 ∧ P (E i).to = (tkn S k).2.1 ∧ (E i).co = (tkn S k).2.2 ∧ (E i).no = k) ∨
    ((P (E i).fr).1 = (P (E i).to).1 ∧ (E i).co = crb R (P (E i).fr) (P (E i).to) ∧ (E i).no = -1))
  sgt : ∀ k, k < 2 * ns → ∃ i, i < m ∧ P (E i).fr = (tkn S k).1 ∧ P (E i).to = (tkn S k).2.1 ∧ (E i).co = (tkn S k).2.2
  car : ∀ a b, a < n → b < n → a ≠ b → (P a).1 = (P b).1 → ∃ i, i < m ∧ (E i).fr = a ∧ (E i).to = b ∧ (E i).co = crb R (P a) (P b)
section
variable {P : Nat → Spt} {n : Nat} {E : Nat → Edg} {m : Nat}
theorem Chart.ends (C : Chart R S ns P n E m) : ∀ i, i < m → (E i).fr < n ∧ (E i).to < n := fun i hi => ⟨(C.edge i hi).1, (C.edge i hi).2.1⟩
theorem Chart.way (C : Chart R S ns P n E m) {u v k : Nat} {w : Int} (h : Wlk E m u v k w) : Way R S ns (P u) (P v) w := by
  induction h with
  | nil => exact .nil _
  | snoc h i hi hf ih =>
    subst hf
    obtain ⟨h1, h2, ⟨k, hk, e1, e2, e3, _⟩ | ⟨e1, e2, _⟩⟩ := C.edge i hi
    · rw [e1] at ih
      rw [e2, e3]
      exact ih.sgt k hk
    · rw [e2]
      exact ih.car _ e1 (C.pos _ h1)
theorem Chart.back (C : Chart R S ns P n E m) {u : Nat} (hu : u < n) {p q : Spt} {w : Int} (h : Way R S ns p q w) (hp : p = P u) : ∀ v, v < n → (P v).1 = q.1 → ∃ k z, Wlk E m u v k z ∧ z ≤ w + crb R q (P v) := by
  have step : ∀ {a b k : Nat} {z : Int}, Wlk E m u a k z → a < n → b < n → (P a).1 = (P b).1 → ∃ k' z', Wlk E m u b k' z' ∧ z' ≤ z + crb R (P a) (P b) := by
    intro a b k z hw ha hb he
    by_cases e : a = b
    · subst e
      exact ⟨k, z, hw, by rw [crb_same]; omega⟩
    · obtain ⟨i, hi, h1, h2, h3⟩ := C.car a b ha hb e he
      have := hw.snoc i hi h1
      rw [h2, h3] at this
      exact ⟨_, _, this, Int.le_refl _⟩
  induction h with
  | nil =>
    intro v hv he
    subst hp
    obtain ⟨k, z, h1, h2⟩ := step (Wlk.nil u) hu hv he.symm
    exact ⟨k, z, h1, h2⟩
  | sgt k hk h ih =>
    intro v hv he
    obtain ⟨i, hi, e1, e2, e3⟩ := C.sgt k hk
    obtain ⟨f1, f2⟩ := C.ends i hi
    obtain ⟨k1, z1, g1, g2⟩ := ih (E i).fr f1 (by rw [e1])
    have g3 := g1.snoc i hi rfl
    obtain ⟨k2, z2, g4, g5⟩ := step g3 f2 hv (by rw [e2]; exact he.symm)
    refine ⟨k2, z2, g4, ?_⟩
    rw [e1, crb_same] at g2
    rw [e2, e3] at g5
    omega
  | car r h hc h0 ih =>
    intro v hv he
    obtain ⟨k1, z1, g1, g2⟩ := ih v hv (he.trans hc.symm)
    have := crb_tri (r := P v) h0 hc
    exact ⟨k1, z1, g1, by omega⟩
theorem Chart.back0 (C : Chart R S ns P n E m) {u v : Nat} (hu : u < n) (hv : v < n) {w : Int} (h : Way R S ns (P u) (P v) w) : ∃ k z, Wlk E m u v k z ∧ z ≤ w := by
  obtain ⟨k, z, h1, h2⟩ := C.back hu h rfl v hv rfl
  exact ⟨k, z, h1, by rw [crb_same] at h2; omega⟩
theorem Chart.noC (C : Chart R S ns P n E m) : NoNeg E m ↔ NoC R S ns := by
  constructor
  · intro h p w hw
    rcases hw.parts with ⟨_, h2⟩ | ⟨k, w1, w2, hk, h1, h2, rfl⟩
    · exact h2
    · obtain ⟨i, hi, e1, _⟩ := C.sgt k hk
      have hc := h2.append h1
      rw [← e1] at hc
      obtain ⟨k', z, g1, g2⟩ := C.back0 (C.ends i hi).1 (C.ends i hi).1 hc
      have := h _ _ _ g1
      omega
  · intro h u k w hw
    exact h _ _ (C.way hw)
theorem Chart.least (C : Chart R S ns P n E m) {u v : Nat} (hu : u < n) (hv : v < n) {x : Int} (h : IsMin E m u v x) : LstW R S ns (P u) (P v) x := by
  obtain ⟨⟨k, hk⟩, h2⟩ := h
  refine ⟨C.way hk, fun w hw => ?_⟩
  obtain ⟨k', z, g1, g2⟩ := C.back0 hu hv hw
  have := h2 _ _ g1
  omega
theorem Chart.none (C : Chart R S ns P n E m) {u v : Nat} (hu : u < n) (hv : v < n) (h : ∀ k w, ¬ Wlk E m u v k w) (w : Int) : ¬ Way R S ns (P u) (P v) w := fun hw => by
  obtain ⟨k', z, g1, g2⟩ := C.back0 hu hv hw
  exact h _ _ g1
end

/-- The place of a point in a list; the list's length if it isn't there. -/
def ixP (p : Spt) : List Spt → Nat
  | [] => 0
  | q :: l => if q = p then 0 else ixP p l + 1
theorem ixP_le (p : Spt) (l : List Spt) : ixP p l ≤ l.length := by
  induction l with
  | nil => exact Nat.le_refl _
  | cons q l ih => rw [ixP]; split <;> simp; omega
theorem ixP_at {p : Spt} {l : List Spt} (h : ixP p l < l.length) : l.getD (ixP p l) (0, 0) = p := by
  induction l with
  | nil => exact absurd h (by simp [ixP])
  | cons q l ih =>
    rw [ixP] at h ⊢
    split
    · rename_i e; simpa using e
    · rename_i e
      rw [if_neg e] at h
      have := ih (by simpa using h)
      simpa using this
/-- With the point behind it, if it wasn't there. -/
def adP (l : List Spt) (p : Spt) : List Spt := if ixP p l < l.length then l else l ++ [p]
theorem ixP_app_lt {p : Spt} {l r : List Spt} (h : ixP p l < l.length) : ixP p (l ++ r) = ixP p l := by
  induction l with
  | nil => exact absurd h (by simp [ixP])
  | cons q l ih =>
    rw [ixP] at h
    rw [List.cons_append, ixP, ixP]
    split
    · rfl
    · rename_i e
      rw [if_neg e] at h
      rw [ih (by simpa using h)]
theorem ixP_app_ge {p : Spt} {l r : List Spt} (h : ixP p l = l.length) : ixP p (l ++ r) = l.length + ixP p r := by
  induction l with
  | nil => simp
  | cons q l ih =>
    rw [ixP] at h
    split at h
    · simp at h
    · rename_i e
      rw [List.cons_append, ixP, if_neg e, ih (by simpa using h)]
      simp; omega
theorem adP_lt (l : List Spt) (p : Spt) : ixP p (adP l p) < (adP l p).length := by
  unfold adP
  split
  · assumption
  · rename_i h
    have := ixP_le p l
    rw [ixP_app_ge (by omega)]
    simp [ixP]
theorem adP_ix (l : List Spt) (p : Spt) : ixP p (adP l p) = ixP p l := by
  unfold adP
  split
  · rfl
  · rename_i h
    have := ixP_le p l
    rw [ixP_app_ge (by omega)]
    simp [ixP]; omega
theorem adP_app (l : List Spt) (p : Spt) : ∃ r, adP l p = l ++ r ∧ r.length ≤ 1 := by
  unfold adP
  split
  · exact ⟨[], by simp, by simp⟩
  · exact ⟨[p], rfl, by simp⟩
theorem adP_keeps {l : List Spt} {p q : Spt} (h : ixP q l < l.length) : ixP q (adP l p) = ixP q l ∧ ixP q (adP l p) < (adP l p).length := by
  obtain ⟨r, e, _⟩ := adP_app l p
  rw [e, ixP_app_lt h]
  exact ⟨rfl, by simp; omega⟩
theorem adP_mem {l : List Spt} {p q : Spt} (h : q ∈ adP l p) : q ∈ l ∨ q = p := by
  unfold adP at h
  split at h
  · exact .inl h
  · simpa using h
/-- No point is there twice. -/
def OnceP (l : List Spt) : Prop := ∀ i, i < l.length → ixP (l.getD i (0, 0)) l = i
theorem onceP_ad {l : List Spt} (h : OnceP l) (p : Spt) : OnceP (adP l p) := by
  unfold adP
  split
  · exact h
  · rename_i hn
    have hl := ixP_le p l
    intro i hi
    by_cases e : i < l.length
    · have g := h i e
      have e1 : (l ++ [p]).getD i (0, 0) = l.getD i (0, 0) := by
        simp only [List.getD_eq_getElem?_getD]
        rw [List.getElem?_append_left e]
      rw [e1, ixP_app_lt (by omega), g]
    · obtain rfl : i = l.length := by simp at hi; omega
      have e1 : (l ++ [p]).getD l.length (0, 0) = p := by simp
      rw [e1, ixP_app_ge (by omega)]
      simp [ixP]
theorem onceP_inj {l : List Spt} (h : OnceP l) {i j : Nat} (hi : i < l.length) (hj : j < l.length) (e : l.getD i (0, 0) = l.getD j (0, 0)) : i = j := by
  rw [← h i hi, e, h j hj]
/-- The points and the steps of k numbers of a proof. -/
def mkS (S : Nat → Sgt) : Nat → List Spt × List Edg
  | 0 => ([], [])
  | k + 1 => (adP (adP (mkS S k).1 (tkn S k).1) (tkn S k).2.1, (mkS S k).2 ++ [⟨ixP (tkn S k).1 (mkS S k).1, ixP (tkn S k).2.1 (adP (mkS S k).1 (tkn S k).1), (tkn S k).2.2, k⟩])
def aqS (l : List Spt) : List Spt → List Spt
  | [] => l
  | p :: q => aqS (adP l p) q
def crI (R : Nat → Int) (P : Nat → Spt) (i : Nat) : Nat → List Edg
  | 0 => []
  | j + 1 => crI R P i j ++ (if (P i).1 = (P j).1 ∧ i ≠ j then [⟨i, j, crb R (P i) (P j), -1⟩] else [])
def crO (R : Nat → Int) (P : Nat → Spt) (n : Nat) : Nat → List Edg
  | 0 => []
  | i + 1 => crO R P n i ++ crI R P i n
/-- The points of a chart. -/
def ptsC (S : Nat → Sgt) (ns : Nat) (q : List Spt) : List Spt := aqS (mkS S (2 * ns)).1 q
abbrev gtP (l : List Spt) : Nat → Spt := fun i => l.getD i (0, 0)
def stpC (R : Nat → Int) (S : Nat → Sgt) (ns : Nat) (q : List Spt) : List Edg := (mkS S (2 * ns)).2 ++ crO R (gtP (ptsC S ns q)) (ptsC S ns q).length (ptsC S ns q).length
abbrev gtE (l : List Edg) : Nat → Edg := fun i => l.getD i ⟨0, 0, 0, 0⟩
theorem mkS_len (S : Nat → Sgt) (k : Nat) : (mkS S k).1.length ≤ 2 * k ∧ (mkS S k).2.length = k := by
  induction k with
  | zero => simp [mkS]
  | succ k ih =>
    obtain ⟨r, e, hr⟩ := adP_app (mkS S k).1 (tkn S k).1
    obtain ⟨r', e', hr'⟩ := adP_app (adP (mkS S k).1 (tkn S k).1) (tkn S k).2.1
    simp only [mkS, List.length_append, List.length_singleton]
    rw [e'] 
    rw [e]
    simp only [List.length_append]
    omega
theorem aqS_app (l q : List Spt) : ∃ r, aqS l q = l ++ r ∧ r.length ≤ q.length := by
  induction q generalizing l with
  | nil => exact ⟨[], by simp [aqS], by simp⟩
  | cons p q ih =>
    obtain ⟨r, e, h⟩ := ih (adP l p)
    obtain ⟨r', e', h'⟩ := adP_app l p
    exact ⟨r' ++ r, by rw [aqS, e, e', List.append_assoc], by simp; omega⟩
theorem mkS_once (S : Nat → Sgt) (k : Nat) : OnceP (mkS S k).1 := by
  induction k with
  | zero => intro i hi; simp [mkS] at hi
  | succ k ih => exact onceP_ad (onceP_ad ih _) _
theorem aqS_once {l : List Spt} (q : List Spt) (h : OnceP l) : OnceP (aqS l q) := by
  induction q generalizing l with
  | nil => exact h
  | cons p q ih => exact ih (onceP_ad h p)
theorem mkS_mem {S : Nat → Sgt} {k : Nat} {p : Spt} (h : p ∈ (mkS S k).1) : ∃ j, j < k ∧ (p = (tkn S j).1 ∨ p = (tkn S j).2.1) := by
  induction k with
  | zero => simp [mkS] at h
  | succ k ih =>
    rcases adP_mem h with h | h
    · rcases adP_mem h with h | h
      · obtain ⟨j, h1, h2⟩ := ih h; exact ⟨j, by omega, h2⟩
      · exact ⟨k, by omega, .inl h⟩
    · exact ⟨k, by omega, .inr h⟩
theorem aqS_mem {l q : List Spt} {p : Spt} (h : p ∈ aqS l q) : p ∈ l ∨ p ∈ q := by
  induction q generalizing l with
  | nil => exact .inl h
  | cons a q ih =>
    rcases ih h with h | h
    · rcases adP_mem h with h | h
      · exact .inl h
      · exact .inr (by simp [h])
    · exact .inr (by simp [h])
theorem gtP_app {l r : List Spt} {i : Nat} (h : i < l.length) : gtP (l ++ r) i = gtP l i := by
  simp only [gtP, List.getD_eq_getElem?_getD]
  rw [List.getElem?_append_left h]
theorem gtP_mem {l : List Spt} {i : Nat} (h : i < l.length) : gtP l i ∈ l := by
  have : gtP l i = l[i] := by simp [gtP, List.getD_eq_getElem?_getD, List.getElem?_eq_getElem h]
  rw [this]; exact List.getElem_mem h
/-- The steps of the sights, place by place. -/
theorem mkS_edge (S : Nat → Sgt) {k j : Nat} (hj : j < k) : (gtE (mkS S k).2 j).fr < (mkS S k).1.length ∧ (gtE (mkS S k).2 j).to < (mkS S k).1.length ∧ gtP (mkS S k).1 (gtE (mkS S k).2 j).fr = (tkn S j).1 ∧ gtP (mkS S k).1 (gtE (mkS S k).2 j).to = (tkn S j).2.1 ∧ (gtE (mkS S k).2 j).co = (tkn S j).2.2 ∧ (gtE (mkS S k).2 j).no = j := by
  induction k with
  | zero => omega
  | succ k ih =>
    obtain ⟨r, e, hr⟩ := adP_app (mkS S k).1 (tkn S k).1
    obtain ⟨r', e', hr'⟩ := adP_app (adP (mkS S k).1 (tkn S k).1) (tkn S k).2.1
    have hl := (mkS_len S k).2
    by_cases q : j < k
    · obtain ⟨h1, h2, h3, h4, h5, h6⟩ := ih q
      have g1 : gtE (mkS S (k + 1)).2 j = gtE (mkS S k).2 j := by
        simp only [mkS, gtE, List.getD_eq_getElem?_getD]
        rw [List.getElem?_append_left (by omega)]
      have g2 : (mkS S (k + 1)).1 = (mkS S k).1 ++ (r ++ r') := by
        show adP _ _ = _
        rw [e', e, List.append_assoc]
      rw [g1, g2, gtP_app h1, gtP_app h2]
      exact ⟨by rw [List.length_append]; omega, by rw [List.length_append]; omega, h3, h4, h5, h6⟩
    · obtain rfl : j = k := by omega
      have g1 : gtE (mkS S (j + 1)).2 j = ⟨ixP (tkn S j).1 (mkS S j).1, ixP (tkn S j).2.1 (adP (mkS S j).1 (tkn S j).1), (tkn S j).2.2, j⟩ := by
        simp only [mkS, gtE, List.getD_eq_getElem?_getD]
        rw [List.getElem?_append_right (by omega), hl]
        simp
      rw [g1]
      have a1 := adP_lt (mkS S j).1 (tkn S j).1
      have a2 := adP_keeps (p := (tkn S j).2.1) a1
      have a3 := adP_lt (adP (mkS S j).1 (tkn S j).1) (tkn S j).2.1
      have b1 := adP_ix (mkS S j).1 (tkn S j).1
      have b2 := adP_ix (adP (mkS S j).1 (tkn S j).1) (tkn S j).2.1
      refine ⟨?_, ?_, ?_, ?_, rfl, rfl⟩
      · show ixP (tkn S j).1 (mkS S j).1 < (adP _ _).length
        rw [← b1, ← a2.1]; exact a2.2
      · show ixP _ _ < (adP _ _).length
        rw [← b2]; exact a3
      · show gtP (adP _ _) (ixP (tkn S j).1 (mkS S j).1) = _
        rw [← b1, ← a2.1]; exact ixP_at a2.2
      · show gtP (adP _ _) (ixP _ _) = _
        rw [← b2]; exact ixP_at a3
theorem crI_mem {R : Nat → Int} {P : Nat → Spt} {i n : Nat} {e : Edg} : e ∈ crI R P i n ↔ ∃ j, j < n ∧ (P i).1 = (P j).1 ∧ i ≠ j ∧ e = ⟨i, j, crb R (P i) (P j), -1⟩ := by
  induction n with
  | zero => simp [crI]
  | succ n ih =>
    rw [crI, List.mem_append, ih]
    constructor
    · rintro (⟨j, h1, h2⟩ | h)
      · exact ⟨j, by omega, h2⟩
      · split at h
        · rename_i q; simp at h; exact ⟨n, by omega, q.1, q.2, h⟩
        · simp at h
    · rintro ⟨j, h1, h2, h3, h4⟩
      by_cases q : j < n
      · exact .inl ⟨j, q, h2, h3, h4⟩
      · obtain rfl : j = n := by omega
        right
        rw [if_pos ⟨h2, h3⟩]; simp [h4]
theorem crO_mem {R : Nat → Int} {P : Nat → Spt} {n k : Nat} {e : Edg} : e ∈ crO R P n k ↔ ∃ i j, i < k ∧ j < n ∧ (P i).1 = (P j).1 ∧ i ≠ j ∧ e = ⟨i, j, crb R (P i) (P j), -1⟩ := by
  induction k with
  | zero => simp [crO]
  | succ k ih =>
    rw [crO, List.mem_append, ih, crI_mem]
    constructor
    · rintro (⟨i, j, h1, h2⟩ | ⟨j, h⟩)
      · exact ⟨i, j, by omega, h2⟩
      · exact ⟨k, j, by omega, h⟩
    · rintro ⟨i, j, h1, h2⟩
      by_cases q : i < k
      · exact .inl ⟨i, j, q, h2⟩
      · obtain rfl : i = k := by omega
        exact .inr ⟨j, h2⟩
theorem crI_len (R : Nat → Int) (P : Nat → Spt) (i n : Nat) : (crI R P i n).length ≤ n := by
  induction n with
  | zero => simp [crI]
  | succ n ih =>
    rw [crI, List.length_append]
    split <;> simp <;> omega
theorem crO_len (R : Nat → Int) (P : Nat → Spt) (n k : Nat) : (crO R P n k).length ≤ k * n := by
  induction k with
  | zero => simp [crO]
  | succ k ih =>
    have := crI_len R P k n
    rw [crO, List.length_append, Nat.succ_mul]
    omega
theorem gtE_mem {l : List Edg} {i : Nat} (h : i < l.length) : gtE l i ∈ l := by
  have : gtE l i = l[i] := by simp [gtE, List.getD_eq_getElem?_getD, List.getElem?_eq_getElem h]
  rw [this]; exact List.getElem_mem h
theorem mem_gtE {l : List Edg} {e : Edg} (h : e ∈ l) : ∃ i, i < l.length ∧ gtE l i = e := by
  obtain ⟨i, hi, he⟩ := List.mem_iff_getElem.1 h
  exact ⟨i, hi, by simp [gtE, List.getD_eq_getElem?_getD, List.getElem?_eq_getElem hi, he]⟩
/-- What chartOf builds is a chart. -/
theorem chart_ok {R : Nat → Int} {S : Nat → Sgt} {ns : Nat} {q : List Spt} (hS : ∀ k, k < 2 * ns → 0 ≤ R (tkn S k).1.1.toNat ∧ 0 ≤ R (tkn S k).2.1.1.toNat) (hq : ∀ p, p ∈ q → 0 ≤ R p.1.toNat) :
    Chart R S ns (gtP (ptsC S ns q)) (ptsC S ns q).length (gtE (stpC R S ns q)) (stpC R S ns q).length := by
  obtain ⟨r, hr, _⟩ := aqS_app (mkS S (2 * ns)).1 q
  have hl := (mkS_len S (2 * ns)).2
  have hP : ptsC S ns q = (mkS S (2 * ns)).1 ++ r := hr
  have left : ∀ k, k < 2 * ns → gtE (stpC R S ns q) k = gtE (mkS S (2 * ns)).2 k := fun k hk => by
    simp only [stpC, gtE, List.getD_eq_getElem?_getD]
    rw [List.getElem?_append_left (by omega)]
  have sg : ∀ k, k < 2 * ns → (gtE (stpC R S ns q) k).fr < (ptsC S ns q).length ∧ (gtE (stpC R S ns q) k).to < (ptsC S ns q).length ∧ gtP (ptsC S ns q) (gtE (stpC R S ns q) k).fr = (tkn S k).1 ∧ gtP (ptsC S ns q) (gtE (stpC R S ns q) k).to = (tkn S k).2.1 ∧ (gtE (stpC R S ns q) k).co = (tkn S k).2.2 ∧ (gtE (stpC R S ns q) k).no = k := fun k hk => by
    obtain ⟨h1, h2, h3, h4, h5, h6⟩ := mkS_edge S hk
    rw [left k hk, hP, gtP_app h1, gtP_app h2]
    exact ⟨by rw [List.length_append]; omega, by rw [List.length_append]; omega, h3, h4, h5, h6⟩
  refine ⟨fun i j hi hj e => onceP_inj (aqS_once q (mkS_once S _)) hi hj e, fun i hi => ?_, fun i hi => ?_, fun k hk => ?_, fun a b ha hb hab he => ?_⟩
  · have hm : gtP (ptsC S ns q) i ∈ aqS (mkS S (2 * ns)).1 q := gtP_mem hi
    generalize gtP (ptsC S ns q) i = p0 at hm ⊢
    rcases aqS_mem hm with h | h
    · obtain ⟨j, hj, e | e⟩ := mkS_mem h
      · rw [e]; exact (hS j hj).1
      · rw [e]; exact (hS j hj).2
    · exact hq _ h
  · by_cases h : i < 2 * ns
    · obtain ⟨h1, h2, h3, h4, h5, h6⟩ := sg i h
      exact ⟨h1, h2, .inl ⟨i, h, h3, h4, h5, h6⟩⟩
    · have : gtE (stpC R S ns q) i ∈ crO R (gtP (ptsC S ns q)) (ptsC S ns q).length (ptsC S ns q).length := by
        have e : gtE (stpC R S ns q) i = gtE (crO R (gtP (ptsC S ns q)) (ptsC S ns q).length (ptsC S ns q).length) (i - 2 * ns) := by
          simp only [stpC, gtE, List.getD_eq_getElem?_getD]
          rw [List.getElem?_append_right (by omega), hl]
        rw [e]
        refine gtE_mem ?_
        simp only [stpC, List.length_append] at hi
        omega
      obtain ⟨a, b, h1, h2, h3, h4, h5⟩ := crO_mem.1 this
      rw [h5]
      exact ⟨h1, h2, .inr ⟨h3, rfl, rfl⟩⟩
  · obtain ⟨h1, h2, h3, h4, h5, h6⟩ := sg k hk
    exact ⟨k, by simp only [stpC, List.length_append]; omega, h3, h4, h5⟩
  · have : (⟨a, b, crb R (gtP (ptsC S ns q) a) (gtP (ptsC S ns q) b), -1⟩ : Edg) ∈ stpC R S ns q := List.mem_append.2 (.inr (crO_mem.2 ⟨a, b, ha, hb, he, hab, rfl⟩))
    obtain ⟨i, hi, e⟩ := mem_gtE this
    exact ⟨i, hi, by rw [e], by rw [e], by rw [e]⟩
end Go.Proofs.Ytchikfegpoonjaa
