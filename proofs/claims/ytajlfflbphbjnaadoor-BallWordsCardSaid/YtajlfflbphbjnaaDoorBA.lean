/-
  The mast in pure terms: what a valid mast, state and event are, what an event does, what a log comes to.
-/
import Derived.Test.YtajlfflbphbjnaaDoorRows
namespace Go.Proofs.YtajlfflbphbjnaaDoor

/-- A mast, a state, an event, a relay. -/
structure Mst where
  (no hf fu la ag wi : Int)
structure Bal where
  (pl wi : Int)
  (fl : Bool)
  (t : Int)
deriving DecidableEq
structure Evt where
  (t ki n : Int)
deriving DecidableEq
structure Rly where
  (lag spr : Int)
abbrev Bal.zero : Bal := ⟨0, 0, false, 0⟩

def isT (t : Int) : Prop := 0 ≤ t ∧ t < 86400000
instance (t : Int) : Decidable (isT t) := by unfold isT; exact inferInstance
def isW (n : Int) : Prop := 0 ≤ n ∧ n ≤ 1000
instance (n : Int) : Decidable (isW n) := by unfold isW; exact inferInstance
structure VM (M : Mst) : Prop where
  no0 : 0 ≤ M.no
  no1 : M.no < 86400000
  fu0 : 1000 ≤ M.fu
  hf0 : M.fu < M.hf
  hf1 : M.hf ≤ 3600000
  hf2 : M.hf ≤ M.no
  la0 : 0 ≤ M.la
  la1 : M.la ≤ 1000
  ag0 : M.hf ≤ M.ag
  ag1 : M.ag ≤ 7200000
  ag2 : M.no + M.ag < 86400000
  wi0 : 0 ≤ M.wi
  wi1 : M.wi ≤ 1000
theorem vm_iff (M : Mst) : VM M ↔ (0 ≤ M.no ∧ M.no < 86400000 ∧ 1000 ≤ M.fu ∧ M.fu < M.hf ∧ M.hf ≤ 3600000 ∧ M.hf ≤ M.no ∧ 0 ≤ M.la ∧ M.la ≤ 1000 ∧ M.hf ≤ M.ag ∧ M.ag ≤ 7200000 ∧ M.no + M.ag < 86400000 ∧ 0 ≤ M.wi ∧ M.wi ≤ 1000) :=
  ⟨fun ⟨a, b, c, d, e, f, g, h, i, j, k, l, m⟩ => ⟨a, b, c, d, e, f, g, h, i, j, k, l, m⟩, fun ⟨a, b, c, d, e, f, g, h, i, j, k, l, m⟩ => ⟨a, b, c, d, e, f, g, h, i, j, k, l, m⟩⟩
instance (M : Mst) : Decidable (VM M) := decidable_of_iff _ (vm_iff M).symm

structure VS (s : Bal) : Prop where
  pl0 : 0 ≤ s.pl
  pl1 : s.pl ≤ 3
  wi0 : 0 ≤ s.wi
  wi1 : s.wi ≤ 1000
  t0 : 0 ≤ s.t
  t1 : s.t < 86400000
theorem vs_iff (s : Bal) : VS s ↔ (0 ≤ s.pl ∧ s.pl ≤ 3 ∧ 0 ≤ s.wi ∧ s.wi ≤ 1000 ∧ 0 ≤ s.t ∧ s.t < 86400000) :=
  ⟨fun ⟨a, b, c, d, e, f⟩ => ⟨a, b, c, d, e, f⟩, fun ⟨a, b, c, d, e, f⟩ => ⟨a, b, c, d, e, f⟩⟩
instance (s : Bal) : Decidable (VS s) := decidable_of_iff _ (vs_iff s).symm

/-- An event's numbers are in their ranges. -/
structure VE (e : Evt) : Prop where
  t0 : 0 ≤ e.t
  t1 : e.t < 86400000
  k0 : 1 ≤ e.ki
  k1 : e.ki ≤ 6
  n0 : 0 ≤ e.n
  n1 : e.n ≤ 1000
  n2 : e.ki = 1 ∨ e.n = 0
theorem ve_iff (e : Evt) : VE e ↔ (0 ≤ e.t ∧ e.t < 86400000 ∧ 1 ≤ e.ki ∧ e.ki ≤ 6 ∧ 0 ≤ e.n ∧ e.n ≤ 1000 ∧ (e.ki = 1 ∨ e.n = 0)) :=
  ⟨fun ⟨a, b, c, d, e, f, g⟩ => ⟨a, b, c, d, e, f, g⟩, fun ⟨a, b, c, d, e, f, g⟩ => ⟨a, b, c, d, e, f, g⟩⟩
instance (e : Evt) : Decidable (VE e) := decidable_of_iff _ (ve_iff e).symm
theorem VE.kinds {e : Evt} (h : VE e) : e.ki = 1 ∨ e.ki = 2 ∨ e.ki = 3 ∨ e.ki = 4 ∨ e.ki = 5 ∨ e.ki = 6 := by
  have := h.k0
  have := h.k1
  omega

/-- A time to raise the ball to half mast for a drop. -/
def bef (M : Mst) (d t : Int) : Prop := d - M.hf ≤ t ∧ t < d - M.fu
instance (M : Mst) (d t : Int) : Decidable (bef M d t) := by unfold bef; exact inferInstance

/-- What is allowed, and what it does. -/
def alw (M : Mst) (s : Bal) (ki t : Int) : Prop :=
  ki = 1 ∨ (ki = 2 ∧ s.pl = 0 ∧ s.wi ≤ M.wi ∧ (bef M M.no t ∨ bef M (M.no + M.ag) t)) ∨ (ki = 3 ∧ s.pl = 1 ∧ M.no - M.fu ≤ t ∧ t ≤ M.no + M.ag) ∨ ((ki = 4 ∨ ki = 5) ∧ s.pl = 2) ∨ (ki = 6 ∧ s.fl = false)
instance (M : Mst) (s : Bal) (ki t : Int) : Decidable (alw M s ki t) := by unfold alw; exact inferInstance
def doe (s : Bal) (e : Evt) : Bal :=
  if e.ki = 1 then ⟨s.pl, if s.wi < e.n then e.n else s.wi, s.fl, e.t⟩ else if e.ki = 2 then ⟨1, s.wi, s.fl, e.t⟩ else if e.ki = 3 then ⟨2, s.wi, s.fl, e.t⟩
  else if e.ki = 4 then ⟨0, s.wi, s.fl, e.t⟩ else if e.ki = 5 then ⟨3, s.wi, s.fl, e.t⟩ else ⟨0, s.wi, true, e.t⟩
/-- The state after an event, or its error. -/
def stp (M : Mst) (s : Bal) (e : Evt) : Bal × Int :=
  if VE e ∧ s.t ≤ e.t then (if alw M s e.ki e.t then (doe s e, 0) else (Bal.zero, 9)) else (Bal.zero, 7)
theorem doe_vs {s : Bal} {e : Evt} (hs : VS s) (he : VE e) : VS (doe s e) := by
  obtain ⟨a, b, c, d, f, g⟩ := hs
  obtain ⟨a1, b1, c1, d1, f1, g1, h1⟩ := he
  unfold doe
  rcases (show e.ki = 1 ∨ e.ki = 2 ∨ e.ki = 3 ∨ e.ki = 4 ∨ e.ki = 5 ∨ e.ki = 6 by omega) with h | h | h | h | h | h <;> rw [h] <;> simp <;> constructor <;> simp <;> (try split) <;> omega
theorem stp_vs {M : Mst} {s : Bal} {e : Evt} (hs : VS s) : VS (stp M s e).1 := by
  have hz : VS Bal.zero := by constructor <;> decide
  unfold stp
  by_cases h : VE e ∧ s.t ≤ e.t
  · rw [if_pos h]
    by_cases h2 : alw M s e.ki e.t
    · rw [if_pos h2]; exact doe_vs hs h.1
    · rw [if_neg h2]; exact hz
  · rw [if_neg h]; exact hz

/-- The state after the first n events, how many were allowed, the first error. -/
def runF (M : Mst) (E : Nat → Evt) : Nat → Bal × Nat × Int
  | 0 => (Bal.zero, 0, 0)
  | n + 1 => if (runF M E n).2.2 = 0 then (if (stp M (runF M E n).1 (E n)).2 = 0 then ((stp M (runF M E n).1 (E n)).1, n + 1, 0) else (Bal.zero, n, (stp M (runF M E n).1 (E n)).2)) else runF M E n
theorem runF_vs (M : Mst) (E : Nat → Evt) (n : Nat) : VS (runF M E n).1 := by
  have hz : VS Bal.zero := by constructor <;> decide
  induction n with
  | zero => exact hz
  | succ n ih =>
    unfold runF
    by_cases h : (runF M E n).2.2 = 0
    · rw [if_pos h]
      by_cases h2 : (stp M (runF M E n).1 (E n)).2 = 0
      · rw [if_pos h2]; exact stp_vs ih
      · rw [if_neg h2]; exact hz
    · rw [if_neg h]; exact ih
theorem runF_len {M : Mst} {E : Nat → Evt} {n : Nat} (h : (runF M E n).2.2 = 0) : (runF M E n).2.1 = n := by
  cases n with
  | zero => rfl
  | succ n =>
    rw [runF] at h ⊢
    by_cases h1 : (runF M E n).2.2 = 0
    · rw [if_pos h1] at h ⊢
      by_cases h2 : (stp M (runF M E n).1 (E n)).2 = 0
      · rw [if_pos h2]
      · rw [if_neg h2] at h; exact absurd h h2
    · rw [if_neg h1] at h; exact absurd h h1
theorem runF_stop {M : Mst} {E : Nat → Evt} {k : Nat} (h : (runF M E k).2.2 ≠ 0) : ∀ n, k ≤ n → runF M E n = runF M E k := by
  intro n hn
  induction n with
  | zero => rw [show k = 0 by omega]
  | succ n ih =>
    by_cases e : k = n + 1
    · rw [e]
    · have := ih (by omega)
      rw [runF, if_neg (by rw [this]; exact h), this]
theorem runF_pre {M : Mst} {E : Nat → Evt} {n : Nat} (h : (runF M E n).2.2 = 0) : ∀ k, k ≤ n → (runF M E k).2.2 = 0 := by
  intro k hk
  by_cases e : (runF M E k).2.2 = 0
  · exact e
  · rw [runF_stop e n hk] at h; exact absurd h e
theorem runF_next {M : Mst} {E : Nat → Evt} {k : Nat} (h : (runF M E k).2.2 = 0) : runF M E (k + 1) = if (stp M (runF M E k).1 (E k)).2 = 0 then ((stp M (runF M E k).1 (E k)).1, k + 1, 0) else (Bal.zero, k, (stp M (runF M E k).1 (E k)).2) := by
  rw [runF, if_pos h]
theorem stp_ve {M : Mst} {s : Bal} {e : Evt} (h : (stp M s e).2 = 0) : VE e ∧ s.t ≤ e.t ∧ alw M s e.ki e.t ∧ (stp M s e).1 = doe s e := by
  unfold stp at h ⊢
  by_cases h1 : VE e ∧ s.t ≤ e.t
  · rw [if_pos h1] at h ⊢
    by_cases h2 : alw M s e.ki e.t
    · rw [if_pos h2] at h ⊢; exact ⟨h1.1, h1.2, h2, rfl⟩
    · rw [if_neg h2] at h; cases h
  · rw [if_neg h1] at h; cases h
/-- In a log every event's numbers are in their ranges. -/
theorem runF_ve {M : Mst} {E : Nat → Evt} {n : Nat} (h : (runF M E n).2.2 = 0) : ∀ k, k < n → VE (E k) := by
  intro k hk
  have h1 := runF_pre h (k + 1) (by omega)
  rw [runF_next (runF_pre h k (by omega))] at h1
  by_cases e : (stp M (runF M E k).1 (E k)).2 = 0
  · exact (stp_ve e).1
  · rw [if_neg e] at h1; exact absurd h1 e
theorem runF_congr {M : Mst} {E E' : Nat → Evt} {n : Nat} (h : ∀ k, k < n → E k = E' k) : runF M E n = runF M E' n := by
  induction n with
  | zero => rfl
  | succ n ih =>
    rw [runF, runF, ih fun k hk => h k (by omega), h n (by omega)]

/-- The index of the first event of a kind among the first n. -/
def idxF (E : Nat → Evt) (ki : Int) : Nat → Option Nat
  | 0 => none
  | n + 1 => match idxF E ki n with
    | some k => some k
    | none => if (E n).ki = ki then some n else none
theorem idxF_none {E : Nat → Evt} {ki : Int} {n : Nat} : idxF E ki n = none ↔ ∀ j, j < n → (E j).ki ≠ ki := by
  induction n with
  | zero => simp [idxF]
  | succ n ih =>
    rw [idxF]
    cases h : idxF E ki n with
    | some k => exact ⟨fun h1 => (by cases h1), fun h1 => absurd (ih.2 fun j hj => h1 j (by omega)) (by rw [h]; simp)⟩
    | none =>
      have h2 := ih.1 h
      by_cases e : (E n).ki = ki
      · simp only [if_pos e]
        exact ⟨fun h1 => (by cases h1), fun h1 => absurd e (h1 n (by omega))⟩
      · simp only [if_neg e]
        refine ⟨fun _ j hj => ?_, fun _ => trivial⟩
        by_cases e2 : j = n
        · rw [e2]; exact e
        · exact h2 j (by omega)
theorem idxF_some {E : Nat → Evt} {ki : Int} {n k : Nat} : idxF E ki n = some k ↔ k < n ∧ (E k).ki = ki ∧ ∀ j, j < k → (E j).ki ≠ ki := by
  induction n with
  | zero => simp [idxF]
  | succ n ih =>
    rw [idxF]
    cases h : idxF E ki n with
    | some i =>
      have hi : i < n ∧ (E i).ki = ki ∧ ∀ j, j < i → (E j).ki ≠ ki := by
        clear ih
        induction n with
        | zero => simp [idxF] at h
        | succ n ih2 =>
          rw [idxF] at h
          cases h3 : idxF E ki n with
          | some i2 =>
            rw [h3] at h
            cases h
            have := ih2 h3
            exact ⟨by omega, this.2⟩
          | none =>
            rw [h3] at h
            by_cases e : (E n).ki = ki
            · simp only [if_pos e] at h
              cases h
              exact ⟨by omega, e, idxF_none.1 h3⟩
            · simp only [if_neg e] at h
              cases h
      constructor
      · intro e
        cases e
        exact ⟨by omega, hi.2⟩
      · rintro ⟨h1, h2, h3⟩
        have : i = k := by
          rcases Nat.lt_trichotomy i k with h4 | h4 | h4
          · exact absurd hi.2.1 (h3 i h4)
          · exact h4
          · exact absurd h2 (hi.2.2 k h4)
        rw [this]
    | none =>
      have h2 := idxF_none.1 h
      by_cases e : (E n).ki = ki
      · simp only [if_pos e]
        constructor
        · intro e1
          cases e1
          exact ⟨by omega, e, h2⟩
        · rintro ⟨h3, h4, h5⟩
          have : n = k := by
            rcases Nat.lt_trichotomy n k with h6 | h6 | h6
            · omega
            · exact h6
            · exact absurd h4 (h2 k h6)
          rw [this]
      · simp only [if_neg e]
        refine ⟨fun h3 => (by cases h3), ?_⟩
        rintro ⟨h3, h4, h5⟩
        by_cases e2 : k = n
        · rw [e2] at h4; exact absurd h4 e
        · exact absurd h4 (h2 k (by omega))
theorem idxF_congr {E E' : Nat → Evt} {ki : Int} {n : Nat} (h : ∀ k, k < n → E k = E' k) : idxF E ki n = idxF E' ki n := by
  induction n with
  | zero => rfl
  | succ n ih => rw [idxF, idxF, ih fun k hk => h k (by omega), h n (by omega)]
/-- Whether a kind is among the c events from a on. -/
def hasF (E : Nat → Evt) (ki : Int) (a c : Nat) : Prop := ∃ j, j < c ∧ (E (a + j)).ki = ki
instance (E : Nat → Evt) (ki : Int) (a c : Nat) : Decidable (hasF E ki a c) := by unfold hasF; exact inferInstance
theorem hasF_congr {E E' : Nat → Evt} {ki : Int} {a c : Nat} (h : ∀ k, k < a + c → E k = E' k) : hasF E ki a c ↔ hasF E' ki a c :=
  ⟨fun ⟨j, h1, h2⟩ => ⟨j, h1, by rw [← h _ (by omega)]; exact h2⟩, fun ⟨j, h1, h2⟩ => ⟨j, h1, by rw [h _ (by omega)]; exact h2⟩⟩

def inT (d la t : Int) : Prop := d - la ≤ t ∧ t ≤ d + la
instance (d la t : Int) : Decidable (inT d la t) := by unfold inT; exact inferInstance
/-- The verdict of a log. -/
def verL (M : Mst) (E : Nat → Evt) (n : Nat) : Int :=
  match idxF E 4 n with
  | none => if hasF E 6 0 n then 4 else 5
  | some k => if inT M.no M.la (E k).t then 0 else if hasF E 6 0 k ∧ inT (M.no + M.ag) M.la (E k).t then 3 else if hasF E 6 k (n - k) then 1 else 2
def verF (M : Mst) (E : Nat → Evt) (n : Nat) : Int × Int := if (runF M E n).2.2 = 0 then (verL M E n, 0) else (0, (runF M E n).2.2)
/-- By how much the first drop was late. -/
def offF (M : Mst) (E : Nat → Evt) (n : Nat) : Int × Int :=
  if (runF M E n).2.2 = 0 then (match idxF E 4 n with
    | none => (0, 8)
    | some k => (if verL M E n = 3 then (E k).t - (M.no + M.ag) else (E k).t - M.no, 0)) else (0, (runF M E n).2.2)
theorem verL_congr {M : Mst} {E E' : Nat → Evt} {n : Nat} (h : ∀ k, k < n → E k = E' k) : verL M E n = verL M E' n := by
  unfold verL
  rw [← idxF_congr h]
  cases h1 : idxF E 4 n with
  | none => simp only [hasF_congr (ki := 6) (a := 0) (c := n) (fun k hk => h k (by omega))]
  | some k =>
    have hk := (idxF_some.1 h1).1
    simp only [hasF_congr (ki := 6) (a := 0) (c := k) (fun j hj => h j (by omega)), hasF_congr (ki := 6) (a := k) (c := n - k) (fun j hj => h j (by omega)), h k hk]
theorem verF_congr {M : Mst} {E E' : Nat → Evt} {n : Nat} (h : ∀ k, k < n → E k = E' k) : verF M E n = verF M E' n := by
  unfold verF
  rw [runF_congr h, verL_congr h]

/-- A fault. -/
def fltF (v : Int) : Prop := v = 2 ∨ v = 5
instance (v : Int) : Decidable (fltF v) := by unfold fltF; exact inferInstance
/-- A log and one event more. -/
def snoc (E : Nat → Evt) (n : Nat) (e : Evt) : Nat → Evt := fun j => if j < n then E j else e
theorem snoc_lt {E : Nat → Evt} {n : Nat} {e : Evt} {j : Nat} (h : j < n) : snoc E n e j = E j := if_pos h
theorem snoc_at {E : Nat → Evt} {n : Nat} {e : Evt} : snoc E n e n = e := if_neg (by omega)
theorem idx_snoc (E : Nat → Evt) (n : Nat) (e : Evt) (ki : Int) : idxF (snoc E n e) ki (n + 1) = match idxF E ki n with
    | some k => some k
    | none => if e.ki = ki then some n else none := by
  rw [idxF, idxF_congr (E' := E) fun k hk => snoc_lt hk, snoc_at]
theorem has_snoc (E : Nat → Evt) (n : Nat) (e : Evt) (ki : Int) {a c : Nat} (h : a + c ≤ n) : hasF (snoc E n e) ki a c ↔ hasF E ki a c := hasF_congr fun k hk => snoc_lt (by omega)
theorem has_snoc1 (E : Nat → Evt) (n : Nat) (e : Evt) (ki : Int) {a : Nat} (h : a ≤ n) : hasF (snoc E n e) ki a (n + 1 - a) ↔ (hasF E ki a (n - a) ∨ e.ki = ki) := by
  constructor
  · rintro ⟨j, h1, h2⟩
    by_cases e1 : a + j = n
    · rw [e1, snoc_at] at h2; exact .inr h2
    · rw [snoc_lt (by omega)] at h2; exact .inl ⟨j, by omega, h2⟩
  · rintro (⟨j, h1, h2⟩ | h2)
    · exact ⟨j, by omega, by rw [snoc_lt (by omega)]; exact h2⟩
    · exact ⟨n - a, by omega, by rw [show a + (n - a) = n by omega, snoc_at]; exact h2⟩
/-- P4.4: a flag at the end unsays a fault; what was good, again or wrong stays so. -/
theorem unsays (M : Mst) (E : Nat → Evt) (n : Nat) (e : Evt) :
    (e.ki = 6 → ¬ fltF (verL M (snoc E n e) (n + 1)) ∧ (¬ fltF (verL M E n) → verL M (snoc E n e) (n + 1) = verL M E n)) ∧
    ((verL M E n = 0 ∨ verL M E n = 3 ∨ verL M E n = 1) → verL M (snoc E n e) (n + 1) = verL M E n) := by
  cases h1 : idxF E 4 n with
  | none =>
    have v1 : verL M E n = if hasF E 6 0 n then 4 else 5 := by unfold verL; rw [h1]
    rw [v1]
    refine ⟨fun h6 => ?_, fun h => ?_⟩
    · have v2 : verL M (snoc E n e) (n + 1) = 4 := by
        unfold verL
        rw [idx_snoc, h1]
        have n4 : ¬ e.ki = 4 := by omega
        have := (has_snoc1 E n e 6 (a := 0) (by omega)).2 (.inr h6)
        rw [Nat.sub_zero] at this
        simp only [if_neg n4]
        rw [if_pos this]
      rw [v2]
      refine ⟨by simp [fltF], fun h => ?_⟩
      by_cases e2 : hasF E 6 0 n
      · rw [if_pos e2]
      · rw [if_neg e2] at h; exact absurd (.inr rfl) h
    · by_cases e2 : hasF E 6 0 n
      · rw [if_pos e2] at h; omega
      · rw [if_neg e2] at h; omega
  | some k =>
    have hk := (idxF_some.1 h1).1
    have v1 : verL M E n = if inT M.no M.la (E k).t then 0 else if hasF E 6 0 k ∧ inT (M.no + M.ag) M.la (E k).t then 3 else if hasF E 6 k (n - k) then 1 else 2 := by unfold verL; rw [h1]
    have v2 : verL M (snoc E n e) (n + 1) = if inT M.no M.la (E k).t then 0 else if hasF E 6 0 k ∧ inT (M.no + M.ag) M.la (E k).t then 3 else if hasF E 6 k (n - k) ∨ e.ki = 6 then 1 else 2 := by
      unfold verL
      rw [idx_snoc, h1]
      simp only [snoc_lt hk, has_snoc E n e 6 (a := 0) (c := k) (by omega), has_snoc1 E n e 6 (a := k) (by omega)]
    rw [v1, v2]
    by_cases c1 : inT M.no M.la (E k).t
    · rw [if_pos c1, if_pos c1]; exact ⟨fun _ => ⟨by simp [fltF], fun _ => rfl⟩, fun _ => rfl⟩
    · rw [if_neg c1, if_neg c1]
      by_cases c2 : hasF E 6 0 k ∧ inT (M.no + M.ag) M.la (E k).t
      · rw [if_pos c2, if_pos c2]; exact ⟨fun _ => ⟨by simp [fltF], fun _ => rfl⟩, fun _ => rfl⟩
      · rw [if_neg c2, if_neg c2]
        by_cases c3 : hasF E 6 k (n - k)
        · rw [if_pos c3, if_pos (.inl c3)]; exact ⟨fun _ => ⟨by simp [fltF], fun _ => rfl⟩, fun _ => rfl⟩
        · rw [if_neg c3]
          refine ⟨fun h6 => ?_, fun h => ?_⟩
          · rw [if_pos (.inr h6)]; exact ⟨by simp [fltF], fun h => absurd (.inl rfl) h⟩
          · omega

/-- The log of a good noon, and of one with a second drop. -/
def planE (M : Mst) (j : Nat) : Evt := if j = 0 then ⟨M.no - M.hf, 2, 0⟩ else if j = 1 then ⟨M.no - M.fu, 3, 0⟩ else ⟨M.no, 4, 0⟩
def secE (M : Mst) (j : Nat) : Evt :=
  if j = 0 then ⟨M.no - M.hf, 2, 0⟩ else if j = 1 then ⟨M.no - M.fu, 3, 0⟩ else if j = 2 then ⟨M.no, 5, 0⟩ else if j = 3 then ⟨M.no, 6, 0⟩
  else if j = 4 then ⟨M.no + M.ag - M.hf, 2, 0⟩ else if j = 5 then ⟨M.no + M.ag - M.fu, 3, 0⟩ else ⟨M.no + M.ag, 4, 0⟩
theorem runF_ok {M : Mst} {E : Nat → Evt} {n : Nat} {s s' : Bal} (h : runF M E n = (s, n, 0)) (h1 : VE (E n)) (h2 : s.t ≤ (E n).t) (h3 : alw M s (E n).ki (E n).t) (h4 : doe s (E n) = s') : runF M E (n + 1) = (s', n + 1, 0) := by
  have e : stp M s (E n) = (s', 0) := by unfold stp; rw [if_pos ⟨h1, h2⟩, if_pos h3, h4]
  rw [runF, h]
  simp only [e, if_pos]
theorem plan_run {M : Mst} (h : VM M) : runF M (planE M) 3 = (⟨0, 0, false, M.no⟩, 3, 0) := by
  obtain ⟨a, b, c, d, e, f, g, i, j, k, l, m, o⟩ := h
  have r1 : runF M (planE M) 1 = (⟨1, 0, false, M.no - M.hf⟩, 1, 0) :=
    runF_ok (n := 0) (s := Bal.zero) rfl (by constructor <;> simp [planE] <;> omega) (by simp [planE]; omega) (by simp [alw, planE, bef]; omega) (by simp [doe, planE])
  have r2 : runF M (planE M) 2 = (⟨2, 0, false, M.no - M.fu⟩, 2, 0) :=
    runF_ok (n := 1) r1 (by constructor <;> simp [planE] <;> omega) (by simp [planE]; omega) (by simp [alw, planE, bef]; omega) (by simp [doe, planE])
  exact runF_ok (n := 2) r2 (by constructor <;> simp [planE] <;> omega) (by simp [planE]; omega) (by simp [alw, planE, bef]) (by simp [doe, planE])
theorem sec_run {M : Mst} (h : VM M) : runF M (secE M) 7 = (⟨0, 0, true, M.no + M.ag⟩, 7, 0) := by
  obtain ⟨a, b, c, d, e, f, g, i, j, k, l, m, o⟩ := h
  have r1 : runF M (secE M) 1 = (⟨1, 0, false, M.no - M.hf⟩, 1, 0) :=
    runF_ok (n := 0) (s := Bal.zero) rfl (by constructor <;> simp [secE] <;> omega) (by simp [secE]; omega) (by simp [alw, secE, bef]; omega) (by simp [doe, secE])
  have r2 : runF M (secE M) 2 = (⟨2, 0, false, M.no - M.fu⟩, 2, 0) :=
    runF_ok (n := 1) r1 (by constructor <;> simp [secE] <;> omega) (by simp [secE]; omega) (by simp [alw, secE, bef]; omega) (by simp [doe, secE])
  have r3 : runF M (secE M) 3 = (⟨3, 0, false, M.no⟩, 3, 0) :=
    runF_ok (n := 2) r2 (by constructor <;> simp [secE] <;> omega) (by simp [secE]; omega) (by simp [alw, secE, bef]) (by simp [doe, secE])
  have r4 : runF M (secE M) 4 = (⟨0, 0, true, M.no⟩, 4, 0) :=
    runF_ok (n := 3) r3 (by constructor <;> simp [secE] <;> omega) (by simp [secE]) (by simp [alw, secE, bef]) (by simp [doe, secE])
  have r5 : runF M (secE M) 5 = (⟨1, 0, true, M.no + M.ag - M.hf⟩, 5, 0) :=
    runF_ok (n := 4) r4 (by constructor <;> simp [secE] <;> omega) (by simp [secE]; omega) (by simp [alw, secE, bef]; omega) (by simp [doe, secE])
  have r6 : runF M (secE M) 6 = (⟨2, 0, true, M.no + M.ag - M.fu⟩, 6, 0) :=
    runF_ok (n := 5) r5 (by constructor <;> simp [secE] <;> omega) (by simp [secE]; omega) (by simp [alw, secE, bef]; omega) (by simp [doe, secE])
  exact runF_ok (n := 6) r6 (by constructor <;> simp [secE] <;> omega) (by simp [secE]; omega) (by simp [alw, secE, bef]) (by simp [doe, secE])
theorem plan_ver {M : Mst} (h : VM M) : verF M (planE M) 3 = (0, 0) ∧ offF M (planE M) 3 = (0, 0) := by
  have hr : (runF M (planE M) 3).2.2 = 0 := by rw [plan_run h]
  have hi : idxF (planE M) 4 3 = some 2 := idxF_some.2 ⟨by omega, by simp [planE], fun j hj => by rcases (show j = 0 ∨ j = 1 by omega) with e | e <;> subst e <;> simp [planE]⟩
  have hv : verL M (planE M) 3 = 0 := by
    unfold verL
    rw [hi]
    have := h.la0
    simp only
    rw [if_pos (by simp [inT, planE]; omega)]
  unfold verF offF
  rw [if_pos hr, if_pos hr, hv, hi]
  simp [planE]
theorem sec_ver {M : Mst} (h : VM M) : verF M (secE M) 7 = (3, 0) ∧ offF M (secE M) 7 = (0, 0) := by
  have hr : (runF M (secE M) 7).2.2 = 0 := by rw [sec_run h]
  have hi : idxF (secE M) 4 7 = some 6 := idxF_some.2 ⟨by omega, by simp [secE], fun j hj => by rcases (show j = 0 ∨ j = 1 ∨ j = 2 ∨ j = 3 ∨ j = 4 ∨ j = 5 by omega) with e | e | e | e | e | e <;> subst e <;> simp [secE]⟩
  obtain ⟨a, b, c, d, e, f, g, i, j, k, l, m, o⟩ := h
  have hv : verL M (secE M) 7 = 3 := by
    unfold verL
    rw [hi]
    simp only
    rw [if_neg (by simp [inT, secE]; omega), if_pos ⟨⟨3, by omega, by simp [secE]⟩, by simp [inT, secE]; omega⟩]
  unfold verF offF
  rw [if_pos hr, if_pos hr, hv, hi]
  simp [secE]
end Go.Proofs.YtajlfflbphbjnaaDoor
