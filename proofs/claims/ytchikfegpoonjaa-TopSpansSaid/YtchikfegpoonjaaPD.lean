/-
  Package sight and its reference: sights and nets that are valid, carries.
-/
import Derived.Test.YtchikfegpoonjaaPB
import Derived.Deep.RegionLaw
import Derived.Deep.RegionHeld3
import Derived.Lib.MinMax
import Derived.Laws.OwnMore
import Derived.Deep.AppendLies
import Derived.Deep.OwnRows
namespace Go.Proofs.Ytchikfegpoonjaa
open Go.RowKit
set_option linter.unusedSimpArgs false
set_option linter.unusedVariables false

abbrev encN (A : Option Addr) (n c : Nat) (B : Option Addr) (m d : Nat) : Value := .agg #[.slice A n c, .slice B m d]
abbrev encG (x : Sgt) : Value := .agg #[.int .i64 x.tm, .int .i64 x.ca, .int .i64 x.cb, .int .i64 x.lo, .int .i64 x.hi]
/-- A slice of sights reads as a function. -/
def Sgl (w : World) (A : Option Addr) (n : Nat) (S : Nat → Sgt) : Prop :=
  0 < n → ∃ b off, A = some ⟨b, off, none⟩ ∧ b < w.heap.size ∧ ∀ j, j < n → w.cell? ⟨b, off + j * 5, none⟩ = some (.int .i64 (S j).tm) ∧ w.cell? ⟨b, off + j * 5 + 1, none⟩ = some (.int .i64 (S j).ca) ∧
    w.cell? ⟨b, off + j * 5 + 2, none⟩ = some (.int .i64 (S j).cb) ∧ w.cell? ⟨b, off + j * 5 + 3, none⟩ = some (.int .i64 (S j).lo) ∧ w.cell? ⟨b, off + j * 5 + 4, none⟩ = some (.int .i64 (S j).hi)
theorem Sgl.below {w w' : World} {A : Option Addr} {n : Nat} {S : Nat → Sgt} (h : Sgl w A n S) (hb : Bl w w') : Sgl w' A n S := fun hn => by
  obtain ⟨b, off, e, hlt, hc⟩ := h hn
  exact ⟨b, off, e, Nat.lt_of_lt_of_le hlt hb.size, fun j hj => by
    obtain ⟨c0, c1, c2, c3, c4⟩ := hc j hj
    exact ⟨kcb hb c0, kcb hb c1, kcb hb c2, kcb hb c3, kcb hb c4⟩⟩
theorem Sgl.congr {w : World} {A : Option Addr} {n : Nat} {S T : Nat → Sgt} (h : Sgl w A n S) (he : ∀ j, j < n → S j = T j) : Sgl w A n T := fun h0 => by
  obtain ⟨b, off, e, hlt, hc⟩ := h h0
  exact ⟨b, off, e, hlt, fun j hj => by rw [← he j hj]; exact hc j hj⟩
theorem slS_congr {w : World} {A : Option Addr} {n : Nat} {f g : Nat → Int} (h : Sl w A n f) (he : ∀ j, j < n → f j = g j) : Sl w A n g := fun h0 => by
  obtain ⟨b, off, e, hlt, hc⟩ := h h0
  exact ⟨b, off, e, hlt, fun j hj => by rw [← he j hj]; exact hc j hj⟩
/-- A clock's number. -/
def clB (n : Nat) (x : Int) : Bool := decide (0 ≤ x) && decide (x < (n : Int))
theorem clB_iff {n : Nat} {x : Int} : clB n x = true ↔ 0 ≤ x ∧ x < (n : Int) := by simp [clB]
/-- A sight is valid among n clocks. -/
def sgB (n : Nat) (x : Sgt) : Bool := inB x.tm 0 1000000000000 && clB n x.ca && clB n x.cb && decide (x.ca ≠ x.cb) && decide (-86400000 ≤ x.lo) && decide (x.lo ≤ x.hi) && decide (x.hi ≤ 86400000)
theorem sgB_iff {n : Nat} {x : Sgt} : sgB n x = true ↔ (0 ≤ x.tm ∧ x.tm ≤ 1000000000000) ∧ (0 ≤ x.ca ∧ x.ca < (n : Int)) ∧ (0 ≤ x.cb ∧ x.cb < (n : Int)) ∧ x.ca ≠ x.cb ∧ -86400000 ≤ x.lo ∧ x.lo ≤ x.hi ∧ x.hi ≤ 86400000 := by simp [sgB, inB_iff, clB_iff, and_assoc]
def raTo (R : Nat → Int) : Nat → Bool
  | 0 => true
  | k + 1 => raTo R k && inB (R k) 0 1000000
def sgTo (n : Nat) (S : Nat → Sgt) : Nat → Bool
  | 0 => true
  | k + 1 => sgTo n S k && sgB n (S k)
/-- A net is valid. -/
def vnB (R : Nat → Int) (n : Nat) (S : Nat → Sgt) (m : Nat) : Bool := decide (2 ≤ n) && decide (n ≤ 8) && decide (R 0 = 0) && decide (m ≤ 30) && raTo R n && sgTo n S m
theorem raTo_no {R : Nat → Int} {k n : Nat} (hk : k < n) (h : inB (R k) 0 1000000 = false) : raTo R n = false := by
  induction n with
  | zero => omega
  | succ n ih =>
    by_cases e : k = n
    · subst e; simp [raTo, h]
    · simp [raTo, ih (by omega)]
theorem sgTo_no {N : Nat} {S : Nat → Sgt} {k n : Nat} (hk : k < n) (h : sgB N (S k) = false) : sgTo N S n = false := by
  induction n with
  | zero => omega
  | succ n ih =>
    by_cases e : k = n
    · subst e; simp [sgTo, h]
    · simp [sgTo, ih (by omega)]
theorem raTo_at {R : Nat → Int} {k n : Nat} (h : raTo R n = true) (hk : k < n) : 0 ≤ R k ∧ R k ≤ 1000000 := by
  cases e : inB (R k) 0 1000000 with
  | true => exact inB_iff.1 e
  | false => rw [raTo_no hk e] at h; cases h
theorem sgTo_at {N : Nat} {S : Nat → Sgt} {k n : Nat} (h : sgTo N S n = true) (hk : k < n) : sgB N (S k) = true := by
  cases e : sgB N (S k) with
  | true => rfl
  | false => rw [sgTo_no hk e] at h; cases h
/-- What a valid net is. -/
structure VN (R : Nat → Int) (n : Nat) (S : Nat → Sgt) (m : Nat) : Prop where
  n2 : 2 ≤ n
  n8 : n ≤ 8
  r0 : R 0 = 0
  m30 : m ≤ 30
  ra : ∀ k, k < n → 0 ≤ R k ∧ R k ≤ 1000000
  sg : ∀ k, k < m → sgB n (S k) = true
theorem raTo_of {R : Nat → Int} {n : Nat} (h : ∀ k, k < n → 0 ≤ R k ∧ R k ≤ 1000000) : raTo R n = true := by
  induction n with
  | zero => rfl
  | succ n ih => rw [raTo, ih (fun k hk => h k (by omega)), Bool.true_and]; exact inB_iff.2 (h n (by omega))
theorem sgTo_of {N : Nat} {S : Nat → Sgt} {n : Nat} (h : ∀ k, k < n → sgB N (S k) = true) : sgTo N S n = true := by
  induction n with
  | zero => rfl
  | succ n ih => rw [sgTo, ih (fun k hk => h k (by omega)), Bool.true_and]; exact h n (by omega)
theorem vn_iff {R : Nat → Int} {n : Nat} {S : Nat → Sgt} {m : Nat} : vnB R n S m = true ↔ VN R n S m := by
  simp only [vnB, Bool.and_eq_true, decide_eq_true_eq]
  constructor
  · rintro ⟨⟨⟨⟨⟨a, b⟩, c⟩, d⟩, e⟩, f⟩
    exact ⟨a, b, c, d, fun k hk => raTo_at e hk, fun k hk => sgTo_at f hk⟩
  · rintro ⟨a, b, c, d, e, f⟩
    exact ⟨⟨⟨⟨⟨a, b⟩, c⟩, d⟩, raTo_of e⟩, sgTo_of f⟩

set_option maxHeartbeats 400000 in
theorem isTimeS_any (t : Int) (w : World) : Calls Try.prog 24 #[.int .i64 t] w fun e w' => e = .returned (.bool (inB t 0 1000000000000)) ∧ Bl w w' := by
  go_enter Try.func24, Try.ntmps24
  go_wp2
  all_goals (go_ret; exact ⟨ret_bool (by rw [Bool.eq_iff_iff, inB_iff]; simp; try omega), Bl.rf _⟩)
set_option maxHeartbeats 400000 in
theorem isClockS_any (A : Option Addr) (n c : Nat) (B : Option Addr) (m d : Nat) (x : Int) (w : World) : Calls Try.prog 23 #[encN A n c B m d, .int .i64 x] w fun e w' => e = .returned (.bool (clB n x)) ∧ Bl w w' := by
  go_enter Try.func23, Try.ntmps23
  go_wp2
  all_goals (go_ret; exact ⟨ret_bool (by rw [Bool.eq_iff_iff, clB_iff]; simp; try omega), by go_grown⟩)
set_option maxHeartbeats 400000 in
theorem within2_any (n lo hi : Int) (w : World) : Calls Try.prog 16 #[.int .i64 n, .int .i64 lo, .int .i64 hi] w fun e w' => e = .returned (.bool (inB n lo hi)) ∧ Bl w w' := by
  go_enter Try.func16, Try.ntmps16
  go_wp2
  all_goals (go_ret; exact ⟨ret_bool (by rw [Bool.eq_iff_iff, inB_iff]; simp; try omega), Bl.rf _⟩)
theorem vS_in {lo hi : Int} (h : vS lo hi = true) : -1000000000000 ≤ lo ∧ lo ≤ hi ∧ hi ≤ 1000000000000 := by simp [vS] at h; omega
theorem vS_ok {lo hi : Int} (h1 : -86400000 ≤ lo) (h2 : lo ≤ hi) (h3 : hi ≤ 86400000) : vS lo hi = true := by simp [vS]; omega
set_option maxRecDepth 100000 in
set_option maxHeartbeats 3200000 in
theorem validSightS_any (A : Option Addr) (n c : Nat) (B : Option Addr) (m d : Nat) (x : Sgt) (w : World) :
    Calls Try.prog 29 #[encN A n c B m d, encG x] w fun e w' => e = .returned (.bool (sgB n x)) ∧ Bl w w' := by
  cases q0 : inB x.tm 0 1000000000000 with
  | false =>
    have Q0 := Lib.hid q0
    clear q0
    have HF := Lib.hid (show sgB n x = false by simp [sgB, Q0.out])
    go_enter Try.func29, Try.ntmps29
    go_wp2_with fail
    refine (isTimeS_any x.tm _).mono ?_
    rintro q1 w1 ⟨rfl, hb⟩
    have x0 := kcb hb (b := w.heap.size + 1) (o := 0) (v := .int .i64 x.tm) (by first | assumption | (refine cellUp ?_; assumption) | go_cell)
    have x1 := kcb hb (b := w.heap.size + 1) (o := 1) (v := .int .i64 x.ca) (by first | assumption | (refine cellUp ?_; assumption) | go_cell)
    have x2 := kcb hb (b := w.heap.size + 1) (o := 2) (v := .int .i64 x.cb) (by first | assumption | (refine cellUp ?_; assumption) | go_cell)
    have x3 := kcb hb (b := w.heap.size + 1) (o := 3) (v := .int .i64 x.lo) (by first | assumption | (refine cellUp ?_; assumption) | go_cell)
    have x4 := kcb hb (b := w.heap.size + 1) (o := 4) (v := .int .i64 x.hi) (by first | assumption | (refine cellUp ?_; assumption) | go_cell)
    have n0 := kcb hb (b := w.heap.size) (o := 0) (v := .slice A n c) (by first | assumption | (refine cellUp ?_; assumption) | go_cell)
    have n1 := kcb hb (b := w.heap.size) (o := 1) (v := .slice B m d) (by first | assumption | (refine cellUp ?_; assumption) | go_cell)
    have B1 : Bl w w1 := Below.trans (by go_grown) (hb.mono (by (try simp only [World.size_alloc, World.size_setCell, World.size_drew]); omega))
    have l1 := ltb n1
    have l1_1 := ltb x4
    have zz1 := B1.size
    clear hb
    rw [Q0.out]
    go_wp2_with fail
    go_ret
    exact ⟨ret_bool HF.out.symm, B1⟩
  | true =>
    have Q0 := Lib.hid q0
    clear q0
    cases q1 : clB n x.ca with
    | false =>
      have Q1 := Lib.hid q1
      clear q1
      have HF := Lib.hid (show sgB n x = false by simp [sgB, Q1.out])
      go_enter Try.func29, Try.ntmps29
      go_wp2_with fail
      refine (isTimeS_any x.tm _).mono ?_
      rintro q1 w1 ⟨rfl, hb⟩
      have x0 := kcb hb (b := w.heap.size + 1) (o := 0) (v := .int .i64 x.tm) (by first | assumption | (refine cellUp ?_; assumption) | go_cell)
      have x1 := kcb hb (b := w.heap.size + 1) (o := 1) (v := .int .i64 x.ca) (by first | assumption | (refine cellUp ?_; assumption) | go_cell)
      have x2 := kcb hb (b := w.heap.size + 1) (o := 2) (v := .int .i64 x.cb) (by first | assumption | (refine cellUp ?_; assumption) | go_cell)
      have x3 := kcb hb (b := w.heap.size + 1) (o := 3) (v := .int .i64 x.lo) (by first | assumption | (refine cellUp ?_; assumption) | go_cell)
      have x4 := kcb hb (b := w.heap.size + 1) (o := 4) (v := .int .i64 x.hi) (by first | assumption | (refine cellUp ?_; assumption) | go_cell)
      have n0 := kcb hb (b := w.heap.size) (o := 0) (v := .slice A n c) (by first | assumption | (refine cellUp ?_; assumption) | go_cell)
      have n1 := kcb hb (b := w.heap.size) (o := 1) (v := .slice B m d) (by first | assumption | (refine cellUp ?_; assumption) | go_cell)
      have B1 : Bl w w1 := Below.trans (by go_grown) (hb.mono (by (try simp only [World.size_alloc, World.size_setCell, World.size_drew]); omega))
      have l1 := ltb n1
      have l1_1 := ltb x4
      have zz1 := B1.size
      clear hb
      rw [Q0.out]
      go_wp2_with fail
      refine (isClockS_any A n c B m d x.ca _).mono ?_
      rintro q2 w2 ⟨rfl, hb⟩
      have x0 := kcb hb (b := w.heap.size + 1) (o := 0) (v := .int .i64 x.tm) (by first | assumption | (refine cellUp ?_; assumption) | go_cell)
      have x1 := kcb hb (b := w.heap.size + 1) (o := 1) (v := .int .i64 x.ca) (by first | assumption | (refine cellUp ?_; assumption) | go_cell)
      have x2 := kcb hb (b := w.heap.size + 1) (o := 2) (v := .int .i64 x.cb) (by first | assumption | (refine cellUp ?_; assumption) | go_cell)
      have x3 := kcb hb (b := w.heap.size + 1) (o := 3) (v := .int .i64 x.lo) (by first | assumption | (refine cellUp ?_; assumption) | go_cell)
      have x4 := kcb hb (b := w.heap.size + 1) (o := 4) (v := .int .i64 x.hi) (by first | assumption | (refine cellUp ?_; assumption) | go_cell)
      have n0 := kcb hb (b := w.heap.size) (o := 0) (v := .slice A n c) (by first | assumption | (refine cellUp ?_; assumption) | go_cell)
      have n1 := kcb hb (b := w.heap.size) (o := 1) (v := .slice B m d) (by first | assumption | (refine cellUp ?_; assumption) | go_cell)
      have B2 : Bl w w2 := Below.trans (by go_grown) (hb.mono (by (try simp only [World.size_alloc, World.size_setCell, World.size_drew]); omega))
      have l2 := ltb n1
      have l2_1 := ltb x4
      have zz2 := B2.size
      clear hb
      rw [Q1.out]
      go_wp2_with fail
      go_ret
      exact ⟨ret_bool HF.out.symm, B2⟩
    | true =>
      have Q1 := Lib.hid q1
      clear q1
      cases q2 : clB n x.cb with
      | false =>
        have Q2 := Lib.hid q2
        clear q2
        have HF := Lib.hid (show sgB n x = false by simp [sgB, Q2.out])
        go_enter Try.func29, Try.ntmps29
        go_wp2_with fail
        refine (isTimeS_any x.tm _).mono ?_
        rintro q1 w1 ⟨rfl, hb⟩
        have x0 := kcb hb (b := w.heap.size + 1) (o := 0) (v := .int .i64 x.tm) (by first | assumption | (refine cellUp ?_; assumption) | go_cell)
        have x1 := kcb hb (b := w.heap.size + 1) (o := 1) (v := .int .i64 x.ca) (by first | assumption | (refine cellUp ?_; assumption) | go_cell)
        have x2 := kcb hb (b := w.heap.size + 1) (o := 2) (v := .int .i64 x.cb) (by first | assumption | (refine cellUp ?_; assumption) | go_cell)
        have x3 := kcb hb (b := w.heap.size + 1) (o := 3) (v := .int .i64 x.lo) (by first | assumption | (refine cellUp ?_; assumption) | go_cell)
        have x4 := kcb hb (b := w.heap.size + 1) (o := 4) (v := .int .i64 x.hi) (by first | assumption | (refine cellUp ?_; assumption) | go_cell)
        have n0 := kcb hb (b := w.heap.size) (o := 0) (v := .slice A n c) (by first | assumption | (refine cellUp ?_; assumption) | go_cell)
        have n1 := kcb hb (b := w.heap.size) (o := 1) (v := .slice B m d) (by first | assumption | (refine cellUp ?_; assumption) | go_cell)
        have B1 : Bl w w1 := Below.trans (by go_grown) (hb.mono (by (try simp only [World.size_alloc, World.size_setCell, World.size_drew]); omega))
        have l1 := ltb n1
        have l1_1 := ltb x4
        have zz1 := B1.size
        clear hb
        rw [Q0.out]
        go_wp2_with fail
        refine (isClockS_any A n c B m d x.ca _).mono ?_
        rintro q2 w2 ⟨rfl, hb⟩
        have x0 := kcb hb (b := w.heap.size + 1) (o := 0) (v := .int .i64 x.tm) (by first | assumption | (refine cellUp ?_; assumption) | go_cell)
        have x1 := kcb hb (b := w.heap.size + 1) (o := 1) (v := .int .i64 x.ca) (by first | assumption | (refine cellUp ?_; assumption) | go_cell)
        have x2 := kcb hb (b := w.heap.size + 1) (o := 2) (v := .int .i64 x.cb) (by first | assumption | (refine cellUp ?_; assumption) | go_cell)
        have x3 := kcb hb (b := w.heap.size + 1) (o := 3) (v := .int .i64 x.lo) (by first | assumption | (refine cellUp ?_; assumption) | go_cell)
        have x4 := kcb hb (b := w.heap.size + 1) (o := 4) (v := .int .i64 x.hi) (by first | assumption | (refine cellUp ?_; assumption) | go_cell)
        have n0 := kcb hb (b := w.heap.size) (o := 0) (v := .slice A n c) (by first | assumption | (refine cellUp ?_; assumption) | go_cell)
        have n1 := kcb hb (b := w.heap.size) (o := 1) (v := .slice B m d) (by first | assumption | (refine cellUp ?_; assumption) | go_cell)
        have B2 : Bl w w2 := Below.trans (by go_grown) (hb.mono (by (try simp only [World.size_alloc, World.size_setCell, World.size_drew]); omega))
        have l2 := ltb n1
        have l2_1 := ltb x4
        have zz2 := B2.size
        clear hb
        rw [Q1.out]
        go_wp2_with fail
        refine (isClockS_any A n c B m d x.cb _).mono ?_
        rintro q3 w3 ⟨rfl, hb⟩
        have x0 := kcb hb (b := w.heap.size + 1) (o := 0) (v := .int .i64 x.tm) (by first | assumption | (refine cellUp ?_; assumption) | go_cell)
        have x1 := kcb hb (b := w.heap.size + 1) (o := 1) (v := .int .i64 x.ca) (by first | assumption | (refine cellUp ?_; assumption) | go_cell)
        have x2 := kcb hb (b := w.heap.size + 1) (o := 2) (v := .int .i64 x.cb) (by first | assumption | (refine cellUp ?_; assumption) | go_cell)
        have x3 := kcb hb (b := w.heap.size + 1) (o := 3) (v := .int .i64 x.lo) (by first | assumption | (refine cellUp ?_; assumption) | go_cell)
        have x4 := kcb hb (b := w.heap.size + 1) (o := 4) (v := .int .i64 x.hi) (by first | assumption | (refine cellUp ?_; assumption) | go_cell)
        have n0 := kcb hb (b := w.heap.size) (o := 0) (v := .slice A n c) (by first | assumption | (refine cellUp ?_; assumption) | go_cell)
        have n1 := kcb hb (b := w.heap.size) (o := 1) (v := .slice B m d) (by first | assumption | (refine cellUp ?_; assumption) | go_cell)
        have B3 : Bl w w3 := Below.trans (by go_grown) (hb.mono (by (try simp only [World.size_alloc, World.size_setCell, World.size_drew]); omega))
        have l3 := ltb n1
        have l3_1 := ltb x4
        have zz3 := B3.size
        clear hb
        rw [Q2.out]
        go_wp2_with fail
        go_ret
        exact ⟨ret_bool HF.out.symm, B3⟩
      | true =>
        have Q2 := Lib.hid q2
        clear q2
        by_cases ha : x.ca = x.cb
        · have HF := Lib.hid (show sgB n x = false by simp [sgB, ha])
          have ha' : (x.ca == x.cb) = true := by simp [ha]
          clear ha
          go_enter Try.func29, Try.ntmps29
          go_wp2_with fail
          refine (isTimeS_any x.tm _).mono ?_
          rintro q1 w1 ⟨rfl, hb⟩
          have x0 := kcb hb (b := w.heap.size + 1) (o := 0) (v := .int .i64 x.tm) (by first | assumption | (refine cellUp ?_; assumption) | go_cell)
          have x1 := kcb hb (b := w.heap.size + 1) (o := 1) (v := .int .i64 x.ca) (by first | assumption | (refine cellUp ?_; assumption) | go_cell)
          have x2 := kcb hb (b := w.heap.size + 1) (o := 2) (v := .int .i64 x.cb) (by first | assumption | (refine cellUp ?_; assumption) | go_cell)
          have x3 := kcb hb (b := w.heap.size + 1) (o := 3) (v := .int .i64 x.lo) (by first | assumption | (refine cellUp ?_; assumption) | go_cell)
          have x4 := kcb hb (b := w.heap.size + 1) (o := 4) (v := .int .i64 x.hi) (by first | assumption | (refine cellUp ?_; assumption) | go_cell)
          have n0 := kcb hb (b := w.heap.size) (o := 0) (v := .slice A n c) (by first | assumption | (refine cellUp ?_; assumption) | go_cell)
          have n1 := kcb hb (b := w.heap.size) (o := 1) (v := .slice B m d) (by first | assumption | (refine cellUp ?_; assumption) | go_cell)
          have B1 : Bl w w1 := Below.trans (by go_grown) (hb.mono (by (try simp only [World.size_alloc, World.size_setCell, World.size_drew]); omega))
          have l1 := ltb n1
          have l1_1 := ltb x4
          have zz1 := B1.size
          clear hb
          rw [Q0.out]
          go_wp2_with fail
          refine (isClockS_any A n c B m d x.ca _).mono ?_
          rintro q2 w2 ⟨rfl, hb⟩
          have x0 := kcb hb (b := w.heap.size + 1) (o := 0) (v := .int .i64 x.tm) (by first | assumption | (refine cellUp ?_; assumption) | go_cell)
          have x1 := kcb hb (b := w.heap.size + 1) (o := 1) (v := .int .i64 x.ca) (by first | assumption | (refine cellUp ?_; assumption) | go_cell)
          have x2 := kcb hb (b := w.heap.size + 1) (o := 2) (v := .int .i64 x.cb) (by first | assumption | (refine cellUp ?_; assumption) | go_cell)
          have x3 := kcb hb (b := w.heap.size + 1) (o := 3) (v := .int .i64 x.lo) (by first | assumption | (refine cellUp ?_; assumption) | go_cell)
          have x4 := kcb hb (b := w.heap.size + 1) (o := 4) (v := .int .i64 x.hi) (by first | assumption | (refine cellUp ?_; assumption) | go_cell)
          have n0 := kcb hb (b := w.heap.size) (o := 0) (v := .slice A n c) (by first | assumption | (refine cellUp ?_; assumption) | go_cell)
          have n1 := kcb hb (b := w.heap.size) (o := 1) (v := .slice B m d) (by first | assumption | (refine cellUp ?_; assumption) | go_cell)
          have B2 : Bl w w2 := Below.trans (by go_grown) (hb.mono (by (try simp only [World.size_alloc, World.size_setCell, World.size_drew]); omega))
          have l2 := ltb n1
          have l2_1 := ltb x4
          have zz2 := B2.size
          clear hb
          rw [Q1.out]
          go_wp2_with fail
          refine (isClockS_any A n c B m d x.cb _).mono ?_
          rintro q3 w3 ⟨rfl, hb⟩
          have x0 := kcb hb (b := w.heap.size + 1) (o := 0) (v := .int .i64 x.tm) (by first | assumption | (refine cellUp ?_; assumption) | go_cell)
          have x1 := kcb hb (b := w.heap.size + 1) (o := 1) (v := .int .i64 x.ca) (by first | assumption | (refine cellUp ?_; assumption) | go_cell)
          have x2 := kcb hb (b := w.heap.size + 1) (o := 2) (v := .int .i64 x.cb) (by first | assumption | (refine cellUp ?_; assumption) | go_cell)
          have x3 := kcb hb (b := w.heap.size + 1) (o := 3) (v := .int .i64 x.lo) (by first | assumption | (refine cellUp ?_; assumption) | go_cell)
          have x4 := kcb hb (b := w.heap.size + 1) (o := 4) (v := .int .i64 x.hi) (by first | assumption | (refine cellUp ?_; assumption) | go_cell)
          have n0 := kcb hb (b := w.heap.size) (o := 0) (v := .slice A n c) (by first | assumption | (refine cellUp ?_; assumption) | go_cell)
          have n1 := kcb hb (b := w.heap.size) (o := 1) (v := .slice B m d) (by first | assumption | (refine cellUp ?_; assumption) | go_cell)
          have B3 : Bl w w3 := Below.trans (by go_grown) (hb.mono (by (try simp only [World.size_alloc, World.size_setCell, World.size_drew]); omega))
          have l3 := ltb n1
          have l3_1 := ltb x4
          have zz3 := B3.size
          clear hb
          rw [Q2.out]
          go_wp2_with fail
          go_ret
          exact ⟨ret_bool HF.out.symm, B3⟩
        · have ha' : (x.ca == x.cb) = false := by simp [ha]
          have HV := Lib.hid (show sgB n x = (vS x.lo x.hi && decide (-86400000 ≤ x.lo) && decide (x.hi ≤ 86400000)) by rw [Bool.eq_iff_iff]; simp only [sgB, Q0.out, Q1.out, Q2.out, Bool.true_and, Bool.and_eq_true, decide_eq_true_eq, vS]; constructor <;> intro h <;> omega)
          go_enter Try.func29, Try.ntmps29
          go_wp2_with fail
          refine (isTimeS_any x.tm _).mono ?_
          rintro q1 w1 ⟨rfl, hb⟩
          have x0 := kcb hb (b := w.heap.size + 1) (o := 0) (v := .int .i64 x.tm) (by first | assumption | (refine cellUp ?_; assumption) | go_cell)
          have x1 := kcb hb (b := w.heap.size + 1) (o := 1) (v := .int .i64 x.ca) (by first | assumption | (refine cellUp ?_; assumption) | go_cell)
          have x2 := kcb hb (b := w.heap.size + 1) (o := 2) (v := .int .i64 x.cb) (by first | assumption | (refine cellUp ?_; assumption) | go_cell)
          have x3 := kcb hb (b := w.heap.size + 1) (o := 3) (v := .int .i64 x.lo) (by first | assumption | (refine cellUp ?_; assumption) | go_cell)
          have x4 := kcb hb (b := w.heap.size + 1) (o := 4) (v := .int .i64 x.hi) (by first | assumption | (refine cellUp ?_; assumption) | go_cell)
          have n0 := kcb hb (b := w.heap.size) (o := 0) (v := .slice A n c) (by first | assumption | (refine cellUp ?_; assumption) | go_cell)
          have n1 := kcb hb (b := w.heap.size) (o := 1) (v := .slice B m d) (by first | assumption | (refine cellUp ?_; assumption) | go_cell)
          have B1 : Bl w w1 := Below.trans (by go_grown) (hb.mono (by (try simp only [World.size_alloc, World.size_setCell, World.size_drew]); omega))
          have l1 := ltb n1
          have l1_1 := ltb x4
          have zz1 := B1.size
          clear hb
          rw [Q0.out]
          go_wp2_with fail
          refine (isClockS_any A n c B m d x.ca _).mono ?_
          rintro q2 w2 ⟨rfl, hb⟩
          have x0 := kcb hb (b := w.heap.size + 1) (o := 0) (v := .int .i64 x.tm) (by first | assumption | (refine cellUp ?_; assumption) | go_cell)
          have x1 := kcb hb (b := w.heap.size + 1) (o := 1) (v := .int .i64 x.ca) (by first | assumption | (refine cellUp ?_; assumption) | go_cell)
          have x2 := kcb hb (b := w.heap.size + 1) (o := 2) (v := .int .i64 x.cb) (by first | assumption | (refine cellUp ?_; assumption) | go_cell)
          have x3 := kcb hb (b := w.heap.size + 1) (o := 3) (v := .int .i64 x.lo) (by first | assumption | (refine cellUp ?_; assumption) | go_cell)
          have x4 := kcb hb (b := w.heap.size + 1) (o := 4) (v := .int .i64 x.hi) (by first | assumption | (refine cellUp ?_; assumption) | go_cell)
          have n0 := kcb hb (b := w.heap.size) (o := 0) (v := .slice A n c) (by first | assumption | (refine cellUp ?_; assumption) | go_cell)
          have n1 := kcb hb (b := w.heap.size) (o := 1) (v := .slice B m d) (by first | assumption | (refine cellUp ?_; assumption) | go_cell)
          have B2 : Bl w w2 := Below.trans (by go_grown) (hb.mono (by (try simp only [World.size_alloc, World.size_setCell, World.size_drew]); omega))
          have l2 := ltb n1
          have l2_1 := ltb x4
          have zz2 := B2.size
          clear hb
          rw [Q1.out]
          go_wp2_with fail
          refine (isClockS_any A n c B m d x.cb _).mono ?_
          rintro q3 w3 ⟨rfl, hb⟩
          have x0 := kcb hb (b := w.heap.size + 1) (o := 0) (v := .int .i64 x.tm) (by first | assumption | (refine cellUp ?_; assumption) | go_cell)
          have x1 := kcb hb (b := w.heap.size + 1) (o := 1) (v := .int .i64 x.ca) (by first | assumption | (refine cellUp ?_; assumption) | go_cell)
          have x2 := kcb hb (b := w.heap.size + 1) (o := 2) (v := .int .i64 x.cb) (by first | assumption | (refine cellUp ?_; assumption) | go_cell)
          have x3 := kcb hb (b := w.heap.size + 1) (o := 3) (v := .int .i64 x.lo) (by first | assumption | (refine cellUp ?_; assumption) | go_cell)
          have x4 := kcb hb (b := w.heap.size + 1) (o := 4) (v := .int .i64 x.hi) (by first | assumption | (refine cellUp ?_; assumption) | go_cell)
          have n0 := kcb hb (b := w.heap.size) (o := 0) (v := .slice A n c) (by first | assumption | (refine cellUp ?_; assumption) | go_cell)
          have n1 := kcb hb (b := w.heap.size) (o := 1) (v := .slice B m d) (by first | assumption | (refine cellUp ?_; assumption) | go_cell)
          have B3 : Bl w w3 := Below.trans (by go_grown) (hb.mono (by (try simp only [World.size_alloc, World.size_setCell, World.size_drew]); omega))
          have l3 := ltb n1
          have l3_1 := ltb x4
          have zz3 := B3.size
          clear hb
          rw [Q2.out]
          go_wp2_with fail
          refine (validSpan_any x.lo x.hi _).mono ?_
          rintro q4 w4 ⟨rfl, hb⟩
          have x0 := kcb hb (b := w.heap.size + 1) (o := 0) (v := .int .i64 x.tm) (by first | assumption | (refine cellUp ?_; assumption) | go_cell)
          have x1 := kcb hb (b := w.heap.size + 1) (o := 1) (v := .int .i64 x.ca) (by first | assumption | (refine cellUp ?_; assumption) | go_cell)
          have x2 := kcb hb (b := w.heap.size + 1) (o := 2) (v := .int .i64 x.cb) (by first | assumption | (refine cellUp ?_; assumption) | go_cell)
          have x3 := kcb hb (b := w.heap.size + 1) (o := 3) (v := .int .i64 x.lo) (by first | assumption | (refine cellUp ?_; assumption) | go_cell)
          have x4 := kcb hb (b := w.heap.size + 1) (o := 4) (v := .int .i64 x.hi) (by first | assumption | (refine cellUp ?_; assumption) | go_cell)
          have n0 := kcb hb (b := w.heap.size) (o := 0) (v := .slice A n c) (by first | assumption | (refine cellUp ?_; assumption) | go_cell)
          have n1 := kcb hb (b := w.heap.size) (o := 1) (v := .slice B m d) (by first | assumption | (refine cellUp ?_; assumption) | go_cell)
          have B4 : Bl w w4 := Below.trans (by go_grown) (hb.mono (by (try simp only [World.size_alloc, World.size_setCell, World.size_drew]); omega))
          have l4 := ltb n1
          have l4_1 := ltb x4
          have zz4 := B4.size
          clear hb
          obtain ⟨g, hg⟩ : ∃ g, vS x.lo x.hi = g := ⟨_, rfl⟩
          rw [hg] at HV ⊢
          cases g <;> go_wp2_with fail
          all_goals (go_ret; exact ⟨ret_bool (by rw [HV.out]; simp; try omega), B4⟩)
end Go.Proofs.Ytchikfegpoonjaa
