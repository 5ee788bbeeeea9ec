/-
  Boxes: validity, count, nearest and farthest places; what a box bounds.
-/
import Derived.Test.YthemoomfbbccjaaGK
namespace Go.Proofs.Ythemoomfbbccjaa
open Go.RowKit
set_option linter.unusedSimpArgs false
set_option linter.unusedVariables false

def boxOk (lo hi : Pt) : Prop := isP lo ∧ isP hi ∧ lo.x ≤ hi.x ∧ lo.y ≤ hi.y
instance (lo hi : Pt) : Decidable (boxOk lo hi) := by unfold boxOk; infer_instance
def inBox (lo hi p : Pt) : Prop := (lo.x ≤ p.x ∧ p.x ≤ hi.x) ∧ lo.y ≤ p.y ∧ p.y ≤ hi.y
theorem inBox_isP {lo hi p : Pt} (h : boxOk lo hi) (hp : inBox lo hi p) : isP p := by
  obtain ⟨⟨⟨a1, a2⟩, a3, a4⟩, ⟨⟨b1, b2⟩, b3, b4⟩, _, _⟩ := h
  obtain ⟨⟨c1, c2⟩, c3, c4⟩ := hp
  exact ⟨⟨by omega, by omega⟩, by omega, by omega⟩
def clampF (n lo hi : Int) : Int := min (max n lo) hi
def farF (n lo hi : Int) : Int := if n - lo > hi - n then lo else hi
def nearP (g lo hi : Pt) : Pt := ⟨clampF g.x lo.x hi.x, clampF g.y lo.y hi.y⟩
def farP (g lo hi : Pt) : Pt := ⟨farF g.x lo.x hi.x, farF g.y lo.y hi.y⟩
theorem sq_far {a b : Int} (h : (-b ≤ a ∧ a ≤ b) ∨ (b ≤ a ∧ a ≤ -b)) : a * a ≤ b * b := by
  rcases h with ⟨h1, h2⟩ | ⟨h1, h2⟩
  · exact sq_abs h1 h2
  · have e : b * b = (-b) * (-b) := by grind
    rw [e]; exact sq_abs (by omega) h2
theorem clamp_sq {n lo hi p : Int} (h : lo ≤ hi) (h1 : lo ≤ p) (h2 : p ≤ hi) : (n - clampF n lo hi) * (n - clampF n lo hi) ≤ (n - p) * (n - p) ∧ lo ≤ clampF n lo hi ∧ clampF n lo hi ≤ hi := by
  unfold clampF
  refine ⟨sq_far ?_, by omega, by omega⟩
  omega
theorem far_sq {n lo hi p : Int} (h1 : lo ≤ p) (h2 : p ≤ hi) : (n - p) * (n - p) ≤ (n - farF n lo hi) * (n - farF n lo hi) ∧ (farF n lo hi = lo ∨ farF n lo hi = hi) := by
  unfold farF
  split
  · exact ⟨sq_far (by omega), .inl rfl⟩
  · exact ⟨sq_far (by omega), .inr rfl⟩
theorem near_box {g lo hi : Pt} (h : boxOk lo hi) : inBox lo hi (nearP g lo hi) := by
  have a := (clamp_sq (n := g.x) (p := lo.x) h.2.2.1 (Int.le_refl _) h.2.2.1).2
  have b := (clamp_sq (n := g.y) (p := lo.y) h.2.2.2 (Int.le_refl _) h.2.2.2).2
  exact ⟨a, b⟩
theorem far_box {g lo hi : Pt} (h : boxOk lo hi) : inBox lo hi (farP g lo hi) := by
  have a := (far_sq (n := g.x) (p := lo.x) (Int.le_refl _) h.2.2.1).2
  have b := (far_sq (n := g.y) (p := lo.y) (Int.le_refl _) h.2.2.2).2
  have h3 := h.2.2.1
  have h4 := h.2.2.2
  unfold inBox farP
  dsimp only
  omega
theorem near_sqd {g lo hi p : Pt} (h : boxOk lo hi) (hp : inBox lo hi p) : sqd g (nearP g lo hi) ≤ sqd g p := by
  have a := (clamp_sq (n := g.x) h.2.2.1 hp.1.1 hp.1.2).1
  have b := (clamp_sq (n := g.y) h.2.2.2 hp.2.1 hp.2.2).1
  unfold sqd nearP
  dsimp only
  omega
theorem far_sqd {g lo hi p : Pt} (h : boxOk lo hi) (hp : inBox lo hi p) : sqd g p ≤ sqd g (farP g lo hi) := by
  have a := (far_sq (n := g.x) hp.1.1 hp.1.2).1
  have b := (far_sq (n := g.y) hp.2.1 hp.2.2).1
  unfold sqd farP
  dsimp only
  omega
/-- The span of the lags of a box. -/
def boxL (a : Air) (g lo hi : Pt) : Int × Int := ((lagP a g (nearP g lo hi)).1, (lagP a g (farP g lo hi)).2)
theorem boxL_bounds {a : Air} (ha : VA a) {g lo hi p : Pt} (hg : isP g) (h : boxOk lo hi) (hp : inBox lo hi p) : (boxL a g lo hi).1 ≤ (lagP a g p).1 ∧ (lagP a g p).2 ≤ (boxL a g lo hi).2 := by
  have a1 := (lagP_mono ha hg (inBox_isP h (near_box h)) (near_sqd (g := g) h hp)).1
  have a2 := (lagP_mono ha hg (inBox_isP h hp) (far_sqd (g := g) h hp)).2
  exact ⟨a1, a2⟩
theorem boxL_ok {a : Air} (ha : VA a) {g lo hi : Pt} (hg : isP g) (h : boxOk lo hi) : 0 ≤ (boxL a g lo hi).1 ∧ (boxL a g lo hi).1 ≤ (boxL a g lo hi).2 ∧ (boxL a g lo hi).2 ≤ 600000 := by
  have b1 := boxL_bounds ha hg h (near_box (g := g) h)
  have b2 := lagP_bd ha hg (inBox_isP h (near_box (g := g) h))
  have b3 := lagP_bd ha hg (inBox_isP h (far_box (g := g) h))
  refine ⟨b2.1, by omega, b3.2.2⟩
/-- A box that is excluded for a shot has no place that suits it. -/
theorem excl_no {a : Air} (ha : VA a) {s : Sho} {lo hi p : Pt} (hs : isP s.p) (h : boxOk lo hi) (hp : inBox lo hi p) (hx : ¬ mt (boxL a s.p lo hi).1 (boxL a s.p lo hi).2 s.lo s.hi) : ¬ suit1 a s p := fun g => by
  obtain ⟨b1, b2⟩ := boxL_bounds ha hs h hp
  exact hx ⟨by have := g.1; omega, by have := g.2; omega⟩
/-- The corner that a list of four finds has the same distance. -/
def far4 (g lo hi : Pt) : Pt :=
  let f1 := if sqd g hi > sqd g lo then hi else lo
  let f2 := if sqd g ⟨lo.x, hi.y⟩ > sqd g f1 then ⟨lo.x, hi.y⟩ else f1
  if sqd g ⟨hi.x, lo.y⟩ > sqd g f2 then ⟨hi.x, lo.y⟩ else f2
theorem far4_sqd {g lo hi : Pt} (h : boxOk lo hi) : sqd g (far4 g lo hi) = sqd g (farP g lo hi) ∧ inBox lo hi (far4 g lo hi) := by
  have c1 : inBox lo hi lo := ⟨⟨Int.le_refl _, h.2.2.1⟩, Int.le_refl _, h.2.2.2⟩
  have c2 : inBox lo hi hi := ⟨⟨h.2.2.1, Int.le_refl _⟩, h.2.2.2, Int.le_refl _⟩
  have c3 : inBox lo hi ⟨lo.x, hi.y⟩ := ⟨⟨Int.le_refl _, h.2.2.1⟩, h.2.2.2, Int.le_refl _⟩
  have c4 : inBox lo hi ⟨hi.x, lo.y⟩ := ⟨⟨h.2.2.1, Int.le_refl _⟩, Int.le_refl _, h.2.2.2⟩
  have f1 := far_sqd (g := g) h c1
  have f2 := far_sqd (g := g) h c2
  have f3 := far_sqd (g := g) h c3
  have f4 := far_sqd (g := g) h c4
  have hf : farP g lo hi = lo ∨ farP g lo hi = hi ∨ farP g lo hi = ⟨lo.x, hi.y⟩ ∨ farP g lo hi = ⟨hi.x, lo.y⟩ := by
    unfold farP
    have a := (far_sq (n := g.x) (p := lo.x) (Int.le_refl _) h.2.2.1).2
    have b := (far_sq (n := g.y) (p := lo.y) (Int.le_refl _) h.2.2.2).2
    rcases a with a | a <;> rcases b with b | b <;> rw [a, b]
    · exact .inl rfl
    · exact .inr (.inr (.inl rfl))
    · exact .inr (.inr (.inr rfl))
    · exact .inr (.inl rfl)
  unfold far4
  dsimp only
  constructor
  · rcases hf with e | e | e | e <;> rw [e] at f1 f2 f3 f4 ⊢ <;> (repeat' split) <;> omega
  · (repeat' split) <;> assumption

set_option maxHeartbeats 400000 in
theorem farther_any (n lo hi : Int) (w : World) (h1 : -50000 ≤ n) (h2 : n ≤ 50000) (h3 : -50000 ≤ lo) (h4 : lo ≤ 50000) (h5 : -50000 ≤ hi) (h6 : hi ≤ 50000) :
    Calls Try.prog 56 #[.int .i64 n, .int .i64 lo, .int .i64 hi] w fun e w' => e = .returned (.int .i64 (farF n lo hi)) ∧ w = w' := by
  by_cases q : hi - n < n - lo
  · have HI := Lib.hid (show farF n lo hi = lo from if_pos q)
    go_enter Try.func56, Try.ntmps56
    go_wp2_with fail
    go_ret
    exact ⟨ret_int HI.out.symm, rfl⟩
  · have HI := Lib.hid (show farF n lo hi = hi from if_neg q)
    go_enter Try.func56, Try.ntmps56
    go_wp2_with fail
    go_ret
    exact ⟨ret_int HI.out.symm, rfl⟩

set_option maxRecDepth 100000 in
set_option maxHeartbeats 3200000 in
theorem boxValid_any (lo hi : Pt) (w : World) :
    Calls Try.prog 19 #[.agg #[.int .i64 lo.x, .int .i64 lo.y, .int .i64 hi.x, .int .i64 hi.y]] w fun e w' => e = .returned (.bool (decide (boxOk lo hi))) ∧ Bl w w' := by
  by_cases h0 : isP lo ∧ isP hi
  · have Q := Lib.hid (show decide (allP (two lo hi) 2) = true from decide_eq_true (allP_two.2 h0))
    have H0 := Lib.hid h0
    clear h0
    go_enter Try.func19, Try.ntmps19
    go_wp2_with fail
    refine (arePl_any _ 2 2 (two lo hi) _ (pl_two (by go_cell) (by go_cell) (by go_cell) (by go_cell)) (by unfold maxLen; omega)).mono ?_
    rintro q1 w1 ⟨rfl, hb⟩
    have x0 := kcb hb (b := w.heap.size) (o := 0) (v := .int .i64 lo.x) (by first | assumption | (refine cellUp ?_; assumption) | go_cell)
    have x1 := kcb hb (b := w.heap.size) (o := 1) (v := .int .i64 lo.y) (by first | assumption | (refine cellUp ?_; assumption) | go_cell)
    have x2 := kcb hb (b := w.heap.size) (o := 2) (v := .int .i64 hi.x) (by first | assumption | (refine cellUp ?_; assumption) | go_cell)
    have x3 := kcb hb (b := w.heap.size) (o := 3) (v := .int .i64 hi.y) (by first | assumption | (refine cellUp ?_; assumption) | go_cell)
    have B1 : Bl w w1 := Below.trans (by go_grown) (hb.mono (by (try simp only [World.size_alloc, World.size_setCell]); omega))
    have l1 := ltb x3
    have zz1 := B1.size
    clear hb
    rw [Q.out]
    go_wp2
    all_goals (go_ret; exact ⟨ret_bool (by rw [Bool.eq_iff_iff, decide_eq_true_eq (p := boxOk lo hi)]; have h0 := H0.out; first | (simp [boxOk, h0] at *; done) | (simp [boxOk, h0] at *; omega)), by go_grown⟩)
  · have Q := Lib.hid (show decide (allP (two lo hi) 2) = false from decide_eq_false (fun h => h0 (allP_two.1 h)))
    have HI := Lib.hid (show decide (boxOk lo hi) = false from decide_eq_false (fun h => h0 ⟨h.1, h.2.1⟩))
    clear h0
    go_enter Try.func19, Try.ntmps19
    go_wp2_with fail
    refine (arePl_any _ 2 2 (two lo hi) _ (pl_two (by go_cell) (by go_cell) (by go_cell) (by go_cell)) (by unfold maxLen; omega)).mono ?_
    rintro q1 w1 ⟨rfl, hb⟩
    have x0 := kcb hb (b := w.heap.size) (o := 0) (v := .int .i64 lo.x) (by first | assumption | (refine cellUp ?_; assumption) | go_cell)
    have x1 := kcb hb (b := w.heap.size) (o := 1) (v := .int .i64 lo.y) (by first | assumption | (refine cellUp ?_; assumption) | go_cell)
    have x2 := kcb hb (b := w.heap.size) (o := 2) (v := .int .i64 hi.x) (by first | assumption | (refine cellUp ?_; assumption) | go_cell)
    have x3 := kcb hb (b := w.heap.size) (o := 3) (v := .int .i64 hi.y) (by first | assumption | (refine cellUp ?_; assumption) | go_cell)
    have B1 : Bl w w1 := Below.trans (by go_grown) (hb.mono (by (try simp only [World.size_alloc, World.size_setCell]); omega))
    have l1 := ltb x3
    have zz1 := B1.size
    clear hb
    rw [Q.out]
    go_wp2
    go_ret
    exact ⟨ret_bool (by rw [HI.out]), by go_grown⟩

set_option maxRecDepth 100000 in
set_option maxHeartbeats 3200000 in
theorem box5_any (lo hi : Pt) (w : World) :
    Calls Try.prog 24 #[encP lo, encP hi] w fun e w' => e = .returned (.bool (decide (boxOk lo hi))) ∧ Bl w w' := by
  by_cases h0 : isP lo
  · have Q0 := Lib.hid (show decide (isP lo) = true from decide_eq_true h0)
    by_cases h1 : isP hi
    · have Q1 := Lib.hid (show decide (isP hi) = true from decide_eq_true h1)
      have H0 := Lib.hid h0
      have H1 := Lib.hid h1
      clear h0 h1
      go_enter Try.func24, Try.ntmps24
      go_wp2_with fail
      refine (place5_any lo _).mono ?_
      rintro q1 w1 ⟨rfl, hb⟩
      have xlo0 := kcb hb (b := w.heap.size) (o := 0) (v := .int .i64 lo.x) (by first | assumption | (refine cellUp ?_; assumption) | go_cell)
      have xlo1 := kcb hb (b := w.heap.size) (o := 1) (v := .int .i64 lo.y) (by first | assumption | (refine cellUp ?_; assumption) | go_cell)
      have xhi0 := kcb hb (b := w.heap.size + 1) (o := 0) (v := .int .i64 hi.x) (by first | assumption | (refine cellUp ?_; assumption) | go_cell)
      have xhi1 := kcb hb (b := w.heap.size + 1) (o := 1) (v := .int .i64 hi.y) (by first | assumption | (refine cellUp ?_; assumption) | go_cell)
      have B1 : Bl w w1 := Below.trans (by go_grown) (hb.mono (by (try simp only [World.size_alloc, World.size_setCell]); omega))
      have l1 := ltb xhi1
      have l1_1 := ltb xlo1
      have zz1 := B1.size
      clear hb
      rw [Q0.out]
      go_wp2_with fail
      refine (place5_any hi _).mono ?_
      rintro q2 w2 ⟨rfl, hb⟩
      have xlo0 := kcb hb (b := w.heap.size) (o := 0) (v := .int .i64 lo.x) (by first | assumption | (refine cellUp ?_; assumption) | go_cell)
      have xlo1 := kcb hb (b := w.heap.size) (o := 1) (v := .int .i64 lo.y) (by first | assumption | (refine cellUp ?_; assumption) | go_cell)
      have xhi0 := kcb hb (b := w.heap.size + 1) (o := 0) (v := .int .i64 hi.x) (by first | assumption | (refine cellUp ?_; assumption) | go_cell)
      have xhi1 := kcb hb (b := w.heap.size + 1) (o := 1) (v := .int .i64 hi.y) (by first | assumption | (refine cellUp ?_; assumption) | go_cell)
      have B2 : Bl w w2 := Below.trans (by go_grown) (hb.mono (by (try simp only [World.size_alloc, World.size_setCell]); omega))
      have l2 := ltb xhi1
      have l2_1 := ltb xlo1
      have zz2 := B2.size
      clear hb
      rw [Q1.out]
      go_wp2
      all_goals (go_ret; exact ⟨ret_bool (by rw [Bool.eq_iff_iff, decide_eq_true_eq (p := boxOk lo hi)]; have h0 := H0.out; have h1 := H1.out; first | (simp [boxOk, h0, h1] at *; done) | (simp [boxOk, h0, h1] at *; omega)), by go_grown⟩)
    · have Q1 := Lib.hid (show decide (isP hi) = false from decide_eq_false h1)
      have HI := Lib.hid (show decide (boxOk lo hi) = false from decide_eq_false (fun h => h1 h.2.1))
      clear h0 h1
      go_enter Try.func24, Try.ntmps24
      go_wp2_with fail
      refine (place5_any lo _).mono ?_
      rintro q1 w1 ⟨rfl, hb⟩
      have xlo0 := kcb hb (b := w.heap.size) (o := 0) (v := .int .i64 lo.x) (by first | assumption | (refine cellUp ?_; assumption) | go_cell)
      have xlo1 := kcb hb (b := w.heap.size) (o := 1) (v := .int .i64 lo.y) (by first | assumption | (refine cellUp ?_; assumption) | go_cell)
      have xhi0 := kcb hb (b := w.heap.size + 1) (o := 0) (v := .int .i64 hi.x) (by first | assumption | (refine cellUp ?_; assumption) | go_cell)
      have xhi1 := kcb hb (b := w.heap.size + 1) (o := 1) (v := .int .i64 hi.y) (by first | assumption | (refine cellUp ?_; assumption) | go_cell)
      have B1 : Bl w w1 := Below.trans (by go_grown) (hb.mono (by (try simp only [World.size_alloc, World.size_setCell]); omega))
      have l1 := ltb xhi1
      have l1_1 := ltb xlo1
      have zz1 := B1.size
      clear hb
      rw [Q0.out]
      go_wp2_with fail
      refine (place5_any hi _).mono ?_
      rintro q2 w2 ⟨rfl, hb⟩
      have xlo0 := kcb hb (b := w.heap.size) (o := 0) (v := .int .i64 lo.x) (by first | assumption | (refine cellUp ?_; assumption) | go_cell)
      have xlo1 := kcb hb (b := w.heap.size) (o := 1) (v := .int .i64 lo.y) (by first | assumption | (refine cellUp ?_; assumption) | go_cell)
      have xhi0 := kcb hb (b := w.heap.size + 1) (o := 0) (v := .int .i64 hi.x) (by first | assumption | (refine cellUp ?_; assumption) | go_cell)
      have xhi1 := kcb hb (b := w.heap.size + 1) (o := 1) (v := .int .i64 hi.y) (by first | assumption | (refine cellUp ?_; assumption) | go_cell)
      have B2 : Bl w w2 := Below.trans (by go_grown) (hb.mono (by (try simp only [World.size_alloc, World.size_setCell]); omega))
      have l2 := ltb xhi1
      have l2_1 := ltb xlo1
      have zz2 := B2.size
      clear hb
      rw [Q1.out]
      go_wp2
      go_ret
      exact ⟨ret_bool (by rw [HI.out]), by go_grown⟩
  · have Q0 := Lib.hid (show decide (isP lo) = false from decide_eq_false h0)
    have HI := Lib.hid (show decide (boxOk lo hi) = false from decide_eq_false (fun h => h0 h.1))
    clear h0
    go_enter Try.func24, Try.ntmps24
    go_wp2_with fail
    refine (place5_any lo _).mono ?_
    rintro q1 w1 ⟨rfl, hb⟩
    have xlo0 := kcb hb (b := w.heap.size) (o := 0) (v := .int .i64 lo.x) (by first | assumption | (refine cellUp ?_; assumption) | go_cell)
    have xlo1 := kcb hb (b := w.heap.size) (o := 1) (v := .int .i64 lo.y) (by first | assumption | (refine cellUp ?_; assumption) | go_cell)
    have xhi0 := kcb hb (b := w.heap.size + 1) (o := 0) (v := .int .i64 hi.x) (by first | assumption | (refine cellUp ?_; assumption) | go_cell)
    have xhi1 := kcb hb (b := w.heap.size + 1) (o := 1) (v := .int .i64 hi.y) (by first | assumption | (refine cellUp ?_; assumption) | go_cell)
    have B1 : Bl w w1 := Below.trans (by go_grown) (hb.mono (by (try simp only [World.size_alloc, World.size_setCell]); omega))
    have l1 := ltb xhi1
    have l1_1 := ltb xlo1
    have zz1 := B1.size
    clear hb
    rw [Q0.out]
    go_wp2
    go_ret
    exact ⟨ret_bool (by rw [HI.out]), by go_grown⟩
end Go.Proofs.Ythemoomfbbccjaa
