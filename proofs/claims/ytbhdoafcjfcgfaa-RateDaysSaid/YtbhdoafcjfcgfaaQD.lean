/-
  The walk of RateDays.
-/
import Derived.Test.YtbhdoafcjfcgfaaQE
import Derived.Test.YtbhdoafcjfcgfaaRR
import Derived.Test.YtbhdoafcjfcgfaaRJ
import Derived.StillTailTactics
namespace Go.Proofs.Ytbhdoafcjfcgfaa
open Go.RowKit
set_option linter.unusedSimpArgs false
set_option linter.unusedVariables false

def wkE (m : Nat) : Int := if m = 0 then 8 else 0
theorem wk_use {s : ByteArray} {n N1 m : Nat} {E : Nat → Int} {w : World} {e : Ending} {w' : World} (hv : vbB s n E = true) (h1 : N1 = n - 1) (h2 : m = N1 / 7) (h : WeekPost s n E w e w') :
    Bl w w' ∧ ∃ A c, e = .returned (.tuple #[.slice A m c, .int .i64 (wkE m)]) ∧ m ≤ c ∧ c ≤ maxLen ∧ Sl w' A m (rtF E 7) := by
  subst h1 h2
  obtain ⟨hb, ⟨h1, _⟩ | ⟨_, hm, he⟩ | ⟨_, hm, A, c, he, k1, k2, h3⟩⟩ := h
  · rw [hv] at h1; cases h1
  · exact ⟨hb, none, 0, by rw [hm, wkE, if_pos rfl]; exact he, by omega, by decide, fun hn => absurd hn (by omega)⟩
  · exact ⟨hb, A, c, by rw [wkE, if_neg (by omega)]; exact he, k1, k2, h3⟩
theorem dy_use {s : ByteArray} {n N1 m : Nat} {E : Nat → Int} {w : World} {e : Ending} {w' : World} (hv : vbB s n E = true) (h1 : N1 = n - 1) (h2 : m = N1 / 7) (h : DayPost s n E w e w') :
    Bl w w' ∧ ∃ A c, e = .returned (.tuple #[.slice A N1 c, .int .i64 0]) ∧ N1 ≤ c ∧ c ≤ maxLen ∧ Sl w' A N1 (rtF E 1) := by
  subst h1
  obtain ⟨hb, ⟨h1, _⟩ | ⟨_, A, c, he, k1, k2, h3⟩⟩ := h
  · rw [hv] at h1; cases h1
  · rw [Nat.div_one] at he k1 h3
    exact ⟨hb, A, c, he, k1, k2, h3⟩
theorem dy_no {s : ByteArray} {n : Nat} {E : Nat → Int} {w : World} {e : Ending} {w' : World} (hv : vbB s n E = false) (h : DayPost s n E w e w') : Bl w w' ∧ e = .returned (.tuple #[.slice none 0 0, .int .i64 1]) := by
  obtain ⟨hb, ⟨_, he⟩ | ⟨h1, _⟩⟩ := h
  · exact ⟨hb, he⟩
  · rw [hv] at h1; cases h1
theorem wk_no {s : ByteArray} {n : Nat} {E : Nat → Int} {w : World} {e : Ending} {w' : World} (hv : vbB s n E = false) (h : WeekPost s n E w e w') : Bl w w' ∧ e = .returned (.tuple #[.slice none 0 0, .int .i64 1]) := by
  obtain ⟨hb, ⟨_, he⟩ | ⟨h1, _⟩ | ⟨h1, _⟩⟩ := h
  · exact ⟨hb, he⟩
  · rw [hv] at h1; cases h1
  · rw [hv] at h1; cases h1
theorem low_small {N D : Int} (hD : 1 ≤ D ∧ D ≤ 1000000) (hN : -1000000000 ≤ N ∧ N ≤ 1000000000) : ∃ a b : Int, lowF N D = (a, b, 0) ∧ a * D = N * b ∧ (1 ≤ b ∧ b ≤ 1000000) ∧ -1000000000 ≤ a ∧ a ≤ 1000000000 := by
  have hg := gcd_pos' (n := N) (show D ≠ 0 by omega)
  obtain ⟨x, hx⟩ := Int.gcd_dvd_left N D
  obtain ⟨y, hy⟩ := Int.gcd_dvd_right N D
  obtain ⟨g, hgg⟩ : ∃ g, g = (Int.gcd N D : Int) := ⟨_, rfl⟩
  rw [← hgg] at hg hx hy
  have e1 : lowN N D = x := by rw [lowN, if_neg (by omega), ← hgg, hx]; exact Int.mul_ediv_cancel_left _ (by omega)
  have e2 : lowD N D = y := by rw [lowD, if_neg (by omega), ← hgg, hy]; exact Int.mul_ediv_cancel_left _ (by omega)
  have y1 : 1 ≤ y := by
    refine Int.not_lt.1 fun h => ?_
    have := Int.mul_nonpos_of_nonneg_of_nonpos (show 0 ≤ g by omega) (show y ≤ 0 by omega)
    omega
  have y2 : y ≤ D := by
    have := Int.mul_le_mul_of_nonneg_right (show 1 ≤ g by omega) (show 0 ≤ y by omega)
    omega
  have x1 : x.natAbs ≤ N.natAbs := by rw [hx, Int.natAbs_mul]; exact Nat.le_mul_of_pos_left _ (by omega)
  refine ⟨x, y, ?_, ?_, ⟨y1, by omega⟩, by omega, by omega⟩
  · rw [lowF, e1, e2, if_neg (by omega)]
  · rw [hx, hy]; grind

/-- Two slices with the same numbers. -/
def SE (A : Option Addr) (n c : Nat) (f : Nat → Int) (B : Option Addr) (d : Nat) (W : World) : Prop := n ≤ maxLen ∧ Sl W A n f ∧ Sl W B n f
theorem SE.below {A : Option Addr} {n c : Nat} {f : Nat → Int} {B : Option Addr} {d : Nat} {W W' : World} (h : SE A n c f B d W) (hb : Bl W W') : SE A n c f B d W' := ⟨h.1, h.2.1.below hb, h.2.2.below hb⟩
theorem SE.nil (W : World) : SE none 0 0 (fun _ => 0) none 0 W := ⟨by decide, fun h => absurd h (by omega), fun h => absurd h (by omega)⟩
theorem same_SE {A : Option Addr} {n c : Nat} {f : Nat → Int} {B : Option Addr} {d : Nat} {W : World} (h : SE A n c f B d W) : Calls Try.prog 17 #[.slice A n c, .slice B n d] W fun e w' => e = .returned (.bool true) ∧ Bl W w' := by
  obtain ⟨hn, h1, h2⟩ := h
  refine (sameInts_any A n c f B n d f W hn hn h1 h2).mono ?_
  rintro e w' ⟨rfl, N, rfl⟩
  refine ⟨?_, ⟨rfl, rfl, rfl, Nat.le_refl _, fun _ _ => rfl⟩⟩
  have : eqTo f f n = true := by
    clear hn h1 h2
    induction n with
    | zero => rfl
    | succ n ih => simp [eqTo, ih]
  rw [sIB, this]; simp
/-- What the test's region holds: the box, the two means, and that the lists are the same. -/
abbrev Sd (w : World) (P M N : Nat) (x0 x1 a b : Value) (A1 : Option Addr) (n1 c1 : Nat) (f1 : Nat → Int) (B1 : Option Addr) (d1 : Nat) (A2 : Option Addr) (n2 c2 : Nat) (f2 : Nat → Int) (B2 : Option Addr) (d2 : Nat) (W : World) : Prop := Bl w W ∧ W.cell? ⟨P, 0, none⟩ = some x0 ∧ W.cell? ⟨P, 1, none⟩ = some x1 ∧ W.cell? ⟨M, 0, none⟩ = some a ∧ W.cell? ⟨M, 1, none⟩ = some b ∧ W.cell? ⟨N, 0, none⟩ = some a ∧ W.cell? ⟨N, 1, none⟩ = some b ∧ P < W.heap.size ∧ M < W.heap.size ∧ N < W.heap.size ∧ SE A1 n1 c1 f1 B1 d1 W ∧ SE A2 n2 c2 f2 B2 d2 W
section
variable {w : World} {P M N : Nat} {x0 x1 a b : Value} {A1 : Option Addr} {n1 c1 : Nat} {f1 : Nat → Int} {B1 : Option Addr} {d1 : Nat} {A2 : Option Addr} {n2 c2 : Nat} {f2 : Nat → Int} {B2 : Option Addr} {d2 : Nat}
theorem Sd.t {W W' : World} (h : Sd w P M N x0 x1 a b A1 n1 c1 f1 B1 d1 A2 n2 c2 f2 B2 d2 W) (hb : Bl W W') : Sd w P M N x0 x1 a b A1 n1 c1 f1 B1 d1 A2 n2 c2 f2 B2 d2 W' := by
  obtain ⟨h0, e0, e1, e2, e3, e4, e5, l0, l1, l2, s1, s2⟩ := h
  exact ⟨Bl.tr h0 hb, (hb.cell (p := ⟨P, 0, none⟩) l0).trans e0, (hb.cell (p := ⟨P, 1, none⟩) l0).trans e1, (hb.cell (p := ⟨M, 0, none⟩) l1).trans e2, (hb.cell (p := ⟨M, 1, none⟩) l1).trans e3, (hb.cell (p := ⟨N, 0, none⟩) l2).trans e4, (hb.cell (p := ⟨N, 1, none⟩) l2).trans e5, Nat.lt_of_lt_of_le l0 hb.size, Nat.lt_of_lt_of_le l1 hb.size, Nat.lt_of_lt_of_le l2 hb.size, s1.below hb, s2.below hb⟩
theorem Sd.bl {W : World} (h : Sd w P M N x0 x1 a b A1 n1 c1 f1 B1 d1 A2 n2 c2 f2 B2 d2 W) : Bl w W := h.1
theorem Sd.same {v v' : Value} {W : World} (h : Sd w P M N x0 x1 a b A1 n1 c1 f1 B1 d1 A2 n2 c2 f2 B2 d2 W) (e : (v = .slice A1 n1 c1 ∧ v' = .slice B1 n1 d1) ∨ (v = .slice A2 n2 c2 ∧ v' = .slice B2 n2 d2)) : Calls Try.prog 17 #[v, v'] W fun e w' => e = .returned (.bool true) ∧ Bl W w' := by
  obtain ⟨_, _, _, _, _, _, _, _, _, _, s1, s2⟩ := h
  rcases e with ⟨rfl, rfl⟩ | ⟨rfl, rfl⟩
  · exact same_SE s1
  · exact same_SE s2
end
/-- What the last region holds: the box's slice, the last and the first error, the mean. -/
abbrev Se (w : World) (P b o1 o2 M : Nat) (sl u v x y : Value) (W : World) : Prop := Bl w W ∧ W.cell? ⟨P, 1, none⟩ = some sl ∧ W.cell? ⟨b, o1, none⟩ = some u ∧ W.cell? ⟨b, o2, none⟩ = some v ∧ W.cell? ⟨M, 0, none⟩ = some x ∧ W.cell? ⟨M, 1, none⟩ = some y ∧ P < W.heap.size ∧ b < W.heap.size ∧ M < W.heap.size
theorem Se.t {w : World} {P b o1 o2 M : Nat} {sl u v x y : Value} {W W' : World} (h : Se w P b o1 o2 M sl u v x y W) (hb : Bl W W') : Se w P b o1 o2 M sl u v x y W' := by
  obtain ⟨h0, e0, e1, e2, e3, e4, l0, l1, l2⟩ := h
  exact ⟨Bl.tr h0 hb, (hb.cell (p := ⟨P, 1, none⟩) l0).trans e0, (hb.cell (p := ⟨b, o1, none⟩) l1).trans e1, (hb.cell (p := ⟨b, o2, none⟩) l1).trans e2, (hb.cell (p := ⟨M, 0, none⟩) l2).trans e3, (hb.cell (p := ⟨M, 1, none⟩) l2).trans e4, Nat.lt_of_lt_of_le l0 hb.size, Nat.lt_of_lt_of_le l1 hb.size, Nat.lt_of_lt_of_le l2 hb.size⟩
set_option maxRecDepth 100000 in
set_option maxHeartbeats 16000000 in
theorem rdays_walk (X : Bx) (w : World) (hX : BxOk w X) :
    Calls Try.prog 3 #[encB X.s X.A X.n X.c] w fun e w' => e = .returned (.bool true) ∧ Bl w w' := by
  obtain ⟨s, A, n, c, E⟩ := X
  have HX := Lib.hid hX
  obtain ⟨hs, hn, hc, hA⟩ := hX
  dsimp only at hs hn hc hA
  have HA := Lib.hid hA
  have HS := Lib.hid hs
  have HC := Lib.hid hc
  have HNC := Lib.hid hn
  have HN := Lib.hid (show n ≤ maxLen by omega)
  clear hA hs
  unfold maxLen at hc
  by_cases hf : ftF (fun _ => ⟨s, A, n, c, E⟩) 1 = true
  rotate_left
  · have HF := Lib.hid (show ftF (fun _ => ⟨s, A, n, c, E⟩) 1 = false by simpa using hf)
    clear hf
    go_enter Try.func3, Try.ntmps3
    go_wp2_with fail
    refine (fit_any _ 1 1 (fun _ => ⟨s, A, n, c, E⟩) _ (bxl_one (x := ⟨s, A, n, c, E⟩) (by go_cell) (by go_cell)) (fun j _ => HX.out.below (by go_grown)) (by decide)).mono ?_
    rintro q1 w1 ⟨rfl, hb⟩
    have x0 := kcb hb (b := w.heap.size) (o := 0) (v := .string s) (by first | assumption | (refine cellUp ?_; assumption) | go_cell)
    have x1 := kcb hb (b := w.heap.size) (o := 1) (v := .slice A n c) (by first | assumption | (refine cellUp ?_; assumption) | go_cell)
    have B1 : Bl w w1 := Below.trans (by go_grown) (hb.mono (by (try simp only [World.size_alloc, World.size_setCell, World.size_drew]); omega))
    have l1 := ltb x1
    have zz1 := B1.size
    clear hb
    rw [HF.out]
    go_wp2_with fail
    refine (awakeR_any _).mono ?_
    rintro e w2 ⟨rfl, hb⟩
    go_wp2_with fail
    go_ret
    exact ⟨rfl, Below.trans B1 (Below.trans (by go_grown) (hb.mono (by (try simp only [World.size_alloc, World.size_setCell, World.size_drew]); omega)))⟩
  · have HF := Lib.hid hf
    clear hf
    by_cases hv : vbB s n E = true
    rotate_left
    · have HV := Lib.hid (show vbB s n E = false by simpa using hv)
      clear hv
      have HME := Lib.hid (show rR (meanF s n E) = .tuple #[.agg #[.int .i64 0, .int .i64 0], .int .i64 1] by rw [meanF, HV.out]; rfl)
      go_enter Try.func3, Try.ntmps3
      go_wp2_with fail
      refine (fit_any _ 1 1 (fun _ => ⟨s, A, n, c, E⟩) _ (bxl_one (x := ⟨s, A, n, c, E⟩) (by go_cell) (by go_cell)) (fun j _ => HX.out.below (by go_grown)) (by decide)).mono ?_
      rintro q1 w1 ⟨rfl, hb⟩
      have x0 := kcb hb (b := w.heap.size) (o := 0) (v := .string s) (by first | assumption | (refine cellUp ?_; assumption) | go_cell)
      have x1 := kcb hb (b := w.heap.size) (o := 1) (v := .slice A n c) (by first | assumption | (refine cellUp ?_; assumption) | go_cell)
      have B1 : Bl w w1 := Below.trans (by go_grown) (hb.mono (by (try simp only [World.size_alloc, World.size_setCell, World.size_drew]); omega))
      have l1 := ltb x1
      have zz1 := B1.size
      clear hb
      rw [HF.out]
      go_wp2_with fail
      refine (daily_any s A n c E _ HS.out (HA.out.below (Bl.tr B1 (by go_grown))) HNC.out HC.out).mono ?_
      rintro q2 w2 hP2
      obtain ⟨hb, rfl⟩ := dy_no HV.out hP2
      have x0 := kcb hb (b := w.heap.size) (o := 0) (v := .string s) (by first | assumption | (refine cellUp ?_; assumption) | go_cell)
      have x1 := kcb hb (b := w.heap.size) (o := 1) (v := .slice A n c) (by first | assumption | (refine cellUp ?_; assumption) | go_cell)
      have B2 : Bl w w2 := Below.trans (by go_grown) (hb.mono (by (try simp only [World.size_alloc, World.size_setCell, World.size_drew]); omega))
      have l2_0 := ltb x1
      have zz2 := B2.size
      clear hb hP2
      go_wp2_with fail
      refine (rdaily_any s A n c E _ HS.out (HA.out.below (Bl.tr B2 (by go_grown))) HNC.out HC.out).mono ?_
      rintro q3 w3 hP3
      obtain ⟨hb, rfl⟩ := dy_no HV.out hP3
      have x0 := kcb hb (b := w.heap.size) (o := 0) (v := .string s) (by first | assumption | (refine cellUp ?_; assumption) | go_cell)
      have x1 := kcb hb (b := w.heap.size) (o := 1) (v := .slice A n c) (by first | assumption | (refine cellUp ?_; assumption) | go_cell)
      have B3 : Bl w w3 := Below.trans (by go_grown) (hb.mono (by (try simp only [World.size_alloc, World.size_setCell, World.size_drew]); omega))
      have l3_0 := ltb x1
      have zz3 := B3.size
      clear hb hP3
      go_wp2_with fail
      refine (weekly_any s A n c E _ HS.out (HA.out.below (Bl.tr B3 (by go_grown))) HNC.out HC.out).mono ?_
      rintro q4 w4 hP4
      obtain ⟨hb, rfl⟩ := wk_no HV.out hP4
      have x0 := kcb hb (b := w.heap.size) (o := 0) (v := .string s) (by first | assumption | (refine cellUp ?_; assumption) | go_cell)
      have x1 := kcb hb (b := w.heap.size) (o := 1) (v := .slice A n c) (by first | assumption | (refine cellUp ?_; assumption) | go_cell)
      have B4 : Bl w w4 := Below.trans (by go_grown) (hb.mono (by (try simp only [World.size_alloc, World.size_setCell, World.size_drew]); omega))
      have l4_0 := ltb x1
      have zz4 := B4.size
      clear hb hP4
      go_wp2_with fail
      refine (rweekly_any s A n c E _ HS.out (HA.out.below (Bl.tr B4 (by go_grown))) HNC.out HC.out).mono ?_
      rintro q5 w5 hP5
      obtain ⟨hb, rfl⟩ := wk_no HV.out hP5
      have x0 := kcb hb (b := w.heap.size) (o := 0) (v := .string s) (by first | assumption | (refine cellUp ?_; assumption) | go_cell)
      have x1 := kcb hb (b := w.heap.size) (o := 1) (v := .slice A n c) (by first | assumption | (refine cellUp ?_; assumption) | go_cell)
      have B5 : Bl w w5 := Below.trans (by go_grown) (hb.mono (by (try simp only [World.size_alloc, World.size_setCell, World.size_drew]); omega))
      have l5_0 := ltb x1
      have zz5 := B5.size
      clear hb hP5
      go_wp2_with fail
      refine (meanR_any s A n c E _ HS.out (HA.out.below (Bl.tr B5 (by go_grown))) HNC.out HC.out).mono ?_
      rintro q6 w6 ⟨rfl, hb⟩
      have x0 := kcb hb (b := w.heap.size) (o := 0) (v := .string s) (by first | assumption | (refine cellUp ?_; assumption) | go_cell)
      have x1 := kcb hb (b := w.heap.size) (o := 1) (v := .slice A n c) (by first | assumption | (refine cellUp ?_; assumption) | go_cell)
      have B6 : Bl w w6 := Below.trans (by go_grown) (hb.mono (by (try simp only [World.size_alloc, World.size_setCell, World.size_drew]); omega))
      have l6 := ltb x1
      have zz6 := B6.size
      clear hb
      rw [HME.out]
      go_wp2_with fail
      refine (rmeanR_any s A n c E _ HS.out (HA.out.below (Bl.tr B6 (by go_grown))) HNC.out HC.out).mono ?_
      rintro q7 w7 ⟨rfl, hb⟩
      have x0 := kcb hb (b := w.heap.size) (o := 0) (v := .string s) (by first | assumption | (refine cellUp ?_; assumption) | go_cell)
      have x1 := kcb hb (b := w.heap.size) (o := 1) (v := .slice A n c) (by first | assumption | (refine cellUp ?_; assumption) | go_cell)
      have m0 := kcb hb (b := w6.heap.size) (o := 0) (v := .int .i64 0) (by first | assumption | (refine cellUp ?_; assumption) | go_cell)
      have m1 := kcb hb (b := w6.heap.size) (o := 1) (v := .int .i64 0) (by first | assumption | (refine cellUp ?_; assumption) | go_cell)
      have B7 : Bl w w7 := Below.trans (by go_grown) (hb.mono (by (try simp only [World.size_alloc, World.size_setCell, World.size_drew]); omega))
      have l7 := ltb m1
      have l7_1 := ltb x1
      have zz7 := B7.size
      clear hb
      rw [HME.out]
      go_wp2_with fail
      obtain ⟨M, hM⟩ : ∃ M, M = w6.heap.size := ⟨_, rfl⟩
      obtain ⟨N, hN⟩ : ∃ N, N = w7.heap.size := ⟨_, rfl⟩
      obtain ⟨W, hW⟩ : ∃ W, W = w7.alloc (.cells #[.int .i64 0, .int .i64 0] 31) := ⟨_, rfl⟩
      have BW : Bl w7 W := by rw [hW]; go_grown
      have S0 : Sd w w.heap.size M N (.string s) (.slice A n c) (.int .i64 0) (.int .i64 0) none 0 0 (fun _ => 0) none 0 none 0 0 (fun _ => 0) none 0 W := by
        rw [hM, hN, hW]
        exact ⟨Below.trans B7 (by go_grown), by go_cell, by go_cell, by go_cell, by go_cell, by go_cell, by go_cell, by simp; omega, by simp; omega, by simp, SE.nil _, SE.nil _⟩
      rw [← hW, ← hM, ← hN]
      clear hW hM hN
      go_region_held3 (fun W' => Bl w W' ∧ W'.cell? ⟨w.heap.size, 0, none⟩ = some (.string s) ∧ W'.cell? ⟨w.heap.size, 1, none⟩ = some (.slice A n c) ∧ W'.cell? ⟨M, 0, none⟩ = some (.int .i64 0) ∧ W'.cell? ⟨M, 1, none⟩ = some (.int .i64 0) ∧ W'.cell? ⟨N, 0, none⟩ = some (.int .i64 0) ∧ W'.cell? ⟨N, 1, none⟩ = some (.int .i64 0) ∧ w.heap.size < W'.heap.size ∧ M < W'.heap.size ∧ N < W'.heap.size ∧ SE none 0 0 (fun _ => 0) none 0 W' ∧ SE none 0 0 (fun _ => 0) none 0 W') (first | exact Sd.t S0 (bl_dr1 _) | exact Sd.t (by assumption) hh0 | exact Sd.t (by assumption) hh1 | exact Sd.t (by assumption) hh2) (first | (go_at_call 15; refine (validBox_any s A n c E _ HS.out HN.out (HA.out.below (Sd.bl (by assumption)))).mono ?_; rintro e v0 ⟨rfl, hh0⟩; rw [HV.out]) | (go_at_call 16; refine (rvalidBox_any s A n c E _ HS.out HN.out (HA.out.below (Sd.bl (by assumption)))).mono ?_; rintro e v1 ⟨rfl, hh1⟩; rw [HV.out]) | (go_at_call 17; refine (Sd.same (by assumption) (by first | exact .inl ⟨rfl, rfl⟩ | exact .inr ⟨rfl, rfl⟩)).mono ?_; rintro e v2 ⟨rfl, hh2⟩))
      clear S0 BW
      rename_i hHeld
      have HH := Lib.hid hHeld
      clear hHeld
      go_wp2_with fail
      have HB0 := Lib.hid HH.out.1
      refine (awakeR_any _).mono ?_
      rintro e w9 ⟨rfl, hb⟩
      go_wp2_with fail
      go_ret
      exact ⟨rfl, Bl.tr HB0.out hb⟩
    · have HV := Lib.hid hv
      obtain ⟨_, n2, n4, hE⟩ := vbB_iff.1 hv
      have HE := Lib.hid hE
      obtain ⟨N1, hN1⟩ : ∃ N1, N1 = n - 1 := ⟨_, rfl⟩
      obtain ⟨m, hm⟩ : ∃ m, m = N1 / 7 := ⟨_, rfl⟩
      have HN1 := Lib.hid hN1
      have HM := Lib.hid hm
      have b1 := dyTo_at hE (show n - 1 < n by omega)
      have b0 := dyTo_at hE (show 0 < n by omega)
      obtain ⟨ma, mb, hme, hmm, hmb, hma⟩ := low_small (N := E (n - 1) - E 0) (D := (n : Int) - 1) (by omega) (by omega)
      have HME := Lib.hid (show rR (meanF s n E) = .tuple #[.agg #[.int .i64 ma, .int .i64 mb], .int .i64 0] from by rw [meanF, if_pos hv, hme]; rfl)
      have HMM := Lib.hid (show ma * (N1 : Int) = (E N1 - E 0) * mb from by rw [hN1, ← hmm]; congr 1; omega)
      have z1 : N1 ≤ 399 := by omega
      have z2 : 1 ≤ N1 := by omega
      obtain ⟨gw, hgw⟩ : ∃ gw, gw = wkE m := ⟨_, rfl⟩
      have HGW := Lib.hid hgw
      have gg : (gw != gw) = false := by simp
      have z3 : m ≤ 399 := by omega
      clear hv hE hm hme hmm hgw b1 b0 hN1
      go_enter Try.func3, Try.ntmps3
      go_wp2_with fail
      refine (fit_any _ 1 1 (fun _ => ⟨s, A, n, c, E⟩) _ (bxl_one (x := ⟨s, A, n, c, E⟩) (by go_cell) (by go_cell)) (fun j _ => HX.out.below (by go_grown)) (by decide)).mono ?_
      rintro q1 w1 ⟨rfl, hb⟩
      have x0 := kcb hb (b := w.heap.size) (o := 0) (v := .string s) (by first | assumption | (refine cellUp ?_; assumption) | go_cell)
      have x1 := kcb hb (b := w.heap.size) (o := 1) (v := .slice A n c) (by first | assumption | (refine cellUp ?_; assumption) | go_cell)
      have B1 : Bl w w1 := Below.trans (by go_grown) (hb.mono (by (try simp only [World.size_alloc, World.size_setCell, World.size_drew]); omega))
      have l1 := ltb x1
      have zz1 := B1.size
      clear hb
      rw [HF.out]
      go_wp2_with fail
      refine (daily_any s A n c E _ HS.out (HA.out.below (Bl.tr B1 (by go_grown))) HNC.out HC.out).mono ?_
      rintro q2 w2 hP2
      obtain ⟨hb, A1, k1, rfl, p1, q1, s1⟩ := dy_use HV.out HN1.out HM.out hP2
      have x0 := kcb hb (b := w.heap.size) (o := 0) (v := .string s) (by first | assumption | (refine cellUp ?_; assumption) | go_cell)
      have x1 := kcb hb (b := w.heap.size) (o := 1) (v := .slice A n c) (by first | assumption | (refine cellUp ?_; assumption) | go_cell)
      have B2 : Bl w w2 := Below.trans (by go_grown) (hb.mono (by (try simp only [World.size_alloc, World.size_setCell, World.size_drew]); omega))
      have l2_0 := ltb x1
      have zz2 := B2.size
      have S1 := Lib.hid s1
      clear s1
      unfold maxLen at q1
      clear hb hP2
      go_wp2_with fail
      refine (rdaily_any s A n c E _ HS.out (HA.out.below (Bl.tr B2 (by go_grown))) HNC.out HC.out).mono ?_
      rintro q3 w3 hP3
      obtain ⟨hb, A2, k2, rfl, p2, q2, s2⟩ := dy_use HV.out HN1.out HM.out hP3
      have x0 := kcb hb (b := w.heap.size) (o := 0) (v := .string s) (by first | assumption | (refine cellUp ?_; assumption) | go_cell)
      have x1 := kcb hb (b := w.heap.size) (o := 1) (v := .slice A n c) (by first | assumption | (refine cellUp ?_; assumption) | go_cell)
      have B3 : Bl w w3 := Below.trans (by go_grown) (hb.mono (by (try simp only [World.size_alloc, World.size_setCell, World.size_drew]); omega))
      have l3_0 := ltb x1
      have zz3 := B3.size
      have S1 := Lib.hid (S1.out.below hb)
      have S2 := Lib.hid s2
      clear s2
      unfold maxLen at q2
      clear hb hP3
      go_wp2_with fail
      refine (weekly_any s A n c E _ HS.out (HA.out.below (Bl.tr B3 (by go_grown))) HNC.out HC.out).mono ?_
      rintro q4 w4 hP4
      obtain ⟨hb, A3, k3, rfl, p3, q3, s3⟩ := wk_use HV.out HN1.out HM.out hP4
      have x0 := kcb hb (b := w.heap.size) (o := 0) (v := .string s) (by first | assumption | (refine cellUp ?_; assumption) | go_cell)
      have x1 := kcb hb (b := w.heap.size) (o := 1) (v := .slice A n c) (by first | assumption | (refine cellUp ?_; assumption) | go_cell)
      have B4 : Bl w w4 := Below.trans (by go_grown) (hb.mono (by (try simp only [World.size_alloc, World.size_setCell, World.size_drew]); omega))
      have l4_0 := ltb x1
      have zz4 := B4.size
      have S1 := Lib.hid (S1.out.below hb)
      have S2 := Lib.hid (S2.out.below hb)
      have S3 := Lib.hid s3
      clear s3
      rw [← HGW.out]
      unfold maxLen at q3
      clear hb hP4
      go_wp2_with fail
      refine (rweekly_any s A n c E _ HS.out (HA.out.below (Bl.tr B4 (by go_grown))) HNC.out HC.out).mono ?_
      rintro q5 w5 hP5
      obtain ⟨hb, A4, k4, rfl, p4, q4, s4⟩ := wk_use HV.out HN1.out HM.out hP5
      have x0 := kcb hb (b := w.heap.size) (o := 0) (v := .string s) (by first | assumption | (refine cellUp ?_; assumption) | go_cell)
      have x1 := kcb hb (b := w.heap.size) (o := 1) (v := .slice A n c) (by first | assumption | (refine cellUp ?_; assumption) | go_cell)
      have B5 : Bl w w5 := Below.trans (by go_grown) (hb.mono (by (try simp only [World.size_alloc, World.size_setCell, World.size_drew]); omega))
      have l5_0 := ltb x1
      have zz5 := B5.size
      have S1 := Lib.hid (S1.out.below hb)
      have S2 := Lib.hid (S2.out.below hb)
      have S3 := Lib.hid (S3.out.below hb)
      have S4 := Lib.hid s4
      clear s4
      rw [← HGW.out]
      unfold maxLen at q4
      clear hb hP5
      go_wp2_with fail
      refine (meanR_any s A n c E _ HS.out (HA.out.below (Bl.tr B5 (by go_grown))) HNC.out HC.out).mono ?_
      rintro q6 w6 ⟨rfl, hb⟩
      have x0 := kcb hb (b := w.heap.size) (o := 0) (v := .string s) (by first | assumption | (refine cellUp ?_; assumption) | go_cell)
      have x1 := kcb hb (b := w.heap.size) (o := 1) (v := .slice A n c) (by first | assumption | (refine cellUp ?_; assumption) | go_cell)
      have B6 : Bl w w6 := Below.trans (by go_grown) (hb.mono (by (try simp only [World.size_alloc, World.size_setCell, World.size_drew]); omega))
      have l6 := ltb x1
      have zz6 := B6.size
      have S1 := Lib.hid (S1.out.below hb)
      have S2 := Lib.hid (S2.out.below hb)
      have S3 := Lib.hid (S3.out.below hb)
      have S4 := Lib.hid (S4.out.below hb)
      clear hb
      rw [HME.out]
      go_wp2_with fail
      refine (rmeanR_any s A n c E _ HS.out (HA.out.below (Bl.tr B6 (by go_grown))) HNC.out HC.out).mono ?_
      rintro q7 w7 ⟨rfl, hb⟩
      have x0 := kcb hb (b := w.heap.size) (o := 0) (v := .string s) (by first | assumption | (refine cellUp ?_; assumption) | go_cell)
      have x1 := kcb hb (b := w.heap.size) (o := 1) (v := .slice A n c) (by first | assumption | (refine cellUp ?_; assumption) | go_cell)
      have m0 := kcb hb (b := w6.heap.size) (o := 0) (v := .int .i64 ma) (by first | assumption | (refine cellUp ?_; assumption) | go_cell)
      have m1 := kcb hb (b := w6.heap.size) (o := 1) (v := .int .i64 mb) (by first | assumption | (refine cellUp ?_; assumption) | go_cell)
      have B7 : Bl w w7 := Below.trans (by go_grown) (hb.mono (by (try simp only [World.size_alloc, World.size_setCell, World.size_drew]); omega))
      have l7 := ltb m1
      have l7_1 := ltb x1
      have zz7 := B7.size
      have S1 := Lib.hid (S1.out.below (Bl.tr (show Bl w6 _ from by go_grown) hb))
      have S2 := Lib.hid (S2.out.below (Bl.tr (show Bl w6 _ from by go_grown) hb))
      have S3 := Lib.hid (S3.out.below (Bl.tr (show Bl w6 _ from by go_grown) hb))
      have S4 := Lib.hid (S4.out.below (Bl.tr (show Bl w6 _ from by go_grown) hb))
      clear hb
      rw [HME.out]
      go_wp2_with fail
      obtain ⟨M, hM⟩ : ∃ M, M = w6.heap.size := ⟨_, rfl⟩
      obtain ⟨N, hN⟩ : ∃ N, N = w7.heap.size := ⟨_, rfl⟩
      obtain ⟨W, hW⟩ : ∃ W, W = w7.alloc (.cells #[.int .i64 ma, .int .i64 mb] 31) := ⟨_, rfl⟩
      have BW : Bl w7 W := by rw [hW]; go_grown
      have S0 : Sd w w.heap.size M N (.string s) (.slice A n c) (.int .i64 ma) (.int .i64 mb) A1 N1 k1 (rtF E 1) A2 k2 A3 m k3 (rtF E 7) A4 k4 W := by
        rw [hM, hN, hW]
        exact ⟨Below.trans B7 (by go_grown), by go_cell, by go_cell, by go_cell, by go_cell, by go_cell, by go_cell, by simp; omega, by simp; omega, by simp, ⟨by unfold maxLen; omega, S1.out.below (by go_grown), S2.out.below (by go_grown)⟩, ⟨by unfold maxLen; omega, S3.out.below (by go_grown), S4.out.below (by go_grown)⟩⟩
      rw [← hW, ← hM, ← hN]
      clear hW hM hN
      go_region_held3 (fun W' => Bl w W' ∧ W'.cell? ⟨w.heap.size, 0, none⟩ = some (.string s) ∧ W'.cell? ⟨w.heap.size, 1, none⟩ = some (.slice A n c) ∧ W'.cell? ⟨M, 0, none⟩ = some (.int .i64 ma) ∧ W'.cell? ⟨M, 1, none⟩ = some (.int .i64 mb) ∧ W'.cell? ⟨N, 0, none⟩ = some (.int .i64 ma) ∧ W'.cell? ⟨N, 1, none⟩ = some (.int .i64 mb) ∧ w.heap.size < W'.heap.size ∧ M < W'.heap.size ∧ N < W'.heap.size ∧ SE A1 N1 k1 (rtF E 1) A2 k2 W' ∧ SE A3 m k3 (rtF E 7) A4 k4 W') (first | exact Sd.t S0 (bl_dr1 _) | exact Sd.t (by assumption) hh0 | exact Sd.t (by assumption) hh1 | exact Sd.t (by assumption) hh2) (first | (go_at_call 15; refine (validBox_any s A n c E _ HS.out HN.out (HA.out.below (Sd.bl (by assumption)))).mono ?_; rintro e v0 ⟨rfl, hh0⟩; rw [HV.out]) | (go_at_call 16; refine (rvalidBox_any s A n c E _ HS.out HN.out (HA.out.below (Sd.bl (by assumption)))).mono ?_; rintro e v1 ⟨rfl, hh1⟩; rw [HV.out]) | (go_at_call 17; refine (Sd.same (by assumption) (by first | exact .inl ⟨rfl, rfl⟩ | exact .inr ⟨rfl, rfl⟩)).mono ?_; rintro e v2 ⟨rfl, hh2⟩))
      clear S0 BW
      rename_i hHeld
      have HH := Lib.hid hHeld
      clear hHeld
      go_wp2_with fail
      obtain ⟨hb0, c0, c1, m0, m1, -, -, l0, lM, -, ⟨-, sA1, -⟩, ⟨-, sA3, -⟩⟩ := HH.out
      obtain ⟨Wz, hWz⟩ : ∃ Wz, Wz = v2 := ⟨_, rfl⟩
      subst hWz
      have S1 := Lib.hid sA1
      have S3 := Lib.hid sA3
      have BZ := Lib.hid hb0
      have HA2 := Lib.hid (HA.out.below hb0)
      have HCC := Lib.hid (And.intro c0 c1)
      have HMC := Lib.hid (And.intro m0 m1)
      have HLL := Lib.hid (And.intro l0 lM)
      clear HH hb0 sA1 sA3 c0 c1 m0 m1 l0 lM x0 x1
      go_loopw [15, 98] (fun v i wr => ∃ k : Nat, k ≤ N1 ∧ i = .int .i64 k ∧ v = .int .i64 (E k - E 0) ∧ wr = Wz) (fun _ i _ => N1 - (RowKit.intOf i).toNat)
      case atStart => exact ⟨0, Nat.zero_le _, rfl, by rw [Int.sub_self], rfl⟩
      case round =>
        obtain ⟨k, hk, rfl, rfl, rfl⟩ := hrel
        by_cases hlt : k < N1
        · obtain ⟨b, off, rfl, hbb, hc⟩ := S1.out (by omega)
          have d1 := hc k hlt
          have HCL := Lib.hid hc
          have bk := dyTo_at HE.out (show k < n by have := HN1.out; omega)
          have bk1 := dyTo_at HE.out (show k + 1 < n by have := HN1.out; omega)
          have b0 := dyTo_at HE.out (show 0 < n by omega)
          rw [show rtF E 1 k = E (k + 1) - E k by unfold rtF; rw [Nat.one_mul, Nat.one_mul]] at d1
          have HSUM := Lib.hid (show E k - E 0 + (E (k + 1) - E k) = E (k + 1) - E 0 by omega)
          obtain ⟨u, hu⟩ : ∃ u, u = E k - E 0 := ⟨_, rfl⟩
          obtain ⟨x, hx⟩ : ∃ x, x = E (k + 1) - E k := ⟨_, rfl⟩
          have ub : -172800000 ≤ u ∧ u ≤ 172800000 := by omega
          have xb : -172800000 ≤ x ∧ x ≤ 172800000 := by omega
          obtain ⟨ub1, ub2⟩ := ub
          obtain ⟨xb1, xb2⟩ := xb
          rw [← hx] at d1
          rw [← hu, ← hx] at HSUM
          rw [← hu]
          have e1 : wrap64 (u + x) = u + x := IntWalk.wrap64_in _ (by omega)
          clear hu hx bk bk1 b0 hc
          by_cases h7 : (k + 1) % 7 = 0
          · have hq1 : ((k : Int) + 1) % 7 = 0 := by omega
            have hq2 : ((k : Int) + 1).tmod 7 = 0 := by rw [Int.tmod_eq_emod_of_nonneg (by omega)]; exact hq1
            obtain ⟨q, hq⟩ : ∃ q, k = 7 * q + 6 := ⟨k / 7, by omega⟩
            obtain ⟨j, hj⟩ : ∃ j, j = 7 * q := ⟨_, rfl⟩
            have HJ := Lib.hid (And.intro hq hj)
            have e6 : wrap64 ((k : Int) - 6) = (j : Int) := by rw [IntWalk.wrap64_in _ (by omega)]; omega
            have j1 : (j : Int) ≤ (k : Int) + 1 := by omega
            have j2 : (k : Int) + 1 ≤ (k1 : Int) := by omega
            have j3 : ((k : Int) + 1 - (j : Int)).toNat = 7 := by omega
            have j4 : k + 1 - j = 7 := by omega
            have j5 : ¬ k1 = j := by omega
            have j6 : ¬ k1 - j = 0 := by omega
            have j7 : ¬ k1 ≤ j := by omega
            have q3 : (k : Int) / 7 = (q : Int) := by omega
            have q4 : (k : Int).tdiv 7 = (q : Int) := by rw [Int.tdiv_eq_ediv_of_nonneg (by omega)]; exact q3
            have qm : q < m := by have := HM.out; omega
            obtain ⟨b3, off3, rfl, hb3, hc3⟩ := S3.out (by omega)
            have y1 := hc3 q qm
            rw [show rtF E 7 q = E (j + 7) - E j by unfold rtF; rw [hj, show 7 * (q + 1) = 7 * q + 7 by omega]] at y1
            have HY1 := Lib.hid y1
            have jn : j + 7 < n := by have := HN1.out; omega
            clear h7 hq hj hc3 y1
            go_wp2_with fail
            obtain ⟨Wo, hWo⟩ : ∃ Wo, Wo = wr := ⟨_, rfl⟩
            subst hWo
            go_loopw [18, 117] (fun v i wr => ∃ t : Nat, t ≤ 7 ∧ i = .int .i64 t ∧ v = .int .i64 (E (j + t) - E j) ∧ wr = Wo) (fun _ i _ => 7 - (RowKit.intOf i).toNat)
            case atStart => exact ⟨0, Nat.zero_le _, rfl, by rw [Nat.add_zero, Int.sub_self], rfl⟩
            case round =>
              obtain ⟨t, ht, rfl, rfl, rfl⟩ := hrel
              by_cases h7 : t < 7
              · have d2 := HCL.out (j + t) (by omega)
                rw [show rtF E 1 (j + t) = E (j + (t + 1)) - E (j + t) by unfold rtF; rw [Nat.one_mul, Nat.one_mul, Nat.add_assoc], ← Nat.add_assoc] at d2
                have g1 := dyTo_at HE.out (show j + t < n by omega)
                have g2 := dyTo_at HE.out (show j + (t + 1) < n by omega)
                have g3 := dyTo_at HE.out (show j < n by omega)
                have HS2 := Lib.hid (show E (j + t) - E j + (E (j + (t + 1)) - E (j + t)) = E (j + (t + 1)) - E j by omega)
                obtain ⟨o, ho⟩ : ∃ o, o = E (j + t) - E j := ⟨_, rfl⟩
                obtain ⟨r, hr⟩ : ∃ r, r = E (j + (t + 1)) - E (j + t) := ⟨_, rfl⟩
                have ob : -172800000 ≤ o ∧ o ≤ 172800000 := by omega
                have rb : -172800000 ≤ r ∧ r ≤ 172800000 := by omega
                obtain ⟨ob1, ob2⟩ := ob
                obtain ⟨rb1, rb2⟩ := rb
                rw [← hr, show off + j + t = off + (k - 6) + t by have := HJ.out; omega] at d2
                rw [← ho, ← hr] at HS2
                rw [← ho]
                have e9 : wrap64 (o + r) = o + r := IntWalk.wrap64_in _ (by omega)
                clear ho hr g1 g2 g3
                go_wp2_with fail
                go_roundw
                case rel => exact ⟨t + 1, by omega, by go_num, by rw [← HS2.out], trivial⟩
                case measure => simp [RowKit.intOf]; omega
              · obtain rfl : t = 7 := by omega
                have y1 := HY1.out
                obtain ⟨y, hy⟩ : ∃ y, y = E (j + 7) - E j := ⟨_, rfl⟩
                rw [← hy] at y1 ⊢
                clear hy
                go_wp2_with fail
                go_roundw
                case rel => exact ⟨k + 1, by omega, by go_num, by rw [← HSUM.out], trivial⟩
                case measure => simp [RowKit.intOf]; omega
          · have hq1 : ¬ ((k : Int) + 1) % 7 = 0 := by omega
            have hq2 : ¬ ((k : Int) + 1).tmod 7 = 0 := by rw [Int.tmod_eq_emod_of_nonneg (by omega)]; exact hq1
            clear h7
            go_wp2_with fail
            go_roundw
            case rel => exact ⟨k + 1, by omega, by go_num, by rw [← HSUM.out], trivial⟩
            case measure => simp [RowKit.intOf]; omega
        · obtain rfl : k = N1 := by omega
          obtain ⟨b, off, rfl, hbb, hc⟩ := HA2.out (by omega)
          have kn : k < n := by have := HN1.out; omega
          have d1 := hc k kn
          have d0 : wr.cell? ⟨b, off, none⟩ = some (.int .i64 (E 0)) := hc 0 (by omega)
          have bk := dyTo_at HE.out kn
          have b0 := dyTo_at HE.out (show 0 < n by omega)
          have eM := HMM.out
          obtain ⟨z, hz⟩ : ∃ z, z = E k - E 0 := ⟨_, rfl⟩
          obtain ⟨u, hu⟩ : ∃ u, u = E k := ⟨_, rfl⟩
          obtain ⟨v, hv⟩ : ∃ v, v = E 0 := ⟨_, rfl⟩
          rw [← hu, ← hv] at hz
          rw [← hu] at d1 bk
          rw [← hv] at d0 b0
          have zb1 : -172800000 ≤ z := by omega
          have zb2 : z ≤ 172800000 := by omega
          have eN : IntKind.i64.wrap ((n : Int) - 1) = (k : Int) := by rw [IntWalk.i64_in _ (by omega)]; have := HN1.out; omega
          have eU : IntKind.i64.wrap (u - v) = z := by rw [IntWalk.i64_in _ (by omega), hz]
          rw [← hu, ← hv, ← hz] at eM
          rw [← hu, ← hv, ← hz]
          obtain ⟨p, hp⟩ : ∃ p, p = ma * (k : Int) := ⟨_, rfl⟩
          have pb : -400000000000 ≤ p ∧ p ≤ 400000000000 := by
            obtain ⟨g1, g2⟩ := hma
            have k399 : (k : Int) ≤ 399 := by omega
            have h1 := Int.mul_le_mul_of_nonneg_right g2 (show (0 : Int) ≤ k by omega)
            have h2 := Int.mul_le_mul_of_nonneg_right g1 (show (0 : Int) ≤ k by omega)
            omega
          have eP : IntKind.i64.wrap (ma * (k : Int)) = p := by rw [← hp]; exact IntWalk.i64_in _ (by omega)
          have eQ : IntKind.i64.wrap (z * mb) = p := by rw [← eM, ← hp]; exact IntWalk.i64_in _ (by omega)
          have kn' : (k : Int) < (n : Int) := by omega
          have n0 : 0 < n := by omega
          have S0 : Se w w.heap.size b (off + k) off M (.slice (some ⟨b, off, none⟩) n c) (.int .i64 u) (.int .i64 v) (.int .i64 ma) (.int .i64 mb) wr := ⟨BZ.out, HCC.out.2, d1, d0, HMC.out.1, HMC.out.2, HLL.out.1, hbb, HLL.out.2⟩
          clear hz hu hv hp pb eM bk b0 d1 d0 hc
          go_wp2_with fail
          go_region_held3 (fun W' => Bl w W' ∧ W'.cell? ⟨w.heap.size, 1, none⟩ = some (.slice (some ⟨b, off, none⟩) n c) ∧ W'.cell? ⟨b, off + k, none⟩ = some (.int .i64 u) ∧ W'.cell? ⟨b, off, none⟩ = some (.int .i64 v) ∧ W'.cell? ⟨M, 0, none⟩ = some (.int .i64 ma) ∧ W'.cell? ⟨M, 1, none⟩ = some (.int .i64 mb) ∧ w.heap.size < W'.heap.size ∧ b < W'.heap.size ∧ M < W'.heap.size) (first | exact Se.t S0 (bl_dr1 _) | exact Se.t (by assumption) hh0) (first | (go_at_call 8; refine (awakeR_any _).mono ?_; rintro e v9 ⟨rfl, hh0⟩))
          rename_i hHeld
          have HH := Lib.hid hHeld.1
          clear hHeld
          go_wp2_with fail
          go_ret
          exact ⟨rfl, HH.out⟩
end Go.Proofs.Ytbhdoafcjfcgfaa
