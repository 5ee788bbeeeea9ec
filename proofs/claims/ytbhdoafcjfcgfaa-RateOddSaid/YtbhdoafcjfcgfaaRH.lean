/-
  Daily, Weekly, Trial and Arc of package rate.
-/
import Derived.Test.YtbhdoafcjfcgfaaRE
import Derived.Test.YtbhdoafcjfcgfaaRG
namespace Go.Proofs.Ytbhdoafcjfcgfaa
open Go.RowKit
set_option linter.unusedSimpArgs false
set_option linter.unusedVariables false

/-- A list of numbers and OK. -/
def LstOk (f : Nat → Int) (k : Nat) (w' : World) (e : Ending) : Prop :=
  ∃ A cap, e = .returned (.tuple #[.slice A k cap, .int .i64 0]) ∧ k ≤ cap ∧ cap ≤ maxLen ∧ Sl w' A k f
/-- No list and an error. -/
def LstNo (x : Int) (e : Ending) : Prop := e = .returned (.tuple #[.slice none 0 0, .int .i64 x])
theorem rt_bd {E : Nat → Int} {n d : Nat} (hd : d = 1 ∨ d = 7) (hE : dyTo E n = true) {j : Nat} (hj : j < (n - 1) / d) : -172800000 ≤ rtF E d j ∧ rtF E d j ≤ 172800000 := by
  have h1 : d * (j + 1) < n := by rcases hd with rfl | rfl <;> omega
  have h2 : d * j < n := by rcases hd with rfl | rfl <;> omega
  have a := dyTo_at hE h1
  have b := dyTo_at hE h2
  unfold rtF
  omega
theorem rt_bdI {E : Nat → Int} {n d : Nat} (hd : d = 1 ∨ d = 7) (hE : dyTo E n = true) : bdI (rtF E d) ((n - 1) / d) := fun j hj => by have := rt_bd hd hE hj; omega
theorem rt_st {E : Nat → Int} {n d : Nat} (hd : d = 1 ∨ d = 7) (hE : dyTo E n = true) {j : Nat} (hj : j < (n - 1) / d - 1) : -345600000 ≤ stF (rtF E d) j ∧ stF (rtF E d) j ≤ 345600000 := by
  have a := rt_bd hd hE (j := j) (by omega)
  have b := rt_bd hd hE (j := j + 1) (by omega)
  unfold stF
  omega
theorem rt_stI {E : Nat → Int} {n d : Nat} (hd : d = 1 ∨ d = 7) (hE : dyTo E n = true) : bdI (stF (rtF E d)) ((n - 1) / d - 1) := fun j hj => by have := rt_st hd hE hj; omega
theorem mn_le_mx (f : Nat → Int) (k : Nat) : mnF f k ≤ mxF f k := by
  induction k with
  | zero => exact Int.le_refl _
  | succ k ih => simp only [mnF, mxF]; omega
theorem mn_bd {f : Nat → Int} {k : Nat} {B : Int} (h1 : 1 ≤ k) (h : ∀ j, j < k → -B ≤ f j ∧ f j ≤ B) : -B ≤ mnF f k ∧ mxF f k ≤ B := by
  induction k with
  | zero => omega
  | succ k ih =>
    have a := h k (by omega)
    by_cases e : k = 0
    · subst e; simp only [mnF, mxF]; omega
    · have b := ih (by omega) (fun j hj => h j (by omega))
      simp only [mnF, mxF]; omega
/-- The greatest difference without sign. -/
def lpF (g : Nat → Int) : Nat → Int
  | 0 => 0
  | k + 1 => max (lpF g k) ((g k).natAbs : Int)
theorem lp_eq {g : Nat → Int} {k : Nat} (h1 : 1 ≤ k) : max ((mnF g k).natAbs : Int) ((mxF g k).natAbs : Int) = lpF g k := by
  induction k with
  | zero => omega
  | succ k ih =>
    by_cases e : k = 0
    · subst e; simp only [mnF, mxF, lpF]; omega
    · have b := ih (by omega)
      have c := mn_le_mx g k
      simp only [mnF, mxF, lpF]; omega
theorem lp_bd {g : Nat → Int} {k : Nat} {B : Int} (hB : 0 ≤ B) (h : ∀ j, j < k → -B ≤ g j ∧ g j ≤ B) : 0 ≤ lpF g k ∧ lpF g k ≤ B := by
  induction k with
  | zero => exact ⟨Int.le_refl _, hB⟩
  | succ k ih =>
    have a := h k (by omega)
    have b := ih (fun j hj => h j (by omega))
    simp only [lpF]; omega

/-- What Daily and Weekly return. -/
def DayPost (s : ByteArray) (n : Nat) (E : Nat → Int) (w : World) (e : Ending) (w' : World) : Prop :=
  Bl w w' ∧ ((vbB s n E = false ∧ LstNo 1 e) ∨ (vbB s n E = true ∧ LstOk (rtF E 1) ((n - 1) / 1) w' e))
def WeekPost (s : ByteArray) (n : Nat) (E : Nat → Int) (w : World) (e : Ending) (w' : World) : Prop :=
  Bl w w' ∧ ((vbB s n E = false ∧ LstNo 1 e) ∨ (vbB s n E = true ∧ (n - 1) / 7 = 0 ∧ LstNo 8 e) ∨ (vbB s n E = true ∧ 1 ≤ (n - 1) / 7 ∧ LstOk (rtF E 7) ((n - 1) / 7) w' e))
theorem st_one (E : Nat → Int) : stF E = rtF E 1 := by funext j; unfold stF rtF; rw [Nat.one_mul, Nat.one_mul]
theorem st_wk (E : Nat → Int) : stF (wkF E) = rtF E 7 := rfl

set_option maxRecDepth 100000 in
set_option maxHeartbeats 3200000 in
theorem daily_any (s : ByteArray) (A : Option Addr) (n c : Nat) (E : Nat → Int) (w : World) (hs : s.size ≤ maxLen) (hA : Sl w A n E) (hn : n ≤ c) (hc : c ≤ maxLen) :
    Calls Try.prog 9 #[encB s A n c] w (DayPost s n E w) := by
  have HA := Lib.hid hA
  have HS := Lib.hid hs
  have HC := Lib.hid hc
  have HN := Lib.hid (show n ≤ maxLen by omega)
  clear hA hs
  unfold maxLen at hc
  by_cases hv : vbB s n E = true
  · have HV := Lib.hid hv
    obtain ⟨_, h2, h4, hE⟩ := vbB_iff.1 hv
    have HE := Lib.hid hE
    clear hv hE
    go_enter Try.func9, Try.ntmps9
    go_wp2_with fail
    refine (validBox_any s A n c E _ HS.out HN.out (HA.out.below (by go_grown))).mono ?_
    rintro q1 w1 ⟨rfl, hb⟩
    have x0 := kcb hb (b := w.heap.size) (o := 0) (v := .string s) (by first | assumption | (refine cellUp ?_; assumption) | go_cell)
    have x1 := kcb hb (b := w.heap.size) (o := 1) (v := .slice A n c) (by first | assumption | (refine cellUp ?_; assumption) | go_cell)
    have B1 : Bl w w1 := Below.trans (by go_grown) (hb.mono (by (try simp only [World.size_alloc, World.size_setCell]); omega))
    have l1 := ltb x1
    have zz1 := B1.size
    clear hb
    rw [HV.out]
    go_wp2_with fail
    refine (steps_any A n c E _ (HA.out.below (by exact B1)) (by omega) hn HC.out (by rw [st_one, show n - 1 = (n - 1) / 1 by omega]; exact rt_bdI (.inl rfl) HE.out)).mono ?_
    rintro q2 w2 ⟨hb, gf, lb, rfl, hit⟩
    have B2 := B1.tr hb
    clear hb
    go_wp2_with fail
    refine (collect_any _ hit (by omega)).mono ?_
    rintro q3 w3 ⟨hb, v, rfl, hrow⟩
    have B3 := B2.tr hb
    clear hb
    obtain ⟨A3, c3, rfl, h3, h3', hA3⟩ := sl_of_own hrow
    go_wp2_with fail
    go_ret2
    exact ⟨B3, .inr ⟨HV.out, A3, c3, by rw [Nat.div_one]; rfl, by rw [Nat.div_one]; exact h3, h3', by rw [Nat.div_one, ← st_one]; exact hA3⟩⟩
  · have HV := Lib.hid (show vbB s n E = false by simpa using hv)
    clear hv
    go_enter Try.func9, Try.ntmps9
    go_wp2_with fail
    refine (validBox_any s A n c E _ HS.out HN.out (HA.out.below (by go_grown))).mono ?_
    rintro q1 w1 ⟨rfl, hb⟩
    have x0 := kcb hb (b := w.heap.size) (o := 0) (v := .string s) (by first | assumption | (refine cellUp ?_; assumption) | go_cell)
    have x1 := kcb hb (b := w.heap.size) (o := 1) (v := .slice A n c) (by first | assumption | (refine cellUp ?_; assumption) | go_cell)
    have B1 : Bl w w1 := Below.trans (by go_grown) (hb.mono (by (try simp only [World.size_alloc, World.size_setCell]); omega))
    have l1 := ltb x1
    have zz1 := B1.size
    clear hb
    rw [HV.out]
    go_wp2_with fail
    go_ret2
    exact ⟨B1, .inl ⟨HV.out, rfl⟩⟩

set_option maxRecDepth 100000 in
set_option maxHeartbeats 3200000 in
theorem weekly_any (s : ByteArray) (A : Option Addr) (n c : Nat) (E : Nat → Int) (w : World) (hs : s.size ≤ maxLen) (hA : Sl w A n E) (hn : n ≤ c) (hc : c ≤ maxLen) :
    Calls Try.prog 11 #[encB s A n c] w (WeekPost s n E w) := by
  have HA := Lib.hid hA
  have HS := Lib.hid hs
  have HC := Lib.hid hc
  have HN := Lib.hid (show n ≤ maxLen by omega)
  clear hA hs
  unfold maxLen at hc
  by_cases hv : vbB s n E = true
  · have HV := Lib.hid hv
    obtain ⟨_, h2, h4, hE⟩ := vbB_iff.1 hv
    have HE := Lib.hid hE
    clear hv hE
    go_enter Try.func11, Try.ntmps11
    go_wp2_with fail
    refine (validBox_any s A n c E _ HS.out HN.out (HA.out.below (by go_grown))).mono ?_
    rintro q1 w1 ⟨rfl, hb⟩
    have x0 := kcb hb (b := w.heap.size) (o := 0) (v := .string s) (by first | assumption | (refine cellUp ?_; assumption) | go_cell)
    have x1 := kcb hb (b := w.heap.size) (o := 1) (v := .slice A n c) (by first | assumption | (refine cellUp ?_; assumption) | go_cell)
    have B1 : Bl w w1 := Below.trans (by go_grown) (hb.mono (by (try simp only [World.size_alloc, World.size_setCell]); omega))
    have l1 := ltb x1
    have zz1 := B1.size
    clear hb
    rw [HV.out]
    go_wp2_with fail
    refine (week_any A n c E _ (HA.out.below (by exact B1)) h4).mono ?_
    rintro q2 w2 ⟨hb, v, rfl, hrow⟩
    have B2 := B1.tr hb
    clear hb
    obtain ⟨A2, c2, rfl, k2, k2', hA2⟩ := sl_of_own hrow
    have m1 : (n + 6) / 7 - 1 = (n - 1) / 7 := by omega
    have m2 : 1 ≤ (n + 6) / 7 := by omega
    have m3 : (n - 1) / 7 ≤ 57 := by omega
    have HM := Lib.hid m1
    go_wp2_with fail
    refine (steps_any A2 _ c2 (wkF E) _ hA2 m2 k2 k2' (by rw [st_wk, HM.out]; exact rt_bdI (.inr rfl) HE.out)).mono ?_
    rintro q3 w3 ⟨hb, gf, lb, rfl, hit⟩
    have B3 := B2.tr hb
    clear hb
    rw [HM.out, st_wk] at hit
    go_wp2_with fail
    refine (collect_any _ hit (by omega)).mono ?_
    rintro q4 w4 ⟨hb, v, rfl, hrow⟩
    have B4 := B3.tr hb
    clear hb
    obtain ⟨A3, c3, rfl, h3, h3', hA3⟩ := sl_of_own hrow
    clear hrow m1 m2 hit
    obtain ⟨m, hm⟩ : ∃ m, m = (n - 1) / 7 := ⟨_, rfl⟩
    rw [← hm] at h3 hA3 m3 ⊢
    have HQ := Lib.hid hm
    clear hm
    by_cases h0 : m = 0
    · have e0 : ((m : Int) == 0) = true := by simp [h0]
      have HZ := Lib.hid h0
      clear h0
      go_wp2_with fail
      go_ret2
      exact ⟨B4, .inr (.inl ⟨HV.out, by rw [← HQ.out]; exact HZ.out, rfl⟩)⟩
    · have e0 : ((m : Int) == 0) = false := by simp [h0]
      have HZ := Lib.hid h0
      clear h0
      go_wp2_with fail
      go_ret2
      exact ⟨B4, .inr (.inr ⟨HV.out, by rw [← HQ.out]; have := HZ.out; omega, A3, c3, by rw [← HQ.out]; rfl, by rw [← HQ.out]; exact h3, h3', by rw [← HQ.out]; exact hA3⟩)⟩
  · have HV := Lib.hid (show vbB s n E = false by simpa using hv)
    clear hv
    go_enter Try.func11, Try.ntmps11
    go_wp2_with fail
    refine (validBox_any s A n c E _ HS.out HN.out (HA.out.below (by go_grown))).mono ?_
    rintro q1 w1 ⟨rfl, hb⟩
    have x0 := kcb hb (b := w.heap.size) (o := 0) (v := .string s) (by first | assumption | (refine cellUp ?_; assumption) | go_cell)
    have x1 := kcb hb (b := w.heap.size) (o := 1) (v := .slice A n c) (by first | assumption | (refine cellUp ?_; assumption) | go_cell)
    have B1 : Bl w w1 := Below.trans (by go_grown) (hb.mono (by (try simp only [World.size_alloc, World.size_setCell]); omega))
    have l1 := ltb x1
    have zz1 := B1.size
    clear hb
    rw [HV.out]
    go_wp2_with fail
    go_ret2
    exact ⟨B1, .inl ⟨HV.out, rfl⟩⟩

/-- What Arc returns. -/
def arF (ms : Int) : Value := if inB ms (-1000000000000) 1000000000000 then .tuple #[.int .i64 (15 * (ms.natAbs : Int) / 1000), .int .i64 (15 * (ms.natAbs : Int) % 1000), .int .i64 0] else .tuple #[.int .i64 0, .int .i64 0, .int .i64 7]
theorem arF_yes {ms : Int} (h : inB ms (-1000000000000) 1000000000000 = true) : arF ms = .tuple #[.int .i64 (15 * (ms.natAbs : Int) / 1000), .int .i64 (15 * (ms.natAbs : Int) % 1000), .int .i64 0] := by rw [arF, if_pos h]
theorem arF_no {ms : Int} (h : inB ms (-1000000000000) 1000000000000 = false) : arF ms = .tuple #[.int .i64 0, .int .i64 0, .int .i64 7] := by rw [arF, h]; rfl
set_option maxRecDepth 100000 in
set_option maxHeartbeats 1600000 in
theorem arc_any (ms : Int) (w : World) :
    Calls Try.prog 32 #[.int .i64 ms] w fun e w' => e = .returned (arF ms) ∧ Bl w w' := by
  by_cases h : inB ms (-1000000000000) 1000000000000 = true
  · obtain ⟨h1, h2⟩ := inB_iff.1 h
    have H := Lib.hid h
    clear h
    obtain ⟨q, hq⟩ : ∃ q : Int, q = (ms.natAbs : Int) := ⟨_, rfl⟩
    have q0 : 0 ≤ q ∧ q ≤ 1000000000000 := by omega
    obtain ⟨q0, q1⟩ := q0
    have HA := Lib.hid (arF_yes H.out)
    rw [← hq] at HA
    have HQ := Lib.hid hq
    clear hq
    have e1 : IntKind.i64.wrap (15 * q) = 15 * q := IntWalk.i64_in _ (by omega)
    have e2 := Int.tdiv_eq_ediv_of_nonneg (a := 15 * q) (b := 1000) (by omega)
    have e3 := Int.tmod_eq_emod_of_nonneg (a := 15 * q) (b := 1000) (by omega)
    have e4 : 0 ≤ 15 * q / 1000 ∧ 15 * q / 1000 ≤ 15000000000 := by omega
    obtain ⟨e4, e5⟩ := e4
    go_enter Try.func32, Try.ntmps32
    go_wp2_with fail
    refine (withinR_any _ _ _ (by omega) (by omega)).mono ?_
    rintro e w1 ⟨rfl, rfl⟩
    rw [H.out]
    go_wp2_with fail
    refine (sizeR_any _ _ (by omega) (by omega)).mono ?_
    rintro e w1 ⟨rfl, rfl⟩
    rw [← HQ.out]
    go_wp2_with fail
    go_returns
    exact ⟨by rw [HA.out]; rfl, by go_grown⟩
  · have H := Lib.hid (show inB ms (-1000000000000) 1000000000000 = false by simpa using h)
    clear h
    go_enter Try.func32, Try.ntmps32
    go_wp2_with fail
    refine (withinR_any _ _ _ (by omega) (by omega)).mono ?_
    rintro e w1 ⟨rfl, rfl⟩
    rw [H.out]
    go_wp2_with fail
    go_returns
    exact ⟨by rw [arF_no H.out]; rfl, by go_grown⟩
end Go.Proofs.Ytbhdoafcjfcgfaa
