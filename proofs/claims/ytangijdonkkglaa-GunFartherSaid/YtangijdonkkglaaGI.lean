/-
  The walk of the law GunFarther.
-/
import Derived.Test.YtangijdonkkglaaGH
namespace Go.Proofs.Ytangijdonkkglaa
open Go.RowKit
set_option linter.unusedSimpArgs false
set_option linter.unusedVariables false

theorem lagR_ok {a : Air} {p q : Pt} {u v : Int} (h : lagR a p q = (u, v, 0)) : VA a ∧ isP p ∧ isP q ∧ (lagP a p q).1 = u ∧ (lagP a p q).2 = v := by
  unfold lagR at h
  by_cases h1 : VA a
  · rw [if_pos h1] at h
    by_cases h2 : isP p ∧ isP q
    · rw [if_pos h2] at h
      simp only [Prod.mk.injEq, and_true] at h
      exact ⟨h1, h2.1, h2.2, h.1, h.2⟩
    · rw [if_neg h2] at h
      simp at h
  · rw [if_neg h1] at h
    simp at h
theorem far_mono {a : Air} {p q r : Pt} {u v x y : Int} (h : lagR a p q = (u, v, 0)) (g : lagR a p r = (x, y, 0)) (hle : sqd q p ≤ sqd r p) : u ≤ x ∧ v ≤ y := by
  obtain ⟨ha, hp, hq, e1, e2⟩ := lagR_ok h
  obtain ⟨_, _, hr, e3, e4⟩ := lagR_ok g
  rw [sqd_comm q p, sqd_comm r p] at hle
  have := lagP_mono ha hp hq hle
  omega
theorem far_lo {a b : Air} {p q : Pt} {u v x y : Int} (h : lagR a p q = (u, v, 0)) (g : lagR b p q = (x, y, 0)) (hle : a.s + a.w ≤ b.s + b.w) : x ≤ u := by
  obtain ⟨ha, hp, hq, e1, e2⟩ := lagR_ok h
  obtain ⟨hb, _, _, e3, e4⟩ := lagR_ok g
  have := lagP_air ha hb p q hle
  omega
theorem far_hi {a b : Air} {p q : Pt} {u v x y : Int} (h : lagR a p q = (u, v, 0)) (g : lagR b p q = (x, y, 0)) (hle : a.s - a.w ≤ b.s - b.w) : y ≤ v := by
  obtain ⟨ha, hp, hq, e1, e2⟩ := lagR_ok h
  obtain ⟨hb, _, _, e3, e4⟩ := lagR_ok g
  have := lagP_air2 ha hb p q hle
  omega

set_option maxRecDepth 100000 in
set_option maxHeartbeats 12800000 in
theorem farther_walk (a b : Air) (l : Leg) (r : Pt) (w : World) : Calls Try.prog 10 #[encA a, encA b, encG l, encP r] w fun e w' => e = .returned (.bool true) ∧ Bl w w' := by
  obtain ⟨⟨px, py⟩, ⟨qx, qy⟩⟩ := l
  obtain ⟨rx, ry⟩ := r
  obtain ⟨s1, s2, s3, hs⟩ : ∃ s1 s2 s3, lagR a ⟨px, py⟩ ⟨qx, qy⟩ = (s1, s2, s3) := ⟨_, _, _, rfl⟩
  obtain ⟨t1, t2, t3, ht⟩ : ∃ t1 t2 t3, lagR a ⟨px, py⟩ ⟨rx, ry⟩ = (t1, t2, t3) := ⟨_, _, _, rfl⟩
  obtain ⟨u1, u2, u3, hu⟩ : ∃ u1 u2 u3, lagR b ⟨px, py⟩ ⟨qx, qy⟩ = (u1, u2, u3) := ⟨_, _, _, rfl⟩
  have HS := Lib.hid hs
  have HT := Lib.hid ht
  have HU := Lib.hid hu
  clear hs ht hu
  go_enter Try.func10, Try.ntmps10
  go_wp2_with fail
  refine (Lag_any a ⟨px, py⟩ ⟨qx, qy⟩ _).mono ?_
  rintro q1 w1 ⟨rfl, hb⟩
  have xa0 := kcb hb (b := w.heap.size) (o := 0) (v := .int .i64 a.s) (by first | assumption | (refine cellUp ?_; assumption) | go_cell)
  have xa1 := kcb hb (b := w.heap.size) (o := 1) (v := .int .i64 a.w) (by first | assumption | (refine cellUp ?_; assumption) | go_cell)
  have xb0 := kcb hb (b := w.heap.size + 1) (o := 0) (v := .int .i64 b.s) (by first | assumption | (refine cellUp ?_; assumption) | go_cell)
  have xb1 := kcb hb (b := w.heap.size + 1) (o := 1) (v := .int .i64 b.w) (by first | assumption | (refine cellUp ?_; assumption) | go_cell)
  have xl0 := kcb hb (b := w.heap.size + 1 + 1) (o := 0) (v := .int .i64 px) (by first | assumption | (refine cellUp ?_; assumption) | go_cell)
  have xl1 := kcb hb (b := w.heap.size + 1 + 1) (o := 1) (v := .int .i64 py) (by first | assumption | (refine cellUp ?_; assumption) | go_cell)
  have xl2 := kcb hb (b := w.heap.size + 1 + 1) (o := 2) (v := .int .i64 qx) (by first | assumption | (refine cellUp ?_; assumption) | go_cell)
  have xl3 := kcb hb (b := w.heap.size + 1 + 1) (o := 3) (v := .int .i64 qy) (by first | assumption | (refine cellUp ?_; assumption) | go_cell)
  have xr0 := kcb hb (b := w.heap.size + 1 + 1 + 1) (o := 0) (v := .int .i64 rx) (by first | assumption | (refine cellUp ?_; assumption) | go_cell)
  have xr1 := kcb hb (b := w.heap.size + 1 + 1 + 1) (o := 1) (v := .int .i64 ry) (by first | assumption | (refine cellUp ?_; assumption) | go_cell)
  have B1 : Bl w w1 := Below.trans (by go_grown) (hb.mono (by (try simp only [World.size_alloc, World.size_setCell]); omega))
  have l1 := ltb xr1
  have l1_1 := ltb xl3
  have l1_2 := ltb xb1
  have l1_3 := ltb xa1
  have zz1 := B1.size
  clear hb
  rw [HS.out]
  unfold rS
  go_wp2_with fail
  refine (Lag_any a ⟨px, py⟩ ⟨rx, ry⟩ _).mono ?_
  rintro q2 w2 ⟨rfl, hb⟩
  have xa0 := kcb hb (b := w.heap.size) (o := 0) (v := .int .i64 a.s) (by first | assumption | (refine cellUp ?_; assumption) | go_cell)
  have xa1 := kcb hb (b := w.heap.size) (o := 1) (v := .int .i64 a.w) (by first | assumption | (refine cellUp ?_; assumption) | go_cell)
  have xb0 := kcb hb (b := w.heap.size + 1) (o := 0) (v := .int .i64 b.s) (by first | assumption | (refine cellUp ?_; assumption) | go_cell)
  have xb1 := kcb hb (b := w.heap.size + 1) (o := 1) (v := .int .i64 b.w) (by first | assumption | (refine cellUp ?_; assumption) | go_cell)
  have xl0 := kcb hb (b := w.heap.size + 1 + 1) (o := 0) (v := .int .i64 px) (by first | assumption | (refine cellUp ?_; assumption) | go_cell)
  have xl1 := kcb hb (b := w.heap.size + 1 + 1) (o := 1) (v := .int .i64 py) (by first | assumption | (refine cellUp ?_; assumption) | go_cell)
  have xl2 := kcb hb (b := w.heap.size + 1 + 1) (o := 2) (v := .int .i64 qx) (by first | assumption | (refine cellUp ?_; assumption) | go_cell)
  have xl3 := kcb hb (b := w.heap.size + 1 + 1) (o := 3) (v := .int .i64 qy) (by first | assumption | (refine cellUp ?_; assumption) | go_cell)
  have xr0 := kcb hb (b := w.heap.size + 1 + 1 + 1) (o := 0) (v := .int .i64 rx) (by first | assumption | (refine cellUp ?_; assumption) | go_cell)
  have xr1 := kcb hb (b := w.heap.size + 1 + 1 + 1) (o := 1) (v := .int .i64 ry) (by first | assumption | (refine cellUp ?_; assumption) | go_cell)
  have s0 := kcb hb (b := w1.heap.size) (o := 0) (v := .int .i64 s1) (by first | assumption | (refine cellUp ?_; assumption) | go_cell)
  have s1_ := kcb hb (b := w1.heap.size) (o := 1) (v := .int .i64 s2) (by first | assumption | (refine cellUp ?_; assumption) | go_cell)
  have B2 : Bl w w2 := Below.trans (by go_grown) (hb.mono (by (try simp only [World.size_alloc, World.size_setCell]); omega))
  have l2 := ltb s1_
  have l2_1 := ltb xr1
  have l2_2 := ltb xl3
  have l2_3 := ltb xb1
  have l2_4 := ltb xa1
  have zz2 := B2.size
  clear hb
  rw [HT.out]
  unfold rS
  by_cases g1 : s3 = 0
  rotate_left
  · have g1' : (s3 != 0) = true := by simpa using g1
    go_wp2_with fail
    refine (awakeG_any _).mono ?_
    rintro q3 w3 ⟨rfl, hb⟩
    have xa0 := kcb hb (b := w.heap.size) (o := 0) (v := .int .i64 a.s) (by first | assumption | (refine cellUp ?_; assumption) | go_cell)
    have xa1 := kcb hb (b := w.heap.size) (o := 1) (v := .int .i64 a.w) (by first | assumption | (refine cellUp ?_; assumption) | go_cell)
    have xb0 := kcb hb (b := w.heap.size + 1) (o := 0) (v := .int .i64 b.s) (by first | assumption | (refine cellUp ?_; assumption) | go_cell)
    have xb1 := kcb hb (b := w.heap.size + 1) (o := 1) (v := .int .i64 b.w) (by first | assumption | (refine cellUp ?_; assumption) | go_cell)
    have xl0 := kcb hb (b := w.heap.size + 1 + 1) (o := 0) (v := .int .i64 px) (by first | assumption | (refine cellUp ?_; assumption) | go_cell)
    have xl1 := kcb hb (b := w.heap.size + 1 + 1) (o := 1) (v := .int .i64 py) (by first | assumption | (refine cellUp ?_; assumption) | go_cell)
    have xl2 := kcb hb (b := w.heap.size + 1 + 1) (o := 2) (v := .int .i64 qx) (by first | assumption | (refine cellUp ?_; assumption) | go_cell)
    have xl3 := kcb hb (b := w.heap.size + 1 + 1) (o := 3) (v := .int .i64 qy) (by first | assumption | (refine cellUp ?_; assumption) | go_cell)
    have xr0 := kcb hb (b := w.heap.size + 1 + 1 + 1) (o := 0) (v := .int .i64 rx) (by first | assumption | (refine cellUp ?_; assumption) | go_cell)
    have xr1 := kcb hb (b := w.heap.size + 1 + 1 + 1) (o := 1) (v := .int .i64 ry) (by first | assumption | (refine cellUp ?_; assumption) | go_cell)
    have s0 := kcb hb (b := w1.heap.size) (o := 0) (v := .int .i64 s1) (by first | assumption | (refine cellUp ?_; assumption) | go_cell)
    have s1_ := kcb hb (b := w1.heap.size) (o := 1) (v := .int .i64 s2) (by first | assumption | (refine cellUp ?_; assumption) | go_cell)
    have B3 : Bl w w3 := Below.trans (by go_grown) (hb.mono (by (try simp only [World.size_alloc, World.size_setCell]); omega))
    have l3 := ltb s1_
    have l3_1 := ltb xr1
    have l3_2 := ltb xl3
    have l3_3 := ltb xb1
    have l3_4 := ltb xa1
    have zz3 := B3.size
    clear hb
    go_wp2_with fail
    go_ret
    exact ⟨rfl, by go_grown⟩
  by_cases g2 : t3 = 0
  rotate_left
  · subst g1
    have g2' : (t3 != 0) = true := by simpa using g2
    go_wp2_with fail
    refine (awakeG_any _).mono ?_
    rintro q3 w3 ⟨rfl, hb⟩
    have xa0 := kcb hb (b := w.heap.size) (o := 0) (v := .int .i64 a.s) (by first | assumption | (refine cellUp ?_; assumption) | go_cell)
    have xa1 := kcb hb (b := w.heap.size) (o := 1) (v := .int .i64 a.w) (by first | assumption | (refine cellUp ?_; assumption) | go_cell)
    have xb0 := kcb hb (b := w.heap.size + 1) (o := 0) (v := .int .i64 b.s) (by first | assumption | (refine cellUp ?_; assumption) | go_cell)
    have xb1 := kcb hb (b := w.heap.size + 1) (o := 1) (v := .int .i64 b.w) (by first | assumption | (refine cellUp ?_; assumption) | go_cell)
    have xl0 := kcb hb (b := w.heap.size + 1 + 1) (o := 0) (v := .int .i64 px) (by first | assumption | (refine cellUp ?_; assumption) | go_cell)
    have xl1 := kcb hb (b := w.heap.size + 1 + 1) (o := 1) (v := .int .i64 py) (by first | assumption | (refine cellUp ?_; assumption) | go_cell)
    have xl2 := kcb hb (b := w.heap.size + 1 + 1) (o := 2) (v := .int .i64 qx) (by first | assumption | (refine cellUp ?_; assumption) | go_cell)
    have xl3 := kcb hb (b := w.heap.size + 1 + 1) (o := 3) (v := .int .i64 qy) (by first | assumption | (refine cellUp ?_; assumption) | go_cell)
    have xr0 := kcb hb (b := w.heap.size + 1 + 1 + 1) (o := 0) (v := .int .i64 rx) (by first | assumption | (refine cellUp ?_; assumption) | go_cell)
    have xr1 := kcb hb (b := w.heap.size + 1 + 1 + 1) (o := 1) (v := .int .i64 ry) (by first | assumption | (refine cellUp ?_; assumption) | go_cell)
    have s0 := kcb hb (b := w1.heap.size) (o := 0) (v := .int .i64 s1) (by first | assumption | (refine cellUp ?_; assumption) | go_cell)
    have s1_ := kcb hb (b := w1.heap.size) (o := 1) (v := .int .i64 s2) (by first | assumption | (refine cellUp ?_; assumption) | go_cell)
    have B3 : Bl w w3 := Below.trans (by go_grown) (hb.mono (by (try simp only [World.size_alloc, World.size_setCell]); omega))
    have l3 := ltb s1_
    have l3_1 := ltb xr1
    have l3_2 := ltb xl3
    have l3_3 := ltb xb1
    have l3_4 := ltb xa1
    have zz3 := B3.size
    clear hb
    go_wp2_with fail
    go_ret
    exact ⟨rfl, by go_grown⟩
  subst g1 g2
  obtain ⟨ha, hp, hq, _, _⟩ := lagR_ok HS.out
  obtain ⟨_, _, hr, _, _⟩ := lagR_ok HT.out
  obtain ⟨dx, dy, m1, m2, ex, ey, fx, fy, es, d1, d2, d3, d4, q1, q2, q3, q4⟩ := sqd_parts hq hp
  obtain ⟨dx', dy', m1', m2', ex', ey', fx', fy', es', d1', d2', d3', d4', q1', q2', q3', q4'⟩ := sqd_parts hr hp
  dsimp only at ex ey ex' ey'
  obtain ⟨⟨a1, a2⟩, a3, a4⟩ := hp
  obtain ⟨⟨b1, b2⟩, b3, b4⟩ := hq
  obtain ⟨⟨c1, c2⟩, c3, c4⟩ := hr
  dsimp only at a1 a2 a3 a4 b1 b2 b3 b4 c1 c2 c3 c4
  have HES := Lib.hid es
  have HES' := Lib.hid es'
  clear es es'
  have wx : IntKind.i64.wrap (qx - px) = dx := by rw [ex]; exact IntWalk.i64_in _ (by omega)
  have wy : IntKind.i64.wrap (qy - py) = dy := by rw [ey]; exact IntWalk.i64_in _ (by omega)
  have wx' : IntKind.i64.wrap (rx - px) = dx' := by rw [ex']; exact IntWalk.i64_in _ (by omega)
  have wy' : IntKind.i64.wrap (ry - py) = dy' := by rw [ey']; exact IntWalk.i64_in _ (by omega)
  clear a1 a2 a3 a4 b1 b2 b3 b4 c1 c2 c3 c4
  go_wp2_with fail
  go_quiet (fail)
  revert nq
  intro na
  go_wp2_with fail
  go_quiet (fail)
  clear ex ey ex' ey' wx wy wx' wy'
  obtain ⟨X, hX⟩ : ∃ X, X = ((w2.alloc (Obj.cells #[.int .i64 t1, .int .i64 t2] 37)).drewN na).drewN nq := ⟨_, rfl⟩
  have BX2 : Bl w2 X := by rw [hX]; exact Bl.tr (Bl.tr (by go_grown) (Bl.dr _ _)) (Bl.dr _ _)
  have BX := B2.tr BX2
  have zX := BX.size
  have t0 : X.cell? ⟨w2.heap.size, 0, none⟩ = some (.int .i64 t1) := by rw [hX]; show World.cell? (w2.alloc _) _ = _; go_cell
  have t1_ : X.cell? ⟨w2.heap.size, 1, none⟩ = some (.int .i64 t2) := by rw [hX]; show World.cell? (w2.alloc _) _ = _; go_cell
  have lX := ltb t0
  rw [← hX]
  clear hX
  have xa0 := kcb BX2 xa0
  have xa1 := kcb BX2 xa1
  have xb0 := kcb BX2 xb0
  have xb1 := kcb BX2 xb1
  have xl0 := kcb BX2 xl0
  have xl1 := kcb BX2 xl1
  have xl2 := kcb BX2 xl2
  have xl3 := kcb BX2 xl3
  have xr0 := kcb BX2 xr0
  have xr1 := kcb BX2 xr1
  have s0 := kcb BX2 s0
  have s1_ := kcb BX2 s1_
  have lX0 := ltb xa0
  have lX1 := ltb xb0
  have lX2 := ltb xl0
  have lX3 := ltb xr0
  have lX4 := ltb s0
  have hD : (m1 + m2 ≤ m1' + m2' ∧ s1 ≤ t1 ∧ s2 ≤ t2) ∨ m1' + m2' < m1 + m2 := by
    by_cases hD : m1 + m2 ≤ m1' + m2'
    · exact .inl ⟨hD, far_mono HS.out HT.out (by rw [← HES.out, ← HES'.out]; exact hD)⟩
    · exact .inr (by omega)
  rcases hD with ⟨hD, g3, g4⟩ | hD
  · skip
    go_wp2_with fail
    refine (Lag_any b ⟨px, py⟩ ⟨qx, qy⟩ _).mono ?_
    rintro q3 w3 ⟨rfl, hb⟩
    have xa0 := kcb hb (b := w.heap.size) (o := 0) (v := .int .i64 a.s) (by first | assumption | (refine cellUp ?_; assumption) | go_cell)
    have xa1 := kcb hb (b := w.heap.size) (o := 1) (v := .int .i64 a.w) (by first | assumption | (refine cellUp ?_; assumption) | go_cell)
    have xb0 := kcb hb (b := w.heap.size + 1) (o := 0) (v := .int .i64 b.s) (by first | assumption | (refine cellUp ?_; assumption) | go_cell)
    have xb1 := kcb hb (b := w.heap.size + 1) (o := 1) (v := .int .i64 b.w) (by first | assumption | (refine cellUp ?_; assumption) | go_cell)
    have xl0 := kcb hb (b := w.heap.size + 1 + 1) (o := 0) (v := .int .i64 px) (by first | assumption | (refine cellUp ?_; assumption) | go_cell)
    have xl1 := kcb hb (b := w.heap.size + 1 + 1) (o := 1) (v := .int .i64 py) (by first | assumption | (refine cellUp ?_; assumption) | go_cell)
    have xl2 := kcb hb (b := w.heap.size + 1 + 1) (o := 2) (v := .int .i64 qx) (by first | assumption | (refine cellUp ?_; assumption) | go_cell)
    have xl3 := kcb hb (b := w.heap.size + 1 + 1) (o := 3) (v := .int .i64 qy) (by first | assumption | (refine cellUp ?_; assumption) | go_cell)
    have xr0 := kcb hb (b := w.heap.size + 1 + 1 + 1) (o := 0) (v := .int .i64 rx) (by first | assumption | (refine cellUp ?_; assumption) | go_cell)
    have xr1 := kcb hb (b := w.heap.size + 1 + 1 + 1) (o := 1) (v := .int .i64 ry) (by first | assumption | (refine cellUp ?_; assumption) | go_cell)
    have s0 := kcb hb (b := w1.heap.size) (o := 0) (v := .int .i64 s1) (by first | assumption | (refine cellUp ?_; assumption) | go_cell)
    have s1_ := kcb hb (b := w1.heap.size) (o := 1) (v := .int .i64 s2) (by first | assumption | (refine cellUp ?_; assumption) | go_cell)
    have t0 := kcb hb (b := w2.heap.size) (o := 0) (v := .int .i64 t1) (by first | assumption | (refine cellUp ?_; assumption) | go_cell)
    have t1_ := kcb hb (b := w2.heap.size) (o := 1) (v := .int .i64 t2) (by first | assumption | (refine cellUp ?_; assumption) | go_cell)
    have B3 : Bl w w3 := Below.trans (by go_grown) (hb.mono (by (try simp only [World.size_alloc, World.size_setCell]); omega))
    have l3 := ltb t1_
    have l3_1 := ltb s1_
    have l3_2 := ltb xr1
    have l3_3 := ltb xl3
    have l3_4 := ltb xb1
    have l3_5 := ltb xa1
    have zz3 := B3.size
    clear hb
    rw [HU.out]
    unfold rS
    by_cases g5 : u3 = 0
    rotate_left
    · have g5' : (u3 != 0) = true := by simpa using g5
      go_wp2_with fail
      refine (awakeG_any _).mono ?_
      rintro q4 w4 ⟨rfl, hb⟩
      have xa0 := kcb hb (b := w.heap.size) (o := 0) (v := .int .i64 a.s) (by first | assumption | (refine cellUp ?_; assumption) | go_cell)
      have xa1 := kcb hb (b := w.heap.size) (o := 1) (v := .int .i64 a.w) (by first | assumption | (refine cellUp ?_; assumption) | go_cell)
      have xb0 := kcb hb (b := w.heap.size + 1) (o := 0) (v := .int .i64 b.s) (by first | assumption | (refine cellUp ?_; assumption) | go_cell)
      have xb1 := kcb hb (b := w.heap.size + 1) (o := 1) (v := .int .i64 b.w) (by first | assumption | (refine cellUp ?_; assumption) | go_cell)
      have xl0 := kcb hb (b := w.heap.size + 1 + 1) (o := 0) (v := .int .i64 px) (by first | assumption | (refine cellUp ?_; assumption) | go_cell)
      have xl1 := kcb hb (b := w.heap.size + 1 + 1) (o := 1) (v := .int .i64 py) (by first | assumption | (refine cellUp ?_; assumption) | go_cell)
      have xl2 := kcb hb (b := w.heap.size + 1 + 1) (o := 2) (v := .int .i64 qx) (by first | assumption | (refine cellUp ?_; assumption) | go_cell)
      have xl3 := kcb hb (b := w.heap.size + 1 + 1) (o := 3) (v := .int .i64 qy) (by first | assumption | (refine cellUp ?_; assumption) | go_cell)
      have xr0 := kcb hb (b := w.heap.size + 1 + 1 + 1) (o := 0) (v := .int .i64 rx) (by first | assumption | (refine cellUp ?_; assumption) | go_cell)
      have xr1 := kcb hb (b := w.heap.size + 1 + 1 + 1) (o := 1) (v := .int .i64 ry) (by first | assumption | (refine cellUp ?_; assumption) | go_cell)
      have s0 := kcb hb (b := w1.heap.size) (o := 0) (v := .int .i64 s1) (by first | assumption | (refine cellUp ?_; assumption) | go_cell)
      have s1_ := kcb hb (b := w1.heap.size) (o := 1) (v := .int .i64 s2) (by first | assumption | (refine cellUp ?_; assumption) | go_cell)
      have t0 := kcb hb (b := w2.heap.size) (o := 0) (v := .int .i64 t1) (by first | assumption | (refine cellUp ?_; assumption) | go_cell)
      have t1_ := kcb hb (b := w2.heap.size) (o := 1) (v := .int .i64 t2) (by first | assumption | (refine cellUp ?_; assumption) | go_cell)
      have u0 := kcb hb (b := w3.heap.size) (o := 0) (v := .int .i64 u1) (by first | assumption | (refine cellUp ?_; assumption) | go_cell)
      have u1_ := kcb hb (b := w3.heap.size) (o := 1) (v := .int .i64 u2) (by first | assumption | (refine cellUp ?_; assumption) | go_cell)
      have B4 : Bl w w4 := Below.trans (by go_grown) (hb.mono (by (try simp only [World.size_alloc, World.size_setCell]); omega))
      have l4 := ltb u1_
      have l4_1 := ltb t1_
      have l4_2 := ltb s1_
      have l4_3 := ltb xr1
      have l4_4 := ltb xl3
      have l4_5 := ltb xb1
      have l4_6 := ltb xa1
      have zz4 := B4.size
      clear hb
      go_wp2_with fail
      go_ret
      exact ⟨rfl, by go_grown⟩
    subst g5
    by_cases g6 : a.s = b.s
    · by_cases g7 : a.w ≤ b.w
      · have g8 := far_lo HS.out HU.out (by omega)
        have g9 : s2 ≤ u2 := far_hi HU.out HS.out (by omega)
        by_cases g10 : a.w = b.w
        · have g11 := far_hi HS.out HU.out (by omega)
          go_wp2_with fail
          refine (awakeG_any _).mono ?_
          rintro q4 w4 ⟨rfl, hb⟩
          have xa0 := kcb hb (b := w.heap.size) (o := 0) (v := .int .i64 a.s) (by first | assumption | (refine cellUp ?_; assumption) | go_cell)
          have xa1 := kcb hb (b := w.heap.size) (o := 1) (v := .int .i64 a.w) (by first | assumption | (refine cellUp ?_; assumption) | go_cell)
          have xb0 := kcb hb (b := w.heap.size + 1) (o := 0) (v := .int .i64 b.s) (by first | assumption | (refine cellUp ?_; assumption) | go_cell)
          have xb1 := kcb hb (b := w.heap.size + 1) (o := 1) (v := .int .i64 b.w) (by first | assumption | (refine cellUp ?_; assumption) | go_cell)
          have xl0 := kcb hb (b := w.heap.size + 1 + 1) (o := 0) (v := .int .i64 px) (by first | assumption | (refine cellUp ?_; assumption) | go_cell)
          have xl1 := kcb hb (b := w.heap.size + 1 + 1) (o := 1) (v := .int .i64 py) (by first | assumption | (refine cellUp ?_; assumption) | go_cell)
          have xl2 := kcb hb (b := w.heap.size + 1 + 1) (o := 2) (v := .int .i64 qx) (by first | assumption | (refine cellUp ?_; assumption) | go_cell)
          have xl3 := kcb hb (b := w.heap.size + 1 + 1) (o := 3) (v := .int .i64 qy) (by first | assumption | (refine cellUp ?_; assumption) | go_cell)
          have xr0 := kcb hb (b := w.heap.size + 1 + 1 + 1) (o := 0) (v := .int .i64 rx) (by first | assumption | (refine cellUp ?_; assumption) | go_cell)
          have xr1 := kcb hb (b := w.heap.size + 1 + 1 + 1) (o := 1) (v := .int .i64 ry) (by first | assumption | (refine cellUp ?_; assumption) | go_cell)
          have s0 := kcb hb (b := w1.heap.size) (o := 0) (v := .int .i64 s1) (by first | assumption | (refine cellUp ?_; assumption) | go_cell)
          have s1_ := kcb hb (b := w1.heap.size) (o := 1) (v := .int .i64 s2) (by first | assumption | (refine cellUp ?_; assumption) | go_cell)
          have t0 := kcb hb (b := w2.heap.size) (o := 0) (v := .int .i64 t1) (by first | assumption | (refine cellUp ?_; assumption) | go_cell)
          have t1_ := kcb hb (b := w2.heap.size) (o := 1) (v := .int .i64 t2) (by first | assumption | (refine cellUp ?_; assumption) | go_cell)
          have u0 := kcb hb (b := w3.heap.size) (o := 0) (v := .int .i64 u1) (by first | assumption | (refine cellUp ?_; assumption) | go_cell)
          have u1_ := kcb hb (b := w3.heap.size) (o := 1) (v := .int .i64 u2) (by first | assumption | (refine cellUp ?_; assumption) | go_cell)
          have B4 : Bl w w4 := Below.trans (by go_grown) (hb.mono (by (try simp only [World.size_alloc, World.size_setCell]); omega))
          have l4 := ltb u1_
          have l4_1 := ltb t1_
          have l4_2 := ltb s1_
          have l4_3 := ltb xr1
          have l4_4 := ltb xl3
          have l4_5 := ltb xb1
          have l4_6 := ltb xa1
          have zz4 := B4.size
          clear hb
          go_wp2_with fail
          go_ret
          exact ⟨rfl, by go_grown⟩
        · skip
          go_wp2_with fail
          refine (awakeG_any _).mono ?_
          rintro q4 w4 ⟨rfl, hb⟩
          have xa0 := kcb hb (b := w.heap.size) (o := 0) (v := .int .i64 a.s) (by first | assumption | (refine cellUp ?_; assumption) | go_cell)
          have xa1 := kcb hb (b := w.heap.size) (o := 1) (v := .int .i64 a.w) (by first | assumption | (refine cellUp ?_; assumption) | go_cell)
          have xb0 := kcb hb (b := w.heap.size + 1) (o := 0) (v := .int .i64 b.s) (by first | assumption | (refine cellUp ?_; assumption) | go_cell)
          have xb1 := kcb hb (b := w.heap.size + 1) (o := 1) (v := .int .i64 b.w) (by first | assumption | (refine cellUp ?_; assumption) | go_cell)
          have xl0 := kcb hb (b := w.heap.size + 1 + 1) (o := 0) (v := .int .i64 px) (by first | assumption | (refine cellUp ?_; assumption) | go_cell)
          have xl1 := kcb hb (b := w.heap.size + 1 + 1) (o := 1) (v := .int .i64 py) (by first | assumption | (refine cellUp ?_; assumption) | go_cell)
          have xl2 := kcb hb (b := w.heap.size + 1 + 1) (o := 2) (v := .int .i64 qx) (by first | assumption | (refine cellUp ?_; assumption) | go_cell)
          have xl3 := kcb hb (b := w.heap.size + 1 + 1) (o := 3) (v := .int .i64 qy) (by first | assumption | (refine cellUp ?_; assumption) | go_cell)
          have xr0 := kcb hb (b := w.heap.size + 1 + 1 + 1) (o := 0) (v := .int .i64 rx) (by first | assumption | (refine cellUp ?_; assumption) | go_cell)
          have xr1 := kcb hb (b := w.heap.size + 1 + 1 + 1) (o := 1) (v := .int .i64 ry) (by first | assumption | (refine cellUp ?_; assumption) | go_cell)
          have s0 := kcb hb (b := w1.heap.size) (o := 0) (v := .int .i64 s1) (by first | assumption | (refine cellUp ?_; assumption) | go_cell)
          have s1_ := kcb hb (b := w1.heap.size) (o := 1) (v := .int .i64 s2) (by first | assumption | (refine cellUp ?_; assumption) | go_cell)
          have t0 := kcb hb (b := w2.heap.size) (o := 0) (v := .int .i64 t1) (by first | assumption | (refine cellUp ?_; assumption) | go_cell)
          have t1_ := kcb hb (b := w2.heap.size) (o := 1) (v := .int .i64 t2) (by first | assumption | (refine cellUp ?_; assumption) | go_cell)
          have u0 := kcb hb (b := w3.heap.size) (o := 0) (v := .int .i64 u1) (by first | assumption | (refine cellUp ?_; assumption) | go_cell)
          have u1_ := kcb hb (b := w3.heap.size) (o := 1) (v := .int .i64 u2) (by first | assumption | (refine cellUp ?_; assumption) | go_cell)
          have B4 : Bl w w4 := Below.trans (by go_grown) (hb.mono (by (try simp only [World.size_alloc, World.size_setCell]); omega))
          have l4 := ltb u1_
          have l4_1 := ltb t1_
          have l4_2 := ltb s1_
          have l4_3 := ltb xr1
          have l4_4 := ltb xl3
          have l4_5 := ltb xb1
          have l4_6 := ltb xa1
          have zz4 := B4.size
          clear hb
          go_wp2_with fail
          go_ret
          exact ⟨rfl, by go_grown⟩
      · have g10 : ¬ a.w = b.w := by omega
        go_wp2_with fail
        refine (awakeG_any _).mono ?_
        rintro q4 w4 ⟨rfl, hb⟩
        have xa0 := kcb hb (b := w.heap.size) (o := 0) (v := .int .i64 a.s) (by first | assumption | (refine cellUp ?_; assumption) | go_cell)
        have xa1 := kcb hb (b := w.heap.size) (o := 1) (v := .int .i64 a.w) (by first | assumption | (refine cellUp ?_; assumption) | go_cell)
        have xb0 := kcb hb (b := w.heap.size + 1) (o := 0) (v := .int .i64 b.s) (by first | assumption | (refine cellUp ?_; assumption) | go_cell)
        have xb1 := kcb hb (b := w.heap.size + 1) (o := 1) (v := .int .i64 b.w) (by first | assumption | (refine cellUp ?_; assumption) | go_cell)
        have xl0 := kcb hb (b := w.heap.size + 1 + 1) (o := 0) (v := .int .i64 px) (by first | assumption | (refine cellUp ?_; assumption) | go_cell)
        have xl1 := kcb hb (b := w.heap.size + 1 + 1) (o := 1) (v := .int .i64 py) (by first | assumption | (refine cellUp ?_; assumption) | go_cell)
        have xl2 := kcb hb (b := w.heap.size + 1 + 1) (o := 2) (v := .int .i64 qx) (by first | assumption | (refine cellUp ?_; assumption) | go_cell)
        have xl3 := kcb hb (b := w.heap.size + 1 + 1) (o := 3) (v := .int .i64 qy) (by first | assumption | (refine cellUp ?_; assumption) | go_cell)
        have xr0 := kcb hb (b := w.heap.size + 1 + 1 + 1) (o := 0) (v := .int .i64 rx) (by first | assumption | (refine cellUp ?_; assumption) | go_cell)
        have xr1 := kcb hb (b := w.heap.size + 1 + 1 + 1) (o := 1) (v := .int .i64 ry) (by first | assumption | (refine cellUp ?_; assumption) | go_cell)
        have s0 := kcb hb (b := w1.heap.size) (o := 0) (v := .int .i64 s1) (by first | assumption | (refine cellUp ?_; assumption) | go_cell)
        have s1_ := kcb hb (b := w1.heap.size) (o := 1) (v := .int .i64 s2) (by first | assumption | (refine cellUp ?_; assumption) | go_cell)
        have t0 := kcb hb (b := w2.heap.size) (o := 0) (v := .int .i64 t1) (by first | assumption | (refine cellUp ?_; assumption) | go_cell)
        have t1_ := kcb hb (b := w2.heap.size) (o := 1) (v := .int .i64 t2) (by first | assumption | (refine cellUp ?_; assumption) | go_cell)
        have u0 := kcb hb (b := w3.heap.size) (o := 0) (v := .int .i64 u1) (by first | assumption | (refine cellUp ?_; assumption) | go_cell)
        have u1_ := kcb hb (b := w3.heap.size) (o := 1) (v := .int .i64 u2) (by first | assumption | (refine cellUp ?_; assumption) | go_cell)
        have B4 : Bl w w4 := Below.trans (by go_grown) (hb.mono (by (try simp only [World.size_alloc, World.size_setCell]); omega))
        have l4 := ltb u1_
        have l4_1 := ltb t1_
        have l4_2 := ltb s1_
        have l4_3 := ltb xr1
        have l4_4 := ltb xl3
        have l4_5 := ltb xb1
        have l4_6 := ltb xa1
        have zz4 := B4.size
        clear hb
        go_wp2_with fail
        go_ret
        exact ⟨rfl, by go_grown⟩
    · by_cases g7 : a.w = b.w
      · by_cases g8 : b.s < a.s
        · skip
          go_wp2_with fail
          refine (awakeG_any _).mono ?_
          rintro q4 w4 ⟨rfl, hb⟩
          have xa0 := kcb hb (b := w.heap.size) (o := 0) (v := .int .i64 a.s) (by first | assumption | (refine cellUp ?_; assumption) | go_cell)
          have xa1 := kcb hb (b := w.heap.size) (o := 1) (v := .int .i64 a.w) (by first | assumption | (refine cellUp ?_; assumption) | go_cell)
          have xb0 := kcb hb (b := w.heap.size + 1) (o := 0) (v := .int .i64 b.s) (by first | assumption | (refine cellUp ?_; assumption) | go_cell)
          have xb1 := kcb hb (b := w.heap.size + 1) (o := 1) (v := .int .i64 b.w) (by first | assumption | (refine cellUp ?_; assumption) | go_cell)
          have xl0 := kcb hb (b := w.heap.size + 1 + 1) (o := 0) (v := .int .i64 px) (by first | assumption | (refine cellUp ?_; assumption) | go_cell)
          have xl1 := kcb hb (b := w.heap.size + 1 + 1) (o := 1) (v := .int .i64 py) (by first | assumption | (refine cellUp ?_; assumption) | go_cell)
          have xl2 := kcb hb (b := w.heap.size + 1 + 1) (o := 2) (v := .int .i64 qx) (by first | assumption | (refine cellUp ?_; assumption) | go_cell)
          have xl3 := kcb hb (b := w.heap.size + 1 + 1) (o := 3) (v := .int .i64 qy) (by first | assumption | (refine cellUp ?_; assumption) | go_cell)
          have xr0 := kcb hb (b := w.heap.size + 1 + 1 + 1) (o := 0) (v := .int .i64 rx) (by first | assumption | (refine cellUp ?_; assumption) | go_cell)
          have xr1 := kcb hb (b := w.heap.size + 1 + 1 + 1) (o := 1) (v := .int .i64 ry) (by first | assumption | (refine cellUp ?_; assumption) | go_cell)
          have s0 := kcb hb (b := w1.heap.size) (o := 0) (v := .int .i64 s1) (by first | assumption | (refine cellUp ?_; assumption) | go_cell)
          have s1_ := kcb hb (b := w1.heap.size) (o := 1) (v := .int .i64 s2) (by first | assumption | (refine cellUp ?_; assumption) | go_cell)
          have t0 := kcb hb (b := w2.heap.size) (o := 0) (v := .int .i64 t1) (by first | assumption | (refine cellUp ?_; assumption) | go_cell)
          have t1_ := kcb hb (b := w2.heap.size) (o := 1) (v := .int .i64 t2) (by first | assumption | (refine cellUp ?_; assumption) | go_cell)
          have u0 := kcb hb (b := w3.heap.size) (o := 0) (v := .int .i64 u1) (by first | assumption | (refine cellUp ?_; assumption) | go_cell)
          have u1_ := kcb hb (b := w3.heap.size) (o := 1) (v := .int .i64 u2) (by first | assumption | (refine cellUp ?_; assumption) | go_cell)
          have B4 : Bl w w4 := Below.trans (by go_grown) (hb.mono (by (try simp only [World.size_alloc, World.size_setCell]); omega))
          have l4 := ltb u1_
          have l4_1 := ltb t1_
          have l4_2 := ltb s1_
          have l4_3 := ltb xr1
          have l4_4 := ltb xl3
          have l4_5 := ltb xb1
          have l4_6 := ltb xa1
          have zz4 := B4.size
          clear hb
          go_wp2_with fail
          go_ret
          exact ⟨rfl, by go_grown⟩
        · have g9 := far_lo HS.out HU.out (by omega)
          have g10 := far_hi HS.out HU.out (by omega)
          go_wp2_with fail
          refine (awakeG_any _).mono ?_
          rintro q4 w4 ⟨rfl, hb⟩
          have xa0 := kcb hb (b := w.heap.size) (o := 0) (v := .int .i64 a.s) (by first | assumption | (refine cellUp ?_; assumption) | go_cell)
          have xa1 := kcb hb (b := w.heap.size) (o := 1) (v := .int .i64 a.w) (by first | assumption | (refine cellUp ?_; assumption) | go_cell)
          have xb0 := kcb hb (b := w.heap.size + 1) (o := 0) (v := .int .i64 b.s) (by first | assumption | (refine cellUp ?_; assumption) | go_cell)
          have xb1 := kcb hb (b := w.heap.size + 1) (o := 1) (v := .int .i64 b.w) (by first | assumption | (refine cellUp ?_; assumption) | go_cell)
          have xl0 := kcb hb (b := w.heap.size + 1 + 1) (o := 0) (v := .int .i64 px) (by first | assumption | (refine cellUp ?_; assumption) | go_cell)
          have xl1 := kcb hb (b := w.heap.size + 1 + 1) (o := 1) (v := .int .i64 py) (by first | assumption | (refine cellUp ?_; assumption) | go_cell)
          have xl2 := kcb hb (b := w.heap.size + 1 + 1) (o := 2) (v := .int .i64 qx) (by first | assumption | (refine cellUp ?_; assumption) | go_cell)
          have xl3 := kcb hb (b := w.heap.size + 1 + 1) (o := 3) (v := .int .i64 qy) (by first | assumption | (refine cellUp ?_; assumption) | go_cell)
          have xr0 := kcb hb (b := w.heap.size + 1 + 1 + 1) (o := 0) (v := .int .i64 rx) (by first | assumption | (refine cellUp ?_; assumption) | go_cell)
          have xr1 := kcb hb (b := w.heap.size + 1 + 1 + 1) (o := 1) (v := .int .i64 ry) (by first | assumption | (refine cellUp ?_; assumption) | go_cell)
          have s0 := kcb hb (b := w1.heap.size) (o := 0) (v := .int .i64 s1) (by first | assumption | (refine cellUp ?_; assumption) | go_cell)
          have s1_ := kcb hb (b := w1.heap.size) (o := 1) (v := .int .i64 s2) (by first | assumption | (refine cellUp ?_; assumption) | go_cell)
          have t0 := kcb hb (b := w2.heap.size) (o := 0) (v := .int .i64 t1) (by first | assumption | (refine cellUp ?_; assumption) | go_cell)
          have t1_ := kcb hb (b := w2.heap.size) (o := 1) (v := .int .i64 t2) (by first | assumption | (refine cellUp ?_; assumption) | go_cell)
          have u0 := kcb hb (b := w3.heap.size) (o := 0) (v := .int .i64 u1) (by first | assumption | (refine cellUp ?_; assumption) | go_cell)
          have u1_ := kcb hb (b := w3.heap.size) (o := 1) (v := .int .i64 u2) (by first | assumption | (refine cellUp ?_; assumption) | go_cell)
          have B4 : Bl w w4 := Below.trans (by go_grown) (hb.mono (by (try simp only [World.size_alloc, World.size_setCell]); omega))
          have l4 := ltb u1_
          have l4_1 := ltb t1_
          have l4_2 := ltb s1_
          have l4_3 := ltb xr1
          have l4_4 := ltb xl3
          have l4_5 := ltb xb1
          have l4_6 := ltb xa1
          have zz4 := B4.size
          clear hb
          go_wp2_with fail
          go_ret
          exact ⟨rfl, by go_grown⟩
      · skip
        go_wp2_with fail
        refine (awakeG_any _).mono ?_
        rintro q4 w4 ⟨rfl, hb⟩
        have xa0 := kcb hb (b := w.heap.size) (o := 0) (v := .int .i64 a.s) (by first | assumption | (refine cellUp ?_; assumption) | go_cell)
        have xa1 := kcb hb (b := w.heap.size) (o := 1) (v := .int .i64 a.w) (by first | assumption | (refine cellUp ?_; assumption) | go_cell)
        have xb0 := kcb hb (b := w.heap.size + 1) (o := 0) (v := .int .i64 b.s) (by first | assumption | (refine cellUp ?_; assumption) | go_cell)
        have xb1 := kcb hb (b := w.heap.size + 1) (o := 1) (v := .int .i64 b.w) (by first | assumption | (refine cellUp ?_; assumption) | go_cell)
        have xl0 := kcb hb (b := w.heap.size + 1 + 1) (o := 0) (v := .int .i64 px) (by first | assumption | (refine cellUp ?_; assumption) | go_cell)
        have xl1 := kcb hb (b := w.heap.size + 1 + 1) (o := 1) (v := .int .i64 py) (by first | assumption | (refine cellUp ?_; assumption) | go_cell)
        have xl2 := kcb hb (b := w.heap.size + 1 + 1) (o := 2) (v := .int .i64 qx) (by first | assumption | (refine cellUp ?_; assumption) | go_cell)
        have xl3 := kcb hb (b := w.heap.size + 1 + 1) (o := 3) (v := .int .i64 qy) (by first | assumption | (refine cellUp ?_; assumption) | go_cell)
        have xr0 := kcb hb (b := w.heap.size + 1 + 1 + 1) (o := 0) (v := .int .i64 rx) (by first | assumption | (refine cellUp ?_; assumption) | go_cell)
        have xr1 := kcb hb (b := w.heap.size + 1 + 1 + 1) (o := 1) (v := .int .i64 ry) (by first | assumption | (refine cellUp ?_; assumption) | go_cell)
        have s0 := kcb hb (b := w1.heap.size) (o := 0) (v := .int .i64 s1) (by first | assumption | (refine cellUp ?_; assumption) | go_cell)
        have s1_ := kcb hb (b := w1.heap.size) (o := 1) (v := .int .i64 s2) (by first | assumption | (refine cellUp ?_; assumption) | go_cell)
        have t0 := kcb hb (b := w2.heap.size) (o := 0) (v := .int .i64 t1) (by first | assumption | (refine cellUp ?_; assumption) | go_cell)
        have t1_ := kcb hb (b := w2.heap.size) (o := 1) (v := .int .i64 t2) (by first | assumption | (refine cellUp ?_; assumption) | go_cell)
        have u0 := kcb hb (b := w3.heap.size) (o := 0) (v := .int .i64 u1) (by first | assumption | (refine cellUp ?_; assumption) | go_cell)
        have u1_ := kcb hb (b := w3.heap.size) (o := 1) (v := .int .i64 u2) (by first | assumption | (refine cellUp ?_; assumption) | go_cell)
        have B4 : Bl w w4 := Below.trans (by go_grown) (hb.mono (by (try simp only [World.size_alloc, World.size_setCell]); omega))
        have l4 := ltb u1_
        have l4_1 := ltb t1_
        have l4_2 := ltb s1_
        have l4_3 := ltb xr1
        have l4_4 := ltb xl3
        have l4_5 := ltb xb1
        have l4_6 := ltb xa1
        have zz4 := B4.size
        clear hb
        go_wp2_with fail
        go_ret
        exact ⟨rfl, by go_grown⟩
  · skip
    go_wp2_with fail
    refine (Lag_any b ⟨px, py⟩ ⟨qx, qy⟩ _).mono ?_
    rintro q3 w3 ⟨rfl, hb⟩
    have xa0 := kcb hb (b := w.heap.size) (o := 0) (v := .int .i64 a.s) (by first | assumption | (refine cellUp ?_; assumption) | go_cell)
    have xa1 := kcb hb (b := w.heap.size) (o := 1) (v := .int .i64 a.w) (by first | assumption | (refine cellUp ?_; assumption) | go_cell)
    have xb0 := kcb hb (b := w.heap.size + 1) (o := 0) (v := .int .i64 b.s) (by first | assumption | (refine cellUp ?_; assumption) | go_cell)
    have xb1 := kcb hb (b := w.heap.size + 1) (o := 1) (v := .int .i64 b.w) (by first | assumption | (refine cellUp ?_; assumption) | go_cell)
    have xl0 := kcb hb (b := w.heap.size + 1 + 1) (o := 0) (v := .int .i64 px) (by first | assumption | (refine cellUp ?_; assumption) | go_cell)
    have xl1 := kcb hb (b := w.heap.size + 1 + 1) (o := 1) (v := .int .i64 py) (by first | assumption | (refine cellUp ?_; assumption) | go_cell)
    have xl2 := kcb hb (b := w.heap.size + 1 + 1) (o := 2) (v := .int .i64 qx) (by first | assumption | (refine cellUp ?_; assumption) | go_cell)
    have xl3 := kcb hb (b := w.heap.size + 1 + 1) (o := 3) (v := .int .i64 qy) (by first | assumption | (refine cellUp ?_; assumption) | go_cell)
    have xr0 := kcb hb (b := w.heap.size + 1 + 1 + 1) (o := 0) (v := .int .i64 rx) (by first | assumption | (refine cellUp ?_; assumption) | go_cell)
    have xr1 := kcb hb (b := w.heap.size + 1 + 1 + 1) (o := 1) (v := .int .i64 ry) (by first | assumption | (refine cellUp ?_; assumption) | go_cell)
    have s0 := kcb hb (b := w1.heap.size) (o := 0) (v := .int .i64 s1) (by first | assumption | (refine cellUp ?_; assumption) | go_cell)
    have s1_ := kcb hb (b := w1.heap.size) (o := 1) (v := .int .i64 s2) (by first | assumption | (refine cellUp ?_; assumption) | go_cell)
    have t0 := kcb hb (b := w2.heap.size) (o := 0) (v := .int .i64 t1) (by first | assumption | (refine cellUp ?_; assumption) | go_cell)
    have t1_ := kcb hb (b := w2.heap.size) (o := 1) (v := .int .i64 t2) (by first | assumption | (refine cellUp ?_; assumption) | go_cell)
    have B3 : Bl w w3 := Below.trans (by go_grown) (hb.mono (by (try simp only [World.size_alloc, World.size_setCell]); omega))
    have l3 := ltb t1_
    have l3_1 := ltb s1_
    have l3_2 := ltb xr1
    have l3_3 := ltb xl3
    have l3_4 := ltb xb1
    have l3_5 := ltb xa1
    have zz3 := B3.size
    clear hb
    rw [HU.out]
    unfold rS
    by_cases g5 : u3 = 0
    rotate_left
    · have g5' : (u3 != 0) = true := by simpa using g5
      go_wp2_with fail
      refine (awakeG_any _).mono ?_
      rintro q4 w4 ⟨rfl, hb⟩
      have xa0 := kcb hb (b := w.heap.size) (o := 0) (v := .int .i64 a.s) (by first | assumption | (refine cellUp ?_; assumption) | go_cell)
      have xa1 := kcb hb (b := w.heap.size) (o := 1) (v := .int .i64 a.w) (by first | assumption | (refine cellUp ?_; assumption) | go_cell)
      have xb0 := kcb hb (b := w.heap.size + 1) (o := 0) (v := .int .i64 b.s) (by first | assumption | (refine cellUp ?_; assumption) | go_cell)
      have xb1 := kcb hb (b := w.heap.size + 1) (o := 1) (v := .int .i64 b.w) (by first | assumption | (refine cellUp ?_; assumption) | go_cell)
      have xl0 := kcb hb (b := w.heap.size + 1 + 1) (o := 0) (v := .int .i64 px) (by first | assumption | (refine cellUp ?_; assumption) | go_cell)
      have xl1 := kcb hb (b := w.heap.size + 1 + 1) (o := 1) (v := .int .i64 py) (by first | assumption | (refine cellUp ?_; assumption) | go_cell)
      have xl2 := kcb hb (b := w.heap.size + 1 + 1) (o := 2) (v := .int .i64 qx) (by first | assumption | (refine cellUp ?_; assumption) | go_cell)
      have xl3 := kcb hb (b := w.heap.size + 1 + 1) (o := 3) (v := .int .i64 qy) (by first | assumption | (refine cellUp ?_; assumption) | go_cell)
      have xr0 := kcb hb (b := w.heap.size + 1 + 1 + 1) (o := 0) (v := .int .i64 rx) (by first | assumption | (refine cellUp ?_; assumption) | go_cell)
      have xr1 := kcb hb (b := w.heap.size + 1 + 1 + 1) (o := 1) (v := .int .i64 ry) (by first | assumption | (refine cellUp ?_; assumption) | go_cell)
      have s0 := kcb hb (b := w1.heap.size) (o := 0) (v := .int .i64 s1) (by first | assumption | (refine cellUp ?_; assumption) | go_cell)
      have s1_ := kcb hb (b := w1.heap.size) (o := 1) (v := .int .i64 s2) (by first | assumption | (refine cellUp ?_; assumption) | go_cell)
      have t0 := kcb hb (b := w2.heap.size) (o := 0) (v := .int .i64 t1) (by first | assumption | (refine cellUp ?_; assumption) | go_cell)
      have t1_ := kcb hb (b := w2.heap.size) (o := 1) (v := .int .i64 t2) (by first | assumption | (refine cellUp ?_; assumption) | go_cell)
      have u0 := kcb hb (b := w3.heap.size) (o := 0) (v := .int .i64 u1) (by first | assumption | (refine cellUp ?_; assumption) | go_cell)
      have u1_ := kcb hb (b := w3.heap.size) (o := 1) (v := .int .i64 u2) (by first | assumption | (refine cellUp ?_; assumption) | go_cell)
      have B4 : Bl w w4 := Below.trans (by go_grown) (hb.mono (by (try simp only [World.size_alloc, World.size_setCell]); omega))
      have l4 := ltb u1_
      have l4_1 := ltb t1_
      have l4_2 := ltb s1_
      have l4_3 := ltb xr1
      have l4_4 := ltb xl3
      have l4_5 := ltb xb1
      have l4_6 := ltb xa1
      have zz4 := B4.size
      clear hb
      go_wp2_with fail
      go_ret
      exact ⟨rfl, by go_grown⟩
    subst g5
    by_cases g6 : a.s = b.s
    · by_cases g7 : a.w ≤ b.w
      · have g8 := far_lo HS.out HU.out (by omega)
        have g9 : s2 ≤ u2 := far_hi HU.out HS.out (by omega)
        by_cases g10 : a.w = b.w
        · have g11 := far_hi HS.out HU.out (by omega)
          go_wp2_with fail
          refine (awakeG_any _).mono ?_
          rintro q4 w4 ⟨rfl, hb⟩
          have xa0 := kcb hb (b := w.heap.size) (o := 0) (v := .int .i64 a.s) (by first | assumption | (refine cellUp ?_; assumption) | go_cell)
          have xa1 := kcb hb (b := w.heap.size) (o := 1) (v := .int .i64 a.w) (by first | assumption | (refine cellUp ?_; assumption) | go_cell)
          have xb0 := kcb hb (b := w.heap.size + 1) (o := 0) (v := .int .i64 b.s) (by first | assumption | (refine cellUp ?_; assumption) | go_cell)
          have xb1 := kcb hb (b := w.heap.size + 1) (o := 1) (v := .int .i64 b.w) (by first | assumption | (refine cellUp ?_; assumption) | go_cell)
          have xl0 := kcb hb (b := w.heap.size + 1 + 1) (o := 0) (v := .int .i64 px) (by first | assumption | (refine cellUp ?_; assumption) | go_cell)
          have xl1 := kcb hb (b := w.heap.size + 1 + 1) (o := 1) (v := .int .i64 py) (by first | assumption | (refine cellUp ?_; assumption) | go_cell)
          have xl2 := kcb hb (b := w.heap.size + 1 + 1) (o := 2) (v := .int .i64 qx) (by first | assumption | (refine cellUp ?_; assumption) | go_cell)
          have xl3 := kcb hb (b := w.heap.size + 1 + 1) (o := 3) (v := .int .i64 qy) (by first | assumption | (refine cellUp ?_; assumption) | go_cell)
          have xr0 := kcb hb (b := w.heap.size + 1 + 1 + 1) (o := 0) (v := .int .i64 rx) (by first | assumption | (refine cellUp ?_; assumption) | go_cell)
          have xr1 := kcb hb (b := w.heap.size + 1 + 1 + 1) (o := 1) (v := .int .i64 ry) (by first | assumption | (refine cellUp ?_; assumption) | go_cell)
          have s0 := kcb hb (b := w1.heap.size) (o := 0) (v := .int .i64 s1) (by first | assumption | (refine cellUp ?_; assumption) | go_cell)
          have s1_ := kcb hb (b := w1.heap.size) (o := 1) (v := .int .i64 s2) (by first | assumption | (refine cellUp ?_; assumption) | go_cell)
          have t0 := kcb hb (b := w2.heap.size) (o := 0) (v := .int .i64 t1) (by first | assumption | (refine cellUp ?_; assumption) | go_cell)
          have t1_ := kcb hb (b := w2.heap.size) (o := 1) (v := .int .i64 t2) (by first | assumption | (refine cellUp ?_; assumption) | go_cell)
          have u0 := kcb hb (b := w3.heap.size) (o := 0) (v := .int .i64 u1) (by first | assumption | (refine cellUp ?_; assumption) | go_cell)
          have u1_ := kcb hb (b := w3.heap.size) (o := 1) (v := .int .i64 u2) (by first | assumption | (refine cellUp ?_; assumption) | go_cell)
          have B4 : Bl w w4 := Below.trans (by go_grown) (hb.mono (by (try simp only [World.size_alloc, World.size_setCell]); omega))
          have l4 := ltb u1_
          have l4_1 := ltb t1_
          have l4_2 := ltb s1_
          have l4_3 := ltb xr1
          have l4_4 := ltb xl3
          have l4_5 := ltb xb1
          have l4_6 := ltb xa1
          have zz4 := B4.size
          clear hb
          go_wp2_with fail
          go_ret
          exact ⟨rfl, by go_grown⟩
        · skip
          go_wp2_with fail
          refine (awakeG_any _).mono ?_
          rintro q4 w4 ⟨rfl, hb⟩
          have xa0 := kcb hb (b := w.heap.size) (o := 0) (v := .int .i64 a.s) (by first | assumption | (refine cellUp ?_; assumption) | go_cell)
          have xa1 := kcb hb (b := w.heap.size) (o := 1) (v := .int .i64 a.w) (by first | assumption | (refine cellUp ?_; assumption) | go_cell)
          have xb0 := kcb hb (b := w.heap.size + 1) (o := 0) (v := .int .i64 b.s) (by first | assumption | (refine cellUp ?_; assumption) | go_cell)
          have xb1 := kcb hb (b := w.heap.size + 1) (o := 1) (v := .int .i64 b.w) (by first | assumption | (refine cellUp ?_; assumption) | go_cell)
          have xl0 := kcb hb (b := w.heap.size + 1 + 1) (o := 0) (v := .int .i64 px) (by first | assumption | (refine cellUp ?_; assumption) | go_cell)
          have xl1 := kcb hb (b := w.heap.size + 1 + 1) (o := 1) (v := .int .i64 py) (by first | assumption | (refine cellUp ?_; assumption) | go_cell)
          have xl2 := kcb hb (b := w.heap.size + 1 + 1) (o := 2) (v := .int .i64 qx) (by first | assumption | (refine cellUp ?_; assumption) | go_cell)
          have xl3 := kcb hb (b := w.heap.size + 1 + 1) (o := 3) (v := .int .i64 qy) (by first | assumption | (refine cellUp ?_; assumption) | go_cell)
          have xr0 := kcb hb (b := w.heap.size + 1 + 1 + 1) (o := 0) (v := .int .i64 rx) (by first | assumption | (refine cellUp ?_; assumption) | go_cell)
          have xr1 := kcb hb (b := w.heap.size + 1 + 1 + 1) (o := 1) (v := .int .i64 ry) (by first | assumption | (refine cellUp ?_; assumption) | go_cell)
          have s0 := kcb hb (b := w1.heap.size) (o := 0) (v := .int .i64 s1) (by first | assumption | (refine cellUp ?_; assumption) | go_cell)
          have s1_ := kcb hb (b := w1.heap.size) (o := 1) (v := .int .i64 s2) (by first | assumption | (refine cellUp ?_; assumption) | go_cell)
          have t0 := kcb hb (b := w2.heap.size) (o := 0) (v := .int .i64 t1) (by first | assumption | (refine cellUp ?_; assumption) | go_cell)
          have t1_ := kcb hb (b := w2.heap.size) (o := 1) (v := .int .i64 t2) (by first | assumption | (refine cellUp ?_; assumption) | go_cell)
          have u0 := kcb hb (b := w3.heap.size) (o := 0) (v := .int .i64 u1) (by first | assumption | (refine cellUp ?_; assumption) | go_cell)
          have u1_ := kcb hb (b := w3.heap.size) (o := 1) (v := .int .i64 u2) (by first | assumption | (refine cellUp ?_; assumption) | go_cell)
          have B4 : Bl w w4 := Below.trans (by go_grown) (hb.mono (by (try simp only [World.size_alloc, World.size_setCell]); omega))
          have l4 := ltb u1_
          have l4_1 := ltb t1_
          have l4_2 := ltb s1_
          have l4_3 := ltb xr1
          have l4_4 := ltb xl3
          have l4_5 := ltb xb1
          have l4_6 := ltb xa1
          have zz4 := B4.size
          clear hb
          go_wp2_with fail
          go_ret
          exact ⟨rfl, by go_grown⟩
      · have g10 : ¬ a.w = b.w := by omega
        go_wp2_with fail
        refine (awakeG_any _).mono ?_
        rintro q4 w4 ⟨rfl, hb⟩
        have xa0 := kcb hb (b := w.heap.size) (o := 0) (v := .int .i64 a.s) (by first | assumption | (refine cellUp ?_; assumption) | go_cell)
        have xa1 := kcb hb (b := w.heap.size) (o := 1) (v := .int .i64 a.w) (by first | assumption | (refine cellUp ?_; assumption) | go_cell)
        have xb0 := kcb hb (b := w.heap.size + 1) (o := 0) (v := .int .i64 b.s) (by first | assumption | (refine cellUp ?_; assumption) | go_cell)
        have xb1 := kcb hb (b := w.heap.size + 1) (o := 1) (v := .int .i64 b.w) (by first | assumption | (refine cellUp ?_; assumption) | go_cell)
        have xl0 := kcb hb (b := w.heap.size + 1 + 1) (o := 0) (v := .int .i64 px) (by first | assumption | (refine cellUp ?_; assumption) | go_cell)
        have xl1 := kcb hb (b := w.heap.size + 1 + 1) (o := 1) (v := .int .i64 py) (by first | assumption | (refine cellUp ?_; assumption) | go_cell)
        have xl2 := kcb hb (b := w.heap.size + 1 + 1) (o := 2) (v := .int .i64 qx) (by first | assumption | (refine cellUp ?_; assumption) | go_cell)
        have xl3 := kcb hb (b := w.heap.size + 1 + 1) (o := 3) (v := .int .i64 qy) (by first | assumption | (refine cellUp ?_; assumption) | go_cell)
        have xr0 := kcb hb (b := w.heap.size + 1 + 1 + 1) (o := 0) (v := .int .i64 rx) (by first | assumption | (refine cellUp ?_; assumption) | go_cell)
        have xr1 := kcb hb (b := w.heap.size + 1 + 1 + 1) (o := 1) (v := .int .i64 ry) (by first | assumption | (refine cellUp ?_; assumption) | go_cell)
        have s0 := kcb hb (b := w1.heap.size) (o := 0) (v := .int .i64 s1) (by first | assumption | (refine cellUp ?_; assumption) | go_cell)
        have s1_ := kcb hb (b := w1.heap.size) (o := 1) (v := .int .i64 s2) (by first | assumption | (refine cellUp ?_; assumption) | go_cell)
        have t0 := kcb hb (b := w2.heap.size) (o := 0) (v := .int .i64 t1) (by first | assumption | (refine cellUp ?_; assumption) | go_cell)
        have t1_ := kcb hb (b := w2.heap.size) (o := 1) (v := .int .i64 t2) (by first | assumption | (refine cellUp ?_; assumption) | go_cell)
        have u0 := kcb hb (b := w3.heap.size) (o := 0) (v := .int .i64 u1) (by first | assumption | (refine cellUp ?_; assumption) | go_cell)
        have u1_ := kcb hb (b := w3.heap.size) (o := 1) (v := .int .i64 u2) (by first | assumption | (refine cellUp ?_; assumption) | go_cell)
        have B4 : Bl w w4 := Below.trans (by go_grown) (hb.mono (by (try simp only [World.size_alloc, World.size_setCell]); omega))
        have l4 := ltb u1_
        have l4_1 := ltb t1_
        have l4_2 := ltb s1_
        have l4_3 := ltb xr1
        have l4_4 := ltb xl3
        have l4_5 := ltb xb1
        have l4_6 := ltb xa1
        have zz4 := B4.size
        clear hb
        go_wp2_with fail
        go_ret
        exact ⟨rfl, by go_grown⟩
    · by_cases g7 : a.w = b.w
      · by_cases g8 : b.s < a.s
        · skip
          go_wp2_with fail
          refine (awakeG_any _).mono ?_
          rintro q4 w4 ⟨rfl, hb⟩
          have xa0 := kcb hb (b := w.heap.size) (o := 0) (v := .int .i64 a.s) (by first | assumption | (refine cellUp ?_; assumption) | go_cell)
          have xa1 := kcb hb (b := w.heap.size) (o := 1) (v := .int .i64 a.w) (by first | assumption | (refine cellUp ?_; assumption) | go_cell)
          have xb0 := kcb hb (b := w.heap.size + 1) (o := 0) (v := .int .i64 b.s) (by first | assumption | (refine cellUp ?_; assumption) | go_cell)
          have xb1 := kcb hb (b := w.heap.size + 1) (o := 1) (v := .int .i64 b.w) (by first | assumption | (refine cellUp ?_; assumption) | go_cell)
          have xl0 := kcb hb (b := w.heap.size + 1 + 1) (o := 0) (v := .int .i64 px) (by first | assumption | (refine cellUp ?_; assumption) | go_cell)
          have xl1 := kcb hb (b := w.heap.size + 1 + 1) (o := 1) (v := .int .i64 py) (by first | assumption | (refine cellUp ?_; assumption) | go_cell)
          have xl2 := kcb hb (b := w.heap.size + 1 + 1) (o := 2) (v := .int .i64 qx) (by first | assumption | (refine cellUp ?_; assumption) | go_cell)
          have xl3 := kcb hb (b := w.heap.size + 1 + 1) (o := 3) (v := .int .i64 qy) (by first | assumption | (refine cellUp ?_; assumption) | go_cell)
          have xr0 := kcb hb (b := w.heap.size + 1 + 1 + 1) (o := 0) (v := .int .i64 rx) (by first | assumption | (refine cellUp ?_; assumption) | go_cell)
          have xr1 := kcb hb (b := w.heap.size + 1 + 1 + 1) (o := 1) (v := .int .i64 ry) (by first | assumption | (refine cellUp ?_; assumption) | go_cell)
          have s0 := kcb hb (b := w1.heap.size) (o := 0) (v := .int .i64 s1) (by first | assumption | (refine cellUp ?_; assumption) | go_cell)
          have s1_ := kcb hb (b := w1.heap.size) (o := 1) (v := .int .i64 s2) (by first | assumption | (refine cellUp ?_; assumption) | go_cell)
          have t0 := kcb hb (b := w2.heap.size) (o := 0) (v := .int .i64 t1) (by first | assumption | (refine cellUp ?_; assumption) | go_cell)
          have t1_ := kcb hb (b := w2.heap.size) (o := 1) (v := .int .i64 t2) (by first | assumption | (refine cellUp ?_; assumption) | go_cell)
          have u0 := kcb hb (b := w3.heap.size) (o := 0) (v := .int .i64 u1) (by first | assumption | (refine cellUp ?_; assumption) | go_cell)
          have u1_ := kcb hb (b := w3.heap.size) (o := 1) (v := .int .i64 u2) (by first | assumption | (refine cellUp ?_; assumption) | go_cell)
          have B4 : Bl w w4 := Below.trans (by go_grown) (hb.mono (by (try simp only [World.size_alloc, World.size_setCell]); omega))
          have l4 := ltb u1_
          have l4_1 := ltb t1_
          have l4_2 := ltb s1_
          have l4_3 := ltb xr1
          have l4_4 := ltb xl3
          have l4_5 := ltb xb1
          have l4_6 := ltb xa1
          have zz4 := B4.size
          clear hb
          go_wp2_with fail
          go_ret
          exact ⟨rfl, by go_grown⟩
        · have g9 := far_lo HS.out HU.out (by omega)
          have g10 := far_hi HS.out HU.out (by omega)
          go_wp2_with fail
          refine (awakeG_any _).mono ?_
          rintro q4 w4 ⟨rfl, hb⟩
          have xa0 := kcb hb (b := w.heap.size) (o := 0) (v := .int .i64 a.s) (by first | assumption | (refine cellUp ?_; assumption) | go_cell)
          have xa1 := kcb hb (b := w.heap.size) (o := 1) (v := .int .i64 a.w) (by first | assumption | (refine cellUp ?_; assumption) | go_cell)
          have xb0 := kcb hb (b := w.heap.size + 1) (o := 0) (v := .int .i64 b.s) (by first | assumption | (refine cellUp ?_; assumption) | go_cell)
          have xb1 := kcb hb (b := w.heap.size + 1) (o := 1) (v := .int .i64 b.w) (by first | assumption | (refine cellUp ?_; assumption) | go_cell)
          have xl0 := kcb hb (b := w.heap.size + 1 + 1) (o := 0) (v := .int .i64 px) (by first | assumption | (refine cellUp ?_; assumption) | go_cell)
          have xl1 := kcb hb (b := w.heap.size + 1 + 1) (o := 1) (v := .int .i64 py) (by first | assumption | (refine cellUp ?_; assumption) | go_cell)
          have xl2 := kcb hb (b := w.heap.size + 1 + 1) (o := 2) (v := .int .i64 qx) (by first | assumption | (refine cellUp ?_; assumption) | go_cell)
          have xl3 := kcb hb (b := w.heap.size + 1 + 1) (o := 3) (v := .int .i64 qy) (by first | assumption | (refine cellUp ?_; assumption) | go_cell)
          have xr0 := kcb hb (b := w.heap.size + 1 + 1 + 1) (o := 0) (v := .int .i64 rx) (by first | assumption | (refine cellUp ?_; assumption) | go_cell)
          have xr1 := kcb hb (b := w.heap.size + 1 + 1 + 1) (o := 1) (v := .int .i64 ry) (by first | assumption | (refine cellUp ?_; assumption) | go_cell)
          have s0 := kcb hb (b := w1.heap.size) (o := 0) (v := .int .i64 s1) (by first | assumption | (refine cellUp ?_; assumption) | go_cell)
          have s1_ := kcb hb (b := w1.heap.size) (o := 1) (v := .int .i64 s2) (by first | assumption | (refine cellUp ?_; assumption) | go_cell)
          have t0 := kcb hb (b := w2.heap.size) (o := 0) (v := .int .i64 t1) (by first | assumption | (refine cellUp ?_; assumption) | go_cell)
          have t1_ := kcb hb (b := w2.heap.size) (o := 1) (v := .int .i64 t2) (by first | assumption | (refine cellUp ?_; assumption) | go_cell)
          have u0 := kcb hb (b := w3.heap.size) (o := 0) (v := .int .i64 u1) (by first | assumption | (refine cellUp ?_; assumption) | go_cell)
          have u1_ := kcb hb (b := w3.heap.size) (o := 1) (v := .int .i64 u2) (by first | assumption | (refine cellUp ?_; assumption) | go_cell)
          have B4 : Bl w w4 := Below.trans (by go_grown) (hb.mono (by (try simp only [World.size_alloc, World.size_setCell]); omega))
          have l4 := ltb u1_
          have l4_1 := ltb t1_
          have l4_2 := ltb s1_
          have l4_3 := ltb xr1
          have l4_4 := ltb xl3
          have l4_5 := ltb xb1
          have l4_6 := ltb xa1
          have zz4 := B4.size
          clear hb
          go_wp2_with fail
          go_ret
          exact ⟨rfl, by go_grown⟩
      · skip
        go_wp2_with fail
        refine (awakeG_any _).mono ?_
        rintro q4 w4 ⟨rfl, hb⟩
        have xa0 := kcb hb (b := w.heap.size) (o := 0) (v := .int .i64 a.s) (by first | assumption | (refine cellUp ?_; assumption) | go_cell)
        have xa1 := kcb hb (b := w.heap.size) (o := 1) (v := .int .i64 a.w) (by first | assumption | (refine cellUp ?_; assumption) | go_cell)
        have xb0 := kcb hb (b := w.heap.size + 1) (o := 0) (v := .int .i64 b.s) (by first | assumption | (refine cellUp ?_; assumption) | go_cell)
        have xb1 := kcb hb (b := w.heap.size + 1) (o := 1) (v := .int .i64 b.w) (by first | assumption | (refine cellUp ?_; assumption) | go_cell)
        have xl0 := kcb hb (b := w.heap.size + 1 + 1) (o := 0) (v := .int .i64 px) (by first | assumption | (refine cellUp ?_; assumption) | go_cell)
        have xl1 := kcb hb (b := w.heap.size + 1 + 1) (o := 1) (v := .int .i64 py) (by first | assumption | (refine cellUp ?_; assumption) | go_cell)
        have xl2 := kcb hb (b := w.heap.size + 1 + 1) (o := 2) (v := .int .i64 qx) (by first | assumption | (refine cellUp ?_; assumption) | go_cell)
        have xl3 := kcb hb (b := w.heap.size + 1 + 1) (o := 3) (v := .int .i64 qy) (by first | assumption | (refine cellUp ?_; assumption) | go_cell)
        have xr0 := kcb hb (b := w.heap.size + 1 + 1 + 1) (o := 0) (v := .int .i64 rx) (by first | assumption | (refine cellUp ?_; assumption) | go_cell)
        have xr1 := kcb hb (b := w.heap.size + 1 + 1 + 1) (o := 1) (v := .int .i64 ry) (by first | assumption | (refine cellUp ?_; assumption) | go_cell)
        have s0 := kcb hb (b := w1.heap.size) (o := 0) (v := .int .i64 s1) (by first | assumption | (refine cellUp ?_; assumption) | go_cell)
        have s1_ := kcb hb (b := w1.heap.size) (o := 1) (v := .int .i64 s2) (by first | assumption | (refine cellUp ?_; assumption) | go_cell)
        have t0 := kcb hb (b := w2.heap.size) (o := 0) (v := .int .i64 t1) (by first | assumption | (refine cellUp ?_; assumption) | go_cell)
        have t1_ := kcb hb (b := w2.heap.size) (o := 1) (v := .int .i64 t2) (by first | assumption | (refine cellUp ?_; assumption) | go_cell)
        have u0 := kcb hb (b := w3.heap.size) (o := 0) (v := .int .i64 u1) (by first | assumption | (refine cellUp ?_; assumption) | go_cell)
        have u1_ := kcb hb (b := w3.heap.size) (o := 1) (v := .int .i64 u2) (by first | assumption | (refine cellUp ?_; assumption) | go_cell)
        have B4 : Bl w w4 := Below.trans (by go_grown) (hb.mono (by (try simp only [World.size_alloc, World.size_setCell]); omega))
        have l4 := ltb u1_
        have l4_1 := ltb t1_
        have l4_2 := ltb s1_
        have l4_3 := ltb xr1
        have l4_4 := ltb xl3
        have l4_5 := ltb xb1
        have l4_6 := ltb xa1
        have zz4 := B4.size
        clear hb
        go_wp2_with fail
        go_ret
        exact ⟨rfl, by go_grown⟩
end Go.Proofs.Ytangijdonkkglaa
