/-
  Contracts of package gun and of its reference: places, distances, lags.
-/
import Derived.Test.YthemoomfbbccjaaGC
import Derived.Deep.RegionHeld3
import Derived.Test.YthemoomfbbccjaaD
namespace Go.Proofs.Ythemoomfbbccjaa
open Go.RowKit
set_option linter.unusedSimpArgs false
set_option linter.unusedVariables false

theorem Bl.dr (w : World) (n : Nat) : Bl w (w.drewN n) := ⟨rfl, rfl, rfl, Nat.le_refl _, fun _ _ => rfl⟩
def allP (T : Nat → Pt) (n : Nat) : Prop := ∀ j, j < n → isP (T j)
instance (T : Nat → Pt) (n : Nat) : Decidable (allP T n) := by unfold allP; infer_instance
def two (p q : Pt) (j : Nat) : Pt := if j = 0 then p else q
def three (p q r : Pt) (j : Nat) : Pt := if j = 0 then p else if j = 1 then q else r
theorem allP_two {p q : Pt} : allP (two p q) 2 ↔ isP p ∧ isP q := by
  constructor
  · intro h; exact ⟨h 0 (by omega), h 1 (by omega)⟩
  · rintro ⟨a, b⟩ j hj
    rcases (show j = 0 ∨ j = 1 by omega) with rfl | rfl
    · exact a
    · exact b
theorem allP_one {p : Pt} : allP (fun _ => p) 1 ↔ isP p := ⟨fun h => h 0 (by omega), fun h _ _ => h⟩
theorem allP_three {p q r : Pt} : allP (three p q r) 3 ↔ isP p ∧ isP q ∧ isP r := by
  constructor
  · intro h; exact ⟨h 0 (by omega), h 1 (by omega), h 2 (by omega)⟩
  · rintro ⟨a, b, c⟩ j hj
    rcases (show j = 0 ∨ j = 1 ∨ j = 2 by omega) with rfl | rfl | rfl
    · exact a
    · exact b
    · exact c
theorem pl_one {w : World} {b : Nat} {p : Pt} (c0 : w.cell? ⟨b, 0, none⟩ = some (.int .i64 p.x)) (c1 : w.cell? ⟨b, 1, none⟩ = some (.int .i64 p.y)) : Pl w (some ⟨b, 0, none⟩) 1 (fun _ => p) := fun _ =>
  ⟨b, 0, rfl, ltb c0, fun j hj => by
    obtain rfl : j = 0 := by omega
    exact ⟨c0, c1⟩⟩
theorem pl_two {w : World} {b : Nat} {p q : Pt} (c0 : w.cell? ⟨b, 0, none⟩ = some (.int .i64 p.x)) (c1 : w.cell? ⟨b, 1, none⟩ = some (.int .i64 p.y)) (c2 : w.cell? ⟨b, 2, none⟩ = some (.int .i64 q.x)) (c3 : w.cell? ⟨b, 3, none⟩ = some (.int .i64 q.y)) : Pl w (some ⟨b, 0, none⟩) 2 (two p q) := fun _ =>
  ⟨b, 0, rfl, ltb c0, fun j hj => by
    rcases (show j = 0 ∨ j = 1 by omega) with rfl | rfl
    · exact ⟨c0, c1⟩
    · exact ⟨c2, c3⟩⟩
theorem pl_three {w : World} {b : Nat} {p q r : Pt} (c0 : w.cell? ⟨b, 0, none⟩ = some (.int .i64 p.x)) (c1 : w.cell? ⟨b, 1, none⟩ = some (.int .i64 p.y)) (c2 : w.cell? ⟨b, 2, none⟩ = some (.int .i64 q.x)) (c3 : w.cell? ⟨b, 3, none⟩ = some (.int .i64 q.y)) (c4 : w.cell? ⟨b, 4, none⟩ = some (.int .i64 r.x)) (c5 : w.cell? ⟨b, 5, none⟩ = some (.int .i64 r.y)) : Pl w (some ⟨b, 0, none⟩) 3 (three p q r) := fun _ =>
  ⟨b, 0, rfl, ltb c0, fun j hj => by
    rcases (show j = 0 ∨ j = 1 ∨ j = 2 by omega) with rfl | rfl | rfl
    · exact ⟨c0, c1⟩
    · exact ⟨c2, c3⟩
    · exact ⟨c4, c5⟩⟩

set_option maxRecDepth 100000 in
set_option maxHeartbeats 1600000 in
theorem arePl_any (A : Option Addr) (n c : Nat) (T : Nat → Pt) (w : World) (hA : Pl w A n T) (hn : n ≤ maxLen) :
    Calls Try.prog 34 #[.slice A n c] w fun e w' => e = .returned (.bool (decide (allP T n))) ∧ Bl w w' := by
  have HA := Lib.hid hA
  clear hA
  unfold maxLen at hn
  go_enter Try.func34, Try.ntmps34
  go_wp2_with fail
  go_loopw [7] (fun i wr => ∃ k : Nat, k ≤ n ∧ i = .int .i64 k ∧ Hid (∀ j, j < k → isP (T j)) ∧ Bl w wr) (fun i _ => n - (RowKit.intOf i).toNat)
  case atStart => exact ⟨0, Nat.zero_le _, rfl, fun j hj => absurd hj (by omega), Bl.rf _⟩
  case round =>
    obtain ⟨k, hk, rfl, HR, hB⟩ := hrel
    have zB := hB.size
    by_cases hlt : k < n
    · obtain ⟨b, off, rfl, hbb, hc⟩ := (HA.out.below hB) (by omega)
      obtain ⟨c0, c1⟩ := hc k hlt
      clear hc
      obtain ⟨y, hy⟩ : ∃ y, y = T k := ⟨_, rfl⟩
      rw [← hy] at c0 c1
      by_cases q : isP y
      · have HI := Lib.hid (show ∀ j, j < k + 1 → isP (T j) from fun j hj => by
          by_cases e : j = k
          · rw [e, ← hy]; exact q
          · exact HR.out j (by omega))
        have Q1 := Lib.hid (show decide (isC y.x) = true from decide_eq_true q.1)
        have Q2 := Lib.hid (show decide (isC y.y) = true from decide_eq_true q.2)
        clear hy q
        go_wp2_with fail
        refine (isC_any y.x _).mono ?_
        rintro r w9 ⟨rfl, rfl⟩
        rw [Q1.out]
        go_wp2_with fail
        refine (isC_any y.y _).mono ?_
        rintro r w9 ⟨rfl, rfl⟩
        rw [Q2.out]
        go_wp2_with fail
        go_roundw
        case rel => exact ⟨k + 1, by omega, by go_num, HI.out, by go_grown⟩
        case measure => simp [RowKit.intOf]; omega
      · have HI := Lib.hid (show decide (allP T n) = false from decide_eq_false fun h => q (by rw [hy]; exact h k hlt))
        by_cases q1 : isC y.x
        · have Q1 := Lib.hid (show decide (isC y.x) = true from decide_eq_true q1)
          have Q2 := Lib.hid (show decide (isC y.y) = false from decide_eq_false fun h => q ⟨q1, h⟩)
          clear hy q q1
          go_wp2_with fail
          refine (isC_any y.x _).mono ?_
          rintro r w9 ⟨rfl, rfl⟩
          rw [Q1.out]
          go_wp2_with fail
          refine (isC_any y.y _).mono ?_
          rintro r w9 ⟨rfl, rfl⟩
          rw [Q2.out]
          go_wp2_with fail
          go_ret
          exact ⟨ret_bool (by rw [HI.out]), by go_grown⟩
        · have Q1 := Lib.hid (show decide (isC y.x) = false from decide_eq_false q1)
          clear hy q q1
          go_wp2_with fail
          refine (isC_any y.x _).mono ?_
          rintro r w9 ⟨rfl, rfl⟩
          rw [Q1.out]
          go_wp2_with fail
          go_ret
          exact ⟨ret_bool (by rw [HI.out]), by go_grown⟩
    · obtain rfl : n = k := by omega
      have HI := Lib.hid (show decide (allP T n) = true from decide_eq_true HR.out)
      go_wp2_with fail
      go_ret
      exact ⟨ret_bool (by rw [HI.out]), hB⟩

theorem sqd_parts {p q : Pt} (hp : isP p) (hq : isP q) : ∃ dx dy sx sy : Int, p.x - q.x = dx ∧ p.y - q.y = dy ∧ dx * dx = sx ∧ dy * dy = sy ∧ sx + sy = sqd p q ∧ -100000 ≤ dx ∧ dx ≤ 100000 ∧ -100000 ≤ dy ∧ dy ≤ 100000 ∧ 0 ≤ sx ∧ sx ≤ 10000000000 ∧ 0 ≤ sy ∧ sy ≤ 10000000000 := by
  obtain ⟨⟨a1, a2⟩, a3, a4⟩ := hp
  obtain ⟨⟨b1, b2⟩, b3, b4⟩ := hq
  have h1 := sq_nonneg (p.x - q.x)
  have h2 := sq_nonneg (p.y - q.y)
  have h3 := sq_abs (a := p.x - q.x) (b := 100000) (by omega) (by omega)
  have h4 := sq_abs (a := p.y - q.y) (b := 100000) (by omega) (by omega)
  exact ⟨_, _, _, _, rfl, rfl, rfl, rfl, rfl, by omega, by omega, by omega, by omega, h1, by omega, h2, by omega⟩

set_option maxRecDepth 100000 in
set_option maxHeartbeats 1600000 in
theorem squared_any (p q : Pt) (w : World) (hp : isP p) (hq : isP q) :
    Calls Try.prog 58 #[encP p, encP q] w fun e w' => e = .returned (.int .i64 (sqd p q)) ∧ Bl w w' := by
  obtain ⟨dx, dy, sx, sy, ex, ey, fx, fy, es, d1, d2, d3, d4, s1, s2, s3, s4⟩ := sqd_parts hp hq
  obtain ⟨⟨a1, a2⟩, a3, a4⟩ := hp
  obtain ⟨⟨b1, b2⟩, b3, b4⟩ := hq
  have HE := Lib.hid es
  clear es
  go_enter Try.func58, Try.ntmps58
  go_wp2_with fail
  try (go_quiet (fail); go_wp2_with fail)
  go_ret
  exact ⟨ret_int HE.out, by first | exact Bl.tr (by go_grown) (Bl.dr _ _) | go_grown⟩

set_option maxRecDepth 100000 in
set_option maxHeartbeats 1600000 in
theorem square5_any (p q : Pt) (w : World) (hp : isP p) (hq : isP q) :
    Calls Try.prog 31 #[encP p, encP q] w fun e w' => e = .returned (.int .i64 (sqd p q)) ∧ Bl w w' := by
  obtain ⟨dx, dy, sx, sy, ex, ey, fx, fy, es, d1, d2, d3, d4, s1, s2, s3, s4⟩ := sqd_parts hp hq
  obtain ⟨⟨a1, a2⟩, a3, a4⟩ := hp
  obtain ⟨⟨b1, b2⟩, b3, b4⟩ := hq
  have HE := Lib.hid es
  clear es
  go_enter Try.func31, Try.ntmps31
  go_wp2_with fail
  try (go_quiet (fail); go_wp2_with fail)
  go_ret
  exact ⟨ret_int HE.out, by first | exact Bl.tr (by go_grown) (Bl.dr _ _) | go_grown⟩

set_option maxRecDepth 100000 in
set_option maxHeartbeats 1600000 in
theorem distG_any (p q' : Pt) (w : World) (hp : isP p) (hq : isP q') :
    Calls Try.prog 50 #[encP p, encP q'] w fun e w' => e = .returned (r2 (rt (sqd p q' * 1000000), rtU (sqd p q' * 1000000))) ∧ Bl w w' := by
  obtain ⟨b1, b2⟩ := sqd_bd hp hq
  have HP := Lib.hid hp
  have HQ := Lib.hid hq
  clear hp hq
  have r0 := rt_nonneg (sqd p q' * 1000000)
  have r1 := rt_le (n := sqd p q' * 1000000) (b := 142000000) (by omega) (by omega)
  have rs := rt_sq (n := sqd p q' * 1000000) (by omega)
  have sb := sq_le r0 r1
  obtain ⟨s, hs⟩ : ∃ s, s = sqd p q' := ⟨_, rfl⟩
  rw [← hs] at b1 b2 r0 r1 rs sb ⊢
  obtain ⟨r, hr⟩ : ∃ r, r = rt (s * 1000000) := ⟨_, rfl⟩
  have hU : rtU (s * 1000000) = if r * r = s * 1000000 then r else r + 1 := by rw [hr]; rfl
  rw [← hr] at r0 r1 rs sb ⊢
  obtain ⟨t, ht⟩ : ∃ t, r * r = t := ⟨_, rfl⟩
  have tn := sq_nonneg r
  rw [ht] at tn sb hU
  obtain ⟨rs, _⟩ := rs
  rw [ht] at rs
  have HS := Lib.hid hs
  have HR := Lib.hid hr
  clear hs hr
  have em : s * 1000 * 1000 = s * 1000000 := by omega
  by_cases q : t = s * 1000000
  · rw [hU, if_pos q]
    go_enter Try.func50, Try.ntmps50
    go_wp2_with fail
    refine (squared_any p q' _ HP.out HQ.out).mono ?_
    rintro e1 w1 ⟨rfl, hb⟩
    have B1 : Bl w w1 := Below.trans (by go_grown) (hb.mono (by (try simp only [World.size_alloc, World.size_setCell]); omega))
    have z1 := B1.size
    clear hb
    rw [← HS.out]
    go_wp2_with fail
    (try rw [em])
    refine (rootG_any (s * 1000000) _ (by omega) (by omega)).mono ?_
    rintro e2 w2 ⟨rfl, hb⟩
    have B2 : Bl w w2 := B1.tr hb
    have z2 := B2.size
    clear hb
    rw [← HR.out]
    go_wp2_with fail
    go_ret2
    exact ⟨rfl, B2⟩
  · rw [hU, if_neg q]
    go_enter Try.func50, Try.ntmps50
    go_wp2_with fail
    refine (squared_any p q' _ HP.out HQ.out).mono ?_
    rintro e1 w1 ⟨rfl, hb⟩
    have B1 : Bl w w1 := Below.trans (by go_grown) (hb.mono (by (try simp only [World.size_alloc, World.size_setCell]); omega))
    have z1 := B1.size
    clear hb
    rw [← HS.out]
    go_wp2_with fail
    (try rw [em])
    refine (rootG_any (s * 1000000) _ (by omega) (by omega)).mono ?_
    rintro e2 w2 ⟨rfl, hb⟩
    have B2 : Bl w w2 := B1.tr hb
    have z2 := B2.size
    clear hb
    rw [← HR.out]
    go_wp2_with fail
    go_ret2
    exact ⟨rfl, B2⟩

set_option maxRecDepth 100000 in
set_option maxHeartbeats 1600000 in
theorem rdistG_any (p q' : Pt) (w : World) (hp : isP p) (hq : isP q') :
    Calls Try.prog 47 #[encP p, encP q'] w fun e w' => e = .returned (r2 (rt (sqd p q' * 1000000), rtU (sqd p q' * 1000000))) ∧ Bl w w' := by
  obtain ⟨b1, b2⟩ := sqd_bd hp hq
  have HP := Lib.hid hp
  have HQ := Lib.hid hq
  clear hp hq
  have r0 := rt_nonneg (sqd p q' * 1000000)
  have r1 := rt_le (n := sqd p q' * 1000000) (b := 142000000) (by omega) (by omega)
  have rs := rt_sq (n := sqd p q' * 1000000) (by omega)
  have sb := sq_le r0 r1
  obtain ⟨s, hs⟩ : ∃ s, s = sqd p q' := ⟨_, rfl⟩
  rw [← hs] at b1 b2 r0 r1 rs sb ⊢
  obtain ⟨r, hr⟩ : ∃ r, r = rt (s * 1000000) := ⟨_, rfl⟩
  have hU : rtU (s * 1000000) = if r * r = s * 1000000 then r else r + 1 := by rw [hr]; rfl
  rw [← hr] at r0 r1 rs sb ⊢
  obtain ⟨t, ht⟩ : ∃ t, r * r = t := ⟨_, rfl⟩
  have tn := sq_nonneg r
  rw [ht] at tn sb hU
  obtain ⟨rs, _⟩ := rs
  rw [ht] at rs
  have HS := Lib.hid hs
  have HR := Lib.hid hr
  clear hs hr
  have em : s * 1000 * 1000 = s * 1000000 := by omega
  by_cases q : t = s * 1000000
  · rw [hU, if_pos q]
    go_enter Try.func47, Try.ntmps47
    go_wp2_with fail
    refine (square5_any p q' _ HP.out HQ.out).mono ?_
    rintro e1 w1 ⟨rfl, hb⟩
    have B1 : Bl w w1 := Below.trans (by go_grown) (hb.mono (by (try simp only [World.size_alloc, World.size_setCell]); omega))
    have z1 := B1.size
    clear hb
    rw [← HS.out]
    go_wp2_with fail
    (try rw [em])
    refine (rrootG_any (s * 1000000) _ (by omega) (by omega)).mono ?_
    rintro e2 w2 ⟨rfl, hb⟩
    have B2 : Bl w w2 := B1.tr hb
    have z2 := B2.size
    clear hb
    rw [← HR.out]
    go_wp2_with fail
    go_ret2
    exact ⟨rfl, B2⟩
  · rw [hU, if_neg q]
    go_enter Try.func47, Try.ntmps47
    go_wp2_with fail
    refine (square5_any p q' _ HP.out HQ.out).mono ?_
    rintro e1 w1 ⟨rfl, hb⟩
    have B1 : Bl w w1 := Below.trans (by go_grown) (hb.mono (by (try simp only [World.size_alloc, World.size_setCell]); omega))
    have z1 := B1.size
    clear hb
    rw [← HS.out]
    go_wp2_with fail
    (try rw [em])
    refine (rrootG_any (s * 1000000) _ (by omega) (by omega)).mono ?_
    rintro e2 w2 ⟨rfl, hb⟩
    have B2 : Bl w w2 := B1.tr hb
    have z2 := B2.size
    clear hb
    rw [← HR.out]
    go_wp2_with fail
    go_ret2
    exact ⟨rfl, B2⟩
end Go.Proofs.Ythemoomfbbccjaa
