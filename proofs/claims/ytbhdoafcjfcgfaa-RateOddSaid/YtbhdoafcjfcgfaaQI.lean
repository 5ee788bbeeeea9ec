/-
  Contracts of package rate and of its reference: Arc and Days.
-/
import Derived.Test.YtbhdoafcjfcgfaaRK
namespace Go.Proofs.Ytbhdoafcjfcgfaa
open Go.RowKit
set_option linter.unusedSimpArgs false
set_option linter.unusedVariables false

def arc3 (a b e : Int) : Value := .tuple #[.int .i64 a, .int .i64 b, .int .i64 e]
/-- What Arc returns. -/
def arcR (m : Int) : Value := if -1000000000000 ≤ m ∧ m ≤ 1000000000000 then arc3 ((15 * (m.natAbs : Int)) / 1000) ((15 * (m.natAbs : Int)) % 1000) 0 else arc3 0 0 7
theorem arcR_ok {m : Int} (h : -1000000000000 ≤ m ∧ m ≤ 1000000000000) : arcR m = arc3 ((15 * (m.natAbs : Int)) / 1000) ((15 * (m.natAbs : Int)) % 1000) 0 := if_pos h
theorem arcR_no {m : Int} (h : ¬ (-1000000000000 ≤ m ∧ m ≤ 1000000000000)) : arcR m = arc3 0 0 7 := if_neg h

set_option maxHeartbeats 800000 in
theorem arcs_any (m : Int) (w : World) : Calls Try.prog 32 #[.int .i64 m] w fun e w' => e = .returned (arcR m) ∧ w = w' := by
  by_cases h : -1000000000000 ≤ m ∧ m ≤ 1000000000000
  · have HR := Lib.hid (arcR_ok h)
    have HB := Lib.hid (inB_iff.2 h)
    obtain ⟨q, hq⟩ : ∃ q : Int, q = (m.natAbs : Int) := ⟨_, rfl⟩
    have hq0 : 0 ≤ q ∧ q ≤ 1000000000000 := by omega
    have HQ := Lib.hid hq
    have e1 : (15 * q).tdiv 1000 = 15 * q / 1000 := Int.tdiv_eq_ediv_of_nonneg (by omega)
    have e2 : (15 * q).tmod 1000 = 15 * q % 1000 := Int.tmod_eq_emod_of_nonneg (by omega)
    obtain ⟨h1, h2⟩ := h
    clear hq
    go_enter Try.func32, Try.ntmps32
    go_wp2_with fail
    refine (withinR_any m 1000000000000 _ (by omega) (by omega)).mono ?_
    rintro e' w1 ⟨rfl, rfl⟩
    rw [HB.out]
    go_wp2_with fail
    refine (sizeR_any m _ (by omega) (by omega)).mono ?_
    rintro e' w1 ⟨rfl, rfl⟩
    rw [← HQ.out]
    go_wp2_with fail
    refine bodyPost_ret (v := arcR m) ?_ rfl ⟨rfl, rfl⟩
    rw [HR.out, ← HQ.out]
    simp [results, Try.results32, go_sem, arc3, e1, e2]
  · have HR := Lib.hid (arcR_no h)
    have HB := Lib.hid (inB_no.2 h)
    go_enter Try.func32, Try.ntmps32
    go_wp2_with fail
    refine (withinR_any m 1000000000000 _ (by omega) (by omega)).mono ?_
    rintro e' w1 ⟨rfl, rfl⟩
    rw [HB.out]
    go_wp2_with fail
    refine bodyPost_ret (v := arcR m) ?_ rfl ⟨rfl, rfl⟩
    rw [HR.out]
    simp [results, Try.results32, go_sem, arc3]
set_option maxHeartbeats 800000 in
theorem rarcs_any (m : Int) (w : World) : Calls Try.prog 33 #[.int .i64 m] w fun e w' => e = .returned (arcR m) ∧ w = w' := by
  by_cases h : -1000000000000 ≤ m ∧ m ≤ 1000000000000
  · have HR := Lib.hid (arcR_ok h)
    obtain ⟨q, hq⟩ : ∃ q : Int, q = (m.natAbs : Int) := ⟨_, rfl⟩
    have hq0 : 0 ≤ q ∧ q ≤ 1000000000000 := by omega
    have HQ := Lib.hid hq
    have e1 : (15 * q).tdiv 1000 = 15 * q / 1000 := Int.tdiv_eq_ediv_of_nonneg (by omega)
    have e2 : (15 * q).tmod 1000 = 15 * q % 1000 := Int.tmod_eq_emod_of_nonneg (by omega)
    obtain ⟨h1, h2⟩ := h
    clear hq
    go_enter Try.func33, Try.ntmps33
    go_wp2_with fail
    refine (absR_any m _ (by omega) (by omega)).mono ?_
    rintro e' w1 ⟨rfl, rfl⟩
    rw [← HQ.out]
    go_wp2_with fail
    refine bodyPost_ret (v := arcR m) ?_ rfl ⟨rfl, rfl⟩
    rw [HR.out, ← HQ.out]
    simp [results, Try.results33, go_sem, arc3, e1, e2]
  · have HR := Lib.hid (arcR_no h)
    by_cases h1 : m < -1000000000000
    · go_enter Try.func33, Try.ntmps33
      go_wp2_with fail
      refine bodyPost_ret (v := arcR m) ?_ rfl ⟨rfl, rfl⟩
      rw [HR.out]
      simp [results, Try.results33, go_sem, arc3]
    · have h2 : 1000000000000 < m := by omega
      clear h
      go_enter Try.func33, Try.ntmps33
      go_wp2_with fail
      refine bodyPost_ret (v := arcR m) ?_ rfl ⟨rfl, rfl⟩
      rw [HR.out]
      simp [results, Try.results33, go_sem, arc3]

/-- What Days returns. -/
def dyR (lo hi most : Int) : Int × Int :=
  if ¬ (lo ≤ hi ∧ -1000000000000 ≤ lo ∧ hi ≤ 1000000000000) then (0, 1)
  else if lo < -1000000 ∨ 1000000 < hi ∨ most < 0 ∨ 1000000000 < most then (0, 7)
  else if (hi - lo) * 400 ≤ most then (0, 8) else (most / (hi - lo) + 1, 0)
theorem dyR_bad {lo hi most : Int} (h : ¬ (lo ≤ hi ∧ -1000000000000 ≤ lo ∧ hi ≤ 1000000000000)) : dyR lo hi most = (0, 1) := if_pos h
theorem dyR_rng {lo hi most : Int} (h : lo ≤ hi ∧ -1000000000000 ≤ lo ∧ hi ≤ 1000000000000) (h2 : lo < -1000000 ∨ 1000000 < hi ∨ most < 0 ∨ 1000000000 < most) : dyR lo hi most = (0, 7) := by rw [dyR, if_neg (fun q => q h), if_pos h2]
theorem dyR_non {lo hi most : Int} (h : lo ≤ hi ∧ -1000000 ≤ lo ∧ hi ≤ 1000000) (h2 : 0 ≤ most ∧ most ≤ 1000000000) (h3 : (hi - lo) * 400 ≤ most) : dyR lo hi most = (0, 8) := by
  rw [dyR, if_neg (fun q => q (by omega)), if_neg (by omega), if_pos h3]
theorem dyR_ok {lo hi most : Int} (h : lo ≤ hi ∧ -1000000 ≤ lo ∧ hi ≤ 1000000) (h2 : 0 ≤ most ∧ most ≤ 1000000000) (h3 : ¬ (hi - lo) * 400 ≤ most) : dyR lo hi most = (most / (hi - lo) + 1, 0) := by
  rw [dyR, if_neg (fun q => q (by omega)), if_neg (by omega), if_neg h3]
/-- The first number of days that is too many. -/
theorem dy_first {d most : Int} {k : Nat} (hd : 0 ≤ d) (hm : 0 ≤ most) (h1 : most < (k : Int) * d) (h0 : k = 0 ∨ ((k : Int) - 1) * d ≤ most) : most / d + 1 = (k : Int) ∧ 0 < d := by
  have hd' : 0 < d := by
    rcases Int.lt_or_eq_of_le hd with h | h
    · exact h
    · rw [← h, Int.mul_zero] at h1; omega
  refine ⟨?_, hd'⟩
  rcases h0 with rfl | h0
  · rw [Int.natCast_zero, Int.zero_mul] at h1; omega
  · have e : most / d = (k : Int) - 1 := by
      refine Int.le_antisymm ?_ ((Int.le_ediv_iff_mul_le hd').2 h0)
      have : most / d < (k : Int) := (Int.ediv_lt_iff_lt_mul hd').2 h1
      omega
    omega
set_option maxHeartbeats 3200000 in
theorem daysR_any (lo hi most : Int) (w : World) : Calls Try.prog 34 #[.agg #[.int .i64 lo, .int .i64 hi], .int .i64 most] w fun e w' => e = .returned (.tuple #[.int .i64 (dyR lo hi most).1, .int .i64 (dyR lo hi most).2]) ∧ Bl w w' := by
  by_cases hv : lo ≤ hi ∧ -1000000000000 ≤ lo ∧ hi ≤ 1000000000000
  rotate_left
  · have HR := Lib.hid (dyR_bad (most := most) hv)
    have HV := Lib.hid (show vS lo hi = false by cases h : vS lo hi with | false => rfl | true => exact absurd (by simp [vS] at h; omega) hv)
    clear hv
    go_enter Try.func34, Try.ntmps34
    go_wp2_with fail
    refine (validSpan_any lo hi _).mono ?_
    rintro e' w1 ⟨rfl, hb⟩
    have r0 := kcb hb (b := w.heap.size) (o := 0) (v := .int .i64 lo) (by go_cell)
    have r1 := kcb hb (b := w.heap.size) (o := 1) (v := .int .i64 hi) (by go_cell)
    have B1 : Bl w w1 := Below.trans (by go_grown) (hb.mono (by (try simp only [World.size_alloc]); omega))
    have l1 := ltb r0
    clear hb
    rw [HV.out]
    go_wp2_with fail
    refine bodyPost_ret (v := .tuple #[.int .i64 (dyR lo hi most).1, .int .i64 (dyR lo hi most).2]) ?_ rfl ⟨rfl, B1⟩
    rw [HR.out]
    simp [results, Try.results34, go_sem]
  have HV := Lib.hid (show vS lo hi = true by simp [vS]; omega)
  by_cases hl : -1000000 ≤ lo ∧ lo ≤ 1000000
  rotate_left
  · have HR := Lib.hid (dyR_rng (most := most) hv (by omega))
    have HL := Lib.hid (inB_no.2 hl)
    clear hv hl
    go_enter Try.func34, Try.ntmps34
    go_wp2_with fail
    refine (validSpan_any lo hi _).mono ?_
    rintro e' w1 ⟨rfl, hb⟩
    have r0 := kcb hb (b := w.heap.size) (o := 0) (v := .int .i64 lo) (by go_cell)
    have r1 := kcb hb (b := w.heap.size) (o := 1) (v := .int .i64 hi) (by go_cell)
    have B1 : Bl w w1 := Below.trans (by go_grown) (hb.mono (by (try simp only [World.size_alloc]); omega))
    have l1 := ltb r0
    clear hb
    rw [HV.out]
    go_wp2_with fail
    refine (withinR_any lo 1000000 _ (by omega) (by omega)).mono ?_
    rintro e' w2 ⟨rfl, rfl⟩
    rw [HL.out]
    go_wp2_with fail
    refine bodyPost_ret (v := .tuple #[.int .i64 (dyR lo hi most).1, .int .i64 (dyR lo hi most).2]) ?_ rfl ⟨rfl, B1⟩
    rw [HR.out]
    simp [results, Try.results34, go_sem]
  have HL := Lib.hid (inB_iff.2 hl)
  by_cases hh : -1000000 ≤ hi ∧ hi ≤ 1000000
  rotate_left
  · have HR := Lib.hid (dyR_rng (most := most) hv (by omega))
    have HH := Lib.hid (inB_no.2 hh)
    clear hv hl hh
    go_enter Try.func34, Try.ntmps34
    go_wp2_with fail
    refine (validSpan_any lo hi _).mono ?_
    rintro e' w1 ⟨rfl, hb⟩
    have r0 := kcb hb (b := w.heap.size) (o := 0) (v := .int .i64 lo) (by go_cell)
    have r1 := kcb hb (b := w.heap.size) (o := 1) (v := .int .i64 hi) (by go_cell)
    have B1 : Bl w w1 := Below.trans (by go_grown) (hb.mono (by (try simp only [World.size_alloc]); omega))
    have l1 := ltb r0
    clear hb
    rw [HV.out]
    go_wp2_with fail
    refine (withinR_any lo 1000000 _ (by omega) (by omega)).mono ?_
    rintro e' w2 ⟨rfl, rfl⟩
    rw [HL.out]
    go_wp2_with fail
    refine (withinR_any hi 1000000 _ (by omega) (by omega)).mono ?_
    rintro e' w2 ⟨rfl, rfl⟩
    rw [HH.out]
    go_wp2_with fail
    refine bodyPost_ret (v := .tuple #[.int .i64 (dyR lo hi most).1, .int .i64 (dyR lo hi most).2]) ?_ rfl ⟨rfl, B1⟩
    rw [HR.out]
    simp [results, Try.results34, go_sem]
  have HH := Lib.hid (inB_iff.2 hh)
  by_cases m0 : most < 0
  · have HR := Lib.hid (dyR_rng (most := most) hv (by omega))
    clear hv hl hh
    go_enter Try.func34, Try.ntmps34
    go_wp2_with fail
    refine (validSpan_any lo hi _).mono ?_
    rintro e' w1 ⟨rfl, hb⟩
    have r0 := kcb hb (b := w.heap.size) (o := 0) (v := .int .i64 lo) (by go_cell)
    have r1 := kcb hb (b := w.heap.size) (o := 1) (v := .int .i64 hi) (by go_cell)
    have B1 : Bl w w1 := Below.trans (by go_grown) (hb.mono (by (try simp only [World.size_alloc]); omega))
    have l1 := ltb r0
    clear hb
    rw [HV.out]
    go_wp2_with fail
    refine (withinR_any lo 1000000 _ (by omega) (by omega)).mono ?_
    rintro e' w2 ⟨rfl, rfl⟩
    rw [HL.out]
    go_wp2_with fail
    refine (withinR_any hi 1000000 _ (by omega) (by omega)).mono ?_
    rintro e' w2 ⟨rfl, rfl⟩
    rw [HH.out]
    go_wp2_with fail
    refine bodyPost_ret (v := .tuple #[.int .i64 (dyR lo hi most).1, .int .i64 (dyR lo hi most).2]) ?_ rfl ⟨rfl, B1⟩
    rw [HR.out]
    simp [results, Try.results34, go_sem]
  by_cases m1 : 1000000000 < most
  · have HR := Lib.hid (dyR_rng (most := most) hv (by omega))
    clear hv hl hh
    go_enter Try.func34, Try.ntmps34
    go_wp2_with fail
    refine (validSpan_any lo hi _).mono ?_
    rintro e' w1 ⟨rfl, hb⟩
    have r0 := kcb hb (b := w.heap.size) (o := 0) (v := .int .i64 lo) (by go_cell)
    have r1 := kcb hb (b := w.heap.size) (o := 1) (v := .int .i64 hi) (by go_cell)
    have B1 : Bl w w1 := Below.trans (by go_grown) (hb.mono (by (try simp only [World.size_alloc]); omega))
    have l1 := ltb r0
    clear hb
    rw [HV.out]
    go_wp2_with fail
    refine (withinR_any lo 1000000 _ (by omega) (by omega)).mono ?_
    rintro e' w2 ⟨rfl, rfl⟩
    rw [HL.out]
    go_wp2_with fail
    refine (withinR_any hi 1000000 _ (by omega) (by omega)).mono ?_
    rintro e' w2 ⟨rfl, rfl⟩
    rw [HH.out]
    go_wp2_with fail
    refine bodyPost_ret (v := .tuple #[.int .i64 (dyR lo hi most).1, .int .i64 (dyR lo hi most).2]) ?_ rfl ⟨rfl, B1⟩
    rw [HR.out]
    simp [results, Try.results34, go_sem]
  obtain ⟨l0, l2⟩ := hl
  obtain ⟨k0, k2⟩ := hh
  have hle := hv.1
  clear hv
  have m0' : 0 ≤ most := by omega
  have m1' : most ≤ 1000000000 := by omega
  clear m0 m1
  by_cases hw : (hi - lo) * 400 ≤ most
  · have HR := Lib.hid (dyR_non (most := most) ⟨hle, l0, k2⟩ ⟨m0', m1'⟩ hw)
    go_enter Try.func34, Try.ntmps34
    go_wp2_with fail
    refine (validSpan_any lo hi _).mono ?_
    rintro e' w1 ⟨rfl, hb⟩
    have r0 := kcb hb (b := w.heap.size) (o := 0) (v := .int .i64 lo) (by go_cell)
    have r1 := kcb hb (b := w.heap.size) (o := 1) (v := .int .i64 hi) (by go_cell)
    have B1 : Bl w w1 := Below.trans (by go_grown) (hb.mono (by (try simp only [World.size_alloc]); omega))
    have l1 := ltb r0
    clear hb
    rw [HV.out]
    go_wp2_with fail
    refine (withinR_any lo 1000000 _ (by omega) (by omega)).mono ?_
    rintro e' w2 ⟨rfl, rfl⟩
    rw [HL.out]
    go_wp2_with fail
    refine (withinR_any hi 1000000 _ (by omega) (by omega)).mono ?_
    rintro e' w2 ⟨rfl, rfl⟩
    rw [HH.out]
    go_wp2_with fail
    refine bodyPost_ret (v := .tuple #[.int .i64 (dyR lo hi most).1, .int .i64 (dyR lo hi most).2]) ?_ rfl ⟨rfl, B1⟩
    rw [HR.out]
    simp [results, Try.results34, go_sem]
  · have HR := Lib.hid (dyR_ok (most := most) ⟨hle, l0, k2⟩ ⟨m0', m1'⟩ hw)
    obtain ⟨d, hd⟩ : ∃ d, hi - lo = d := ⟨_, rfl⟩
    have hd0 : 0 < d := by omega
    have hd1 : d ≤ 2000000 := by omega
    have e1 : most.tdiv d = most / d := Int.tdiv_eq_ediv_of_nonneg m0'
    have q0 : 0 ≤ most / d := Int.ediv_nonneg m0' (by omega)
    have q1 : most / d ≤ most := Int.ediv_le_self _ m0'
    obtain ⟨q, hq⟩ : ∃ q, most / d = q := ⟨_, rfl⟩
    have HD := Lib.hid hd
    rw [hd, hq] at HR
    rw [hq] at e1 q0 q1
    have hne : ¬ d = 0 := by omega
    have hw' : ¬ d * 400 ≤ most := by rw [← hd]; exact hw
    clear hq hw
    go_enter Try.func34, Try.ntmps34
    go_wp2_with fail
    refine (validSpan_any lo hi _).mono ?_
    rintro e' w1 ⟨rfl, hb⟩
    have r0 := kcb hb (b := w.heap.size) (o := 0) (v := .int .i64 lo) (by go_cell)
    have r1 := kcb hb (b := w.heap.size) (o := 1) (v := .int .i64 hi) (by go_cell)
    have B1 : Bl w w1 := Below.trans (by go_grown) (hb.mono (by (try simp only [World.size_alloc]); omega))
    have l1 := ltb r0
    clear hb
    rw [HV.out]
    go_wp2_with fail
    refine (withinR_any lo 1000000 _ (by omega) (by omega)).mono ?_
    rintro e' w2 ⟨rfl, rfl⟩
    rw [HL.out]
    go_wp2_with fail
    refine (withinR_any hi 1000000 _ (by omega) (by omega)).mono ?_
    rintro e' w2 ⟨rfl, rfl⟩
    rw [HH.out]
    go_wp2_with fail
    refine bodyPost_ret (v := .tuple #[.int .i64 (dyR lo hi most).1, .int .i64 (dyR lo hi most).2]) ?_ rfl ⟨rfl, B1⟩
    rw [HR.out]
    simp [results, Try.results34, go_sem]
set_option maxRecDepth 100000 in
set_option maxHeartbeats 3200000 in
theorem rdaysR_any (lo hi most : Int) (w : World) : Calls Try.prog 35 #[.agg #[.int .i64 lo, .int .i64 hi], .int .i64 most] w fun e w' => e = .returned (.tuple #[.int .i64 (dyR lo hi most).1, .int .i64 (dyR lo hi most).2]) ∧ Bl w w' := by
  by_cases hv : lo ≤ hi ∧ -1000000000000 ≤ lo ∧ hi ≤ 1000000000000
  rotate_left
  · have HR := Lib.hid (dyR_bad (most := most) hv)
    by_cases h1 : hi < lo
    · clear hv
      go_enter Try.func35, Try.ntmps35
      go_wp2_with fail
      refine bodyPost_ret (v := .tuple #[.int .i64 (dyR lo hi most).1, .int .i64 (dyR lo hi most).2]) ?_ rfl ⟨rfl, by go_grown⟩
      rw [HR.out]
      simp [results, Try.results35, go_sem]
    by_cases h2 : lo < -1000000000000
    · clear hv
      go_enter Try.func35, Try.ntmps35
      go_wp2_with fail
      refine bodyPost_ret (v := .tuple #[.int .i64 (dyR lo hi most).1, .int .i64 (dyR lo hi most).2]) ?_ rfl ⟨rfl, by go_grown⟩
      rw [HR.out]
      simp [results, Try.results35, go_sem]
    have h3 : 1000000000000 < hi := by omega
    clear hv
    go_enter Try.func35, Try.ntmps35
    go_wp2_with fail
    refine bodyPost_ret (v := .tuple #[.int .i64 (dyR lo hi most).1, .int .i64 (dyR lo hi most).2]) ?_ rfl ⟨rfl, by go_grown⟩
    rw [HR.out]
    simp [results, Try.results35, go_sem]
  have h1 : lo ≤ hi := hv.1
  have h2 : -1000000000000 ≤ lo := hv.2.1
  have h3 : hi ≤ 1000000000000 := hv.2.2
  by_cases g0 : lo < -1000000
  · have HR := Lib.hid (dyR_rng (most := most) hv (by omega))
    clear hv
    go_enter Try.func35, Try.ntmps35
    go_wp2_with fail
    refine bodyPost_ret (v := .tuple #[.int .i64 (dyR lo hi most).1, .int .i64 (dyR lo hi most).2]) ?_ rfl ⟨rfl, by go_grown⟩
    rw [HR.out]
    simp [results, Try.results35, go_sem]
  by_cases g1 : 1000000 < hi
  · have HR := Lib.hid (dyR_rng (most := most) hv (by omega))
    clear hv
    go_enter Try.func35, Try.ntmps35
    go_wp2_with fail
    refine bodyPost_ret (v := .tuple #[.int .i64 (dyR lo hi most).1, .int .i64 (dyR lo hi most).2]) ?_ rfl ⟨rfl, by go_grown⟩
    rw [HR.out]
    simp [results, Try.results35, go_sem]
  by_cases g2 : most < 0
  · have HR := Lib.hid (dyR_rng (most := most) hv (by omega))
    clear hv
    go_enter Try.func35, Try.ntmps35
    go_wp2_with fail
    refine bodyPost_ret (v := .tuple #[.int .i64 (dyR lo hi most).1, .int .i64 (dyR lo hi most).2]) ?_ rfl ⟨rfl, by go_grown⟩
    rw [HR.out]
    simp [results, Try.results35, go_sem]
  by_cases g3 : 1000000000 < most
  · have HR := Lib.hid (dyR_rng (most := most) hv (by omega))
    clear hv
    go_enter Try.func35, Try.ntmps35
    go_wp2_with fail
    refine bodyPost_ret (v := .tuple #[.int .i64 (dyR lo hi most).1, .int .i64 (dyR lo hi most).2]) ?_ rfl ⟨rfl, by go_grown⟩
    rw [HR.out]
    simp [results, Try.results35, go_sem]
  clear hv h2 h3
  have l0 : -1000000 ≤ lo := by omega
  have k2 : hi ≤ 1000000 := by omega
  have m0' : 0 ≤ most := by omega
  have m1' : most ≤ 1000000000 := by omega
  clear g0 g1 g2 g3
  obtain ⟨d, hd⟩ : ∃ d, hi - lo = d := ⟨_, rfl⟩
  have hd0 : 0 ≤ d := by omega
  have hd1 : d ≤ 2000000 := by omega
  have HD := Lib.hid hd
  have HB := Lib.hid (And.intro h1 (And.intro l0 k2))
  go_enter Try.func35, Try.ntmps35
  go_wp2_with fail
  go_loop [38] (fun i => ∃ k : Nat, k ≤ 401 ∧ i = .int .i64 k ∧ Hid (k = 0 ∨ ((k : Int) - 1) * d ≤ most)) (fun i => 401 - (intOf i).toNat)
  case atStart => exact ⟨0, by omega, rfl, .inl rfl⟩
  case round =>
    obtain ⟨k, hk, rfl, hP⟩ := hrel
    by_cases hlt : k < 401
    · obtain ⟨p, hp⟩ : ∃ p, (k : Int) * d = p := ⟨_, rfl⟩
      have hp0 : 0 ≤ p := by rw [← hp]; exact Int.mul_nonneg (by omega) hd0
      have hp1 : p ≤ 2000000000 := by
        rw [← hp]
        have h5 : (k : Int) * d ≤ 1000 * d := Int.mul_le_mul_of_nonneg_right (by omega) hd0
        omega
      by_cases hm : most < p
      · obtain ⟨hf, hd2⟩ := dy_first (k := k) hd0 m0' (by rw [hp]; exact hm) hP.out
        have HR := Lib.hid (show dyR lo hi most = ((k : Int), 0) by
          rw [dyR_ok HB.out ⟨m0', m1'⟩ (by rw [HD.out]; intro h; have h6 : (k : Int) * d ≤ 400 * d := Int.mul_le_mul_of_nonneg_right (by omega) hd0; omega), HD.out, hf])
        clear hf
        go_wp2_with fail
        refine bodyPost_ret (v := .tuple #[.int .i64 (dyR lo hi most).1, .int .i64 (dyR lo hi most).2]) ?_ rfl ⟨rfl, by go_grown⟩
        rw [HR.out]
        simp [results, Try.results35, go_sem]
      · have HN := Lib.hid (show ((↑(k + 1) : Int) - 1) * d ≤ most by rw [show ((↑(k + 1) : Int) - 1) = (k : Int) by omega, hp]; omega)
        go_wp2_with fail
        go_round
        case rel => exact ⟨k + 1, by omega, by go_num, .inr HN.out⟩
        case measure => simp [intOf]; omega
    · obtain rfl : k = 401 := by omega
      have HR := Lib.hid (show dyR lo hi most = (0, 8) from dyR_non HB.out ⟨m0', m1'⟩ (by rw [HD.out]; rcases hP.out with h | h; · omega
                                                                                          · omega))
      go_wp2_with fail
      refine bodyPost_ret (v := .tuple #[.int .i64 (dyR lo hi most).1, .int .i64 (dyR lo hi most).2]) ?_ rfl ⟨rfl, by go_grown⟩
      rw [HR.out]
      simp [results, Try.results35, go_sem]
end Go.Proofs.Ytbhdoafcjfcgfaa
