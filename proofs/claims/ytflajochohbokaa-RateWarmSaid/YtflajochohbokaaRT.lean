/-
  Warm of the reference; the walk of RateWarm.
-/
import Derived.Test.YtflajochohbokaaRS
namespace Go.Proofs.Ytflajochohbokaa
open Go.RowKit
set_option linter.unusedSimpArgs false
set_option linter.unusedVariables false

def rtF2 (r1 r2 : Int) (j : Nat) : Int := if j = 0 then r1 else r2
def rtTo2 (f : Nat → Int) : Nat → Bool
  | 0 => true
  | k + 1 => rtTo2 f k && inB (f k) (-100000) 100000
theorem rt2_no {t1 r1 t2 r2 t : Int} {k : Nat} (hk : k < 2) (h : inB (rtF2 r1 r2 k) (-100000) 100000 = false) : wmOk t1 r1 t2 r2 t = false := by
  rcases (show k = 0 ∨ k = 1 by omega) with rfl | rfl <;> simp [rtF2] at h <;> simp [wmOk, h]
theorem rt2_all {r1 r2 : Int} (h : rtTo2 (rtF2 r1 r2) 2 = true) : inB r1 (-100000) 100000 = true ∧ inB r2 (-100000) 100000 = true := by
  simpa [rtTo2, rtF2] using h
theorem rt2_cells {w : World} {b : Nat} {r1 r2 : Int} (h0 : w.cell? ⟨b, 0, none⟩ = some (.int .i64 r1)) (h1 : w.cell? ⟨b, 1, none⟩ = some (.int .i64 r2)) {k : Nat} (hk : k < 2) : w.cell? ⟨b, k, none⟩ = some (.int .i64 (rtF2 r1 r2 k)) := by
  rcases (show k = 0 ∨ k = 1 by omega) with rfl | rfl
  · exact h0
  · exact h1
theorem low_mul {r d : Int} (hd : d ≠ 0) (h1 : -1000000000 ≤ r) (h2 : r ≤ 1000000000) : lowF (r * d) d = (r, 1, 0) := by
  have hg : (Int.gcd (r * d) d : Int) = d.natAbs := by
    rw [Int.gcd, Int.natAbs_mul, Nat.gcd_eq_right (Nat.dvd_mul_left _ _)]
  have a : lowN (r * d) d = r := by
    rw [lowN, hg]
    by_cases h : d < 0
    · rw [if_pos h, show ((d.natAbs : Nat) : Int) = -d by omega, ← Int.mul_neg]
      exact Int.mul_ediv_cancel _ (by omega)
    · rw [if_neg h, show ((d.natAbs : Nat) : Int) = d by omega]
      exact Int.mul_ediv_cancel _ (by omega)
  have b : lowD (r * d) d = 1 := by
    rw [lowD, hg]
    by_cases h : d < 0
    · rw [if_pos h, show ((d.natAbs : Nat) : Int) = -d by omega]
      exact Int.ediv_self (by omega)
    · rw [if_neg h, show ((d.natAbs : Nat) : Int) = d by omega]
      exact Int.ediv_self (by omega)
  rw [lowF, a, b, if_neg (by omega)]

set_option maxRecDepth 100000 in
set_option maxHeartbeats 3200000 in
theorem rwarm_any (t1 r1 t2 r2 t : Int) (w : World) :
    Calls Try.prog 46 #[.int .i64 t1, .int .i64 r1, .int .i64 t2, .int .i64 r2, .int .i64 t] w fun e w' => e = .returned (rR (warmF t1 r1 t2 r2 t)) ∧ Bl w w' := by
  have HNO := Lib.hid (@warm_no t1 r1 t2 r2 t)
  have HYES := Lib.hid (@warm_yes t1 r1 t2 r2 t)
  go_enter Try.func46, Try.ntmps46
  go_wp2_with fail
  obtain ⟨V, hV⟩ : ∃ V, V = (w.alloc (.cells #[.int .i64 0, .int .i64 0] 31)).alloc (.cells #[.int .i64 t1, .int .i64 t2, .int .i64 t] 3) := ⟨_, rfl⟩
  have BV : Bl w V := by rw [hV]; go_grown
  have r0 : V.cell? ⟨w.heap.size, 0, none⟩ = some (.int .i64 0) := by rw [hV]; go_cell
  have r1' : V.cell? ⟨w.heap.size, 1, none⟩ = some (.int .i64 0) := by rw [hV]; go_cell
  have f0 : V.frozen? ⟨w.heap.size, 0, none⟩ = false := by rw [hV]; simp
  have f1 : V.frozen? ⟨w.heap.size, 1, none⟩ = false := by rw [hV]; simp
  have u0 : V.cell? ⟨w.heap.size + 1, 0, none⟩ = some (.int .i64 t1) := by rw [hV]; go_cell
  have u1 : V.cell? ⟨w.heap.size + 1, 1, none⟩ = some (.int .i64 t2) := by rw [hV]; go_cell
  have u2 : V.cell? ⟨w.heap.size + 1, 2, none⟩ = some (.int .i64 t) := by rw [hV]; go_cell
  have HU := Lib.hid (fun (k : Nat) (hk : k < 3) => tm_cells u0 u1 u2 hk)
  rw [← hV]
  have lr := ltb r0
  clear hV u0 u1 u2
  go_loop [21] (fun i => ∃ k : Nat, k ≤ 3 ∧ i = .int .i64 k ∧ tmTo3 (tmF t1 t2 t) k = true) (fun i => 3 - (intOf i).toNat)
  case atStart => exact ⟨0, by omega, rfl, rfl⟩
  case round =>
    obtain ⟨k, hk, rfl, ho⟩ := hrel
    have HO := Lib.hid ho
    clear ho
    by_cases hlt : k < 3
    · have c0 := HU.out k hlt
      have HX := Lib.hid (fun h => tm_no (t1 := t1) (r1 := r1) (t2 := t2) (r2 := r2) (t := t) hlt h)
      obtain ⟨z, hz⟩ : ∃ z, z = tmF t1 t2 t k := ⟨_, rfl⟩
      have HT := Lib.hid (show inB z (-50000) 50000 = true → tmTo3 (tmF t1 t2 t) (k + 1) = true by intro h; rw [tmTo3, HO.out, ← hz, h]; rfl)
      rw [← hz] at c0 HX
      clear hz
      by_cases q1 : z < -50000
      · have HR := Lib.hid (HNO.out (HX.out (inB_no.2 (by omega))))
        go_wp2_with fail
        (try simp only [Exit.inBlock, Exit.then])
        refine bodyPost_ret (v := rR (0, 0, 7)) (by simp [results, Try.results46, go_sem, rR, r0, r1']) rfl ⟨by rw [HR.out], Below.trans BV (by go_grown)⟩
      · have q1' : -50000 ≤ z := by omega
        clear q1
        by_cases q2 : 50000 < z
        · have HR := Lib.hid (HNO.out (HX.out (inB_no.2 (by omega))))
          go_wp2_with fail
          (try simp only [Exit.inBlock, Exit.then])
          refine bodyPost_ret (v := rR (0, 0, 7)) (by simp [results, Try.results46, go_sem, rR, r0, r1']) rfl ⟨by rw [HR.out], Below.trans BV (by go_grown)⟩
        · have q2' : z ≤ 50000 := by omega
          clear q2
          go_wp2_with fail
          go_round
          case rel => exact ⟨k + 1, by omega, by go_num, HT.out (inB_iff.2 ⟨q1', q2'⟩)⟩
          case measure => simp [intOf]; omega
    · obtain rfl : k = 3 := by omega
      obtain ⟨h1, h2, h3⟩ := tm_all HO.out
      have H1 := Lib.hid h1
      have H2 := Lib.hid h2
      have H3 := Lib.hid h3
      obtain ⟨a1, a2⟩ := inB_iff.1 h1
      obtain ⟨a3, a4⟩ := inB_iff.1 h2
      obtain ⟨a5, a6⟩ := inB_iff.1 h3
      clear h1 h2 h3
      go_wp2_with fail
      obtain ⟨U, hU⟩ : ∃ U, U = V.alloc (.cells #[.int .i64 r1, .int .i64 r2] 3) := ⟨_, rfl⟩
      have BU0 : Bl V U := by rw [hU]; go_grown
      have v0 : U.cell? ⟨V.heap.size, 0, none⟩ = some (.int .i64 r1) := by rw [hU]; go_cell
      have v1 : U.cell? ⟨V.heap.size, 1, none⟩ = some (.int .i64 r2) := by rw [hU]; go_cell
      have HW := Lib.hid (fun (k : Nat) (hk : k < 2) => rt2_cells v0 v1 hk)
      have BU := BV.tr BU0
      have r0 := kcb BU0 r0
      have r1' := kcb BU0 r1'
      have f0 := fzb BU0 f0 lr
      have f1 := fzb BU0 f1 lr
      have lr2 := ltb r0
      rw [← hU]
      clear hU v0 v1
      go_loop [37] (fun i => ∃ k : Nat, k ≤ 2 ∧ i = .int .i64 k ∧ rtTo2 (rtF2 r1 r2) k = true) (fun i => 2 - (intOf i).toNat)
      case atStart => exact ⟨0, by omega, rfl, rfl⟩
      case round =>
        obtain ⟨k, hk, rfl, ho⟩ := hrel
        have HO := Lib.hid ho
        clear ho
        by_cases hlt : k < 2
        · have c0 := HW.out k hlt
          have HX := Lib.hid (fun h => rt2_no (t1 := t1) (r1 := r1) (t2 := t2) (r2 := r2) (t := t) hlt h)
          obtain ⟨z, hz⟩ : ∃ z, z = rtF2 r1 r2 k := ⟨_, rfl⟩
          have HT := Lib.hid (show inB z (-100000) 100000 = true → rtTo2 (rtF2 r1 r2) (k + 1) = true by intro h; rw [rtTo2, HO.out, ← hz, h]; rfl)
          rw [← hz] at c0 HX
          clear hz
          by_cases q1 : z < -100000
          · have HR := Lib.hid (HNO.out (HX.out (inB_no.2 (by omega))))
            go_wp2_with fail
            (try simp only [Exit.inBlock, Exit.then])
            refine bodyPost_ret (v := rR (0, 0, 7)) (by simp [results, Try.results46, go_sem, rR, r0, r1']) rfl ⟨by rw [HR.out], Below.trans BU (by go_grown)⟩
          · have q1' : -100000 ≤ z := by omega
            clear q1
            by_cases q2 : 100000 < z
            · have HR := Lib.hid (HNO.out (HX.out (inB_no.2 (by omega))))
              go_wp2_with fail
              (try simp only [Exit.inBlock, Exit.then])
              refine bodyPost_ret (v := rR (0, 0, 7)) (by simp [results, Try.results46, go_sem, rR, r0, r1']) rfl ⟨by rw [HR.out], Below.trans BU (by go_grown)⟩
            · have q2' : z ≤ 100000 := by omega
              clear q2
              go_wp2_with fail
              go_round
              case rel => exact ⟨k + 1, by omega, by go_num, HT.out (inB_iff.2 ⟨q1', q2'⟩)⟩
              case measure => simp [intOf]; omega
        · obtain rfl : k = 2 := by omega
          obtain ⟨h1, h2⟩ := rt2_all HO.out
          have HQ1 := Lib.hid h1
          have HQ2 := Lib.hid h2
          obtain ⟨b1, b2⟩ := inB_iff.1 h1
          obtain ⟨b3, b4⟩ := inB_iff.1 h2
          clear h1 h2
          by_cases ht : t1 = t2
          · have HR := Lib.hid (HNO.out (by simp [wmOk, ht]))
            have e0 : (t1 == t2) = true := by simp [ht]
            clear ht
            go_wp2_with fail
            (try simp only [Exit.inBlock, Exit.then])
            refine bodyPost_ret (v := rR (0, 0, 7)) (by simp [results, Try.results46, go_sem, rR, r0, r1']) rfl ⟨by rw [HR.out], Below.trans BU (by go_grown)⟩
          · have e0 : (t1 == t2) = false := by simpa using ht
            have HR := Lib.hid (HYES.out (by simp [wmOk, H1.out, H2.out, H3.out, HQ1.out, HQ2.out, ht]))
            have m1 := mulw_bd (x := r1) (y := t2 - t1) (A := 100000) (B := 100000) (by omega) (by omega) ⟨b1, b2⟩ (by omega)
            have m2 := mulw_bd (x := r2 - r1) (y := t - t1) (A := 200000) (B := 100000) (by omega) (by omega) (by omega) (by omega)
            have HD0 := Lib.hid (show t2 - t1 ≠ 0 by omega)
            clear ht
            obtain ⟨P, hP⟩ : ∃ P, P = r1 * (t2 - t1) := ⟨_, rfl⟩
            obtain ⟨Q, hQ⟩ : ∃ Q, Q = (r2 - r1) * (t - t1) := ⟨_, rfl⟩
            rw [← hP, ← hQ] at HR
            rw [← hP] at m1
            rw [← hQ] at m2
            obtain ⟨m1, m1'⟩ := m1
            obtain ⟨m2, m2'⟩ := m2
            have p1 : IntKind.i64.wrap (r1 * (t2 - t1)) = P := by rw [← hP, IntWalk.i64_in _ (by omega)]
            have p2 : wrap64 (r1 * (t2 - t1)) = P := by rw [← hP, IntWalk.wrap64_in _ (by omega)]
            have p3 : IntKind.i64.wrap ((r2 - r1) * (t - t1)) = Q := by rw [← hQ, IntWalk.i64_in _ (by omega)]
            have p4 : wrap64 ((r2 - r1) * (t - t1)) = Q := by rw [← hQ, IntWalk.wrap64_in _ (by omega)]
            clear hP hQ
            go_wp2_with fail
            refine (rratio_any (P + Q) (t2 - t1) _ (by omega) (by omega) (by omega) (by omega) HD0.out).mono ?_
            rintro e w2 ⟨rfl, hb⟩
            have r0 := kcb hb r0
            have r1' := kcb hb r1'
            have f0 := fzb hb f0 lr2
            have f1 := fzb hb f1 lr2
            have B2 := BU.tr hb
            have lr3 := ltb r0
            clear hb
            obtain ⟨q1, hq1⟩ : ∃ q, q = lowF (P + Q) (t2 - t1) := ⟨_, rfl⟩
            rw [← hq1] at HR ⊢
            clear hq1
            obtain ⟨x1, x2, x3⟩ := q1
            unfold rR
            go_wp2_with fail
            (try simp only [Exit.inBlock, Exit.then])
            refine bodyPost_ret (v := rR (x1, x2, x3)) (by simp [results, Try.results46, go_sem, rR, r0, r1']) rfl ⟨by rw [HR.out], Below.trans B2 (by go_grown)⟩

theorem wm_pre {t1 r1 t2 r2 t : Int} (h : wmOk t1 r1 t2 r2 t1 = false) : wmOk t1 r1 t2 r2 t = false ∧ wmOk t1 r1 t2 r2 t2 = false := by
  simp only [wmOk, Bool.and_eq_false_iff] at *
  rcases h with ((h | h) | h) | h <;> simp_all
theorem wm_first {t1 r1 t2 r2 : Int} (h : wmOk t1 r1 t2 r2 t1 = true) : warmF t1 r1 t2 r2 t1 = (r1, 1, 0) ∧ warmF t1 r1 t2 r2 t2 = (r2, 1, 0) := by
  have h2 : wmOk t1 r1 t2 r2 t2 = true := by
    simp only [wmOk, Bool.and_eq_true] at *; simp_all
  have h3 := h
  simp only [wmOk, Bool.and_eq_true, inB_iff, decide_eq_true_eq] at h3
  obtain ⟨⟨_, h4, h5⟩, h6⟩ := h3
  constructor
  · rw [warm_yes h, show r1 * (t2 - t1) + (r2 - r1) * (t1 - t1) = r1 * (t2 - t1) by rw [Int.sub_self, Int.mul_zero, Int.add_zero]]
    exact low_mul (by omega) (by omega) (by omega)
  · rw [warm_yes h2, ← Int.add_mul, show r1 + (r2 - r1) = r2 by omega]
    exact low_mul (by omega) (by omega) (by omega)
end Go.Proofs.Ytflajochohbokaa
