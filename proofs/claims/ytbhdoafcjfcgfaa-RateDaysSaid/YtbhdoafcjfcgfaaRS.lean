/-
  The reference's Ratio; Warm of both.
-/
import Derived.Test.YtbhdoafcjfcgfaaH
import Derived.Test.YtbhdoafcjfcgfaaRJ
namespace Go.Proofs.Ytbhdoafcjfcgfaa
open Go.RowKit
set_option linter.unusedSimpArgs false
set_option linter.unusedVariables false

set_option maxRecDepth 100000 in
set_option maxHeartbeats 3200000 in
theorem rratio_any (n d : Int) (w : World) (hn : -2000000000000000000 ≤ n) (hn' : n ≤ 2000000000000000000) (hd : -2000000000000000000 ≤ d) (hd' : d ≤ 2000000000000000000) (h0 : d ≠ 0) :
    Calls Try.prog 41 #[.int .i64 n, .int .i64 d] w fun e w' => e = .returned (rR (lowF n d)) ∧ Bl w w' := by
  have hg := gcd_pos' (n := n) h0
  have F : Hid (lowF n d = if 1000000000 < lowD n d ∨ lowN n d < -1000000000 ∨ 1000000000 < lowN n d then (0, 0, 4) else (lowN n d, lowD n d, 0)) := rfl
  have hu : (Int.gcd n d : Int) ≤ 2000000000000000000 := by
    have h1 : (Int.gcd n d : Int) ∣ d := Int.gcd_dvd_right _ _
    by_cases h : d < 0
    · have := Int.le_of_dvd (by omega) ((Int.dvd_neg).2 h1); omega
    · have := Int.le_of_dvd (by omega) h1; omega
  by_cases h1 : d < 0
  · skip
    have e1 : (-n).tdiv (Int.gcd n d : Int) = lowN n d := by rw [lowN, if_pos h1]; exact tdiv_dvd ((Int.dvd_neg).2 (Int.gcd_dvd_left _ _))
    have e2 : (-d).tdiv (Int.gcd n d : Int) = lowD n d := by rw [lowD, if_pos h1]; exact tdiv_dvd ((Int.dvd_neg).2 (Int.gcd_dvd_right _ _))
    have b := div_small (x := (-n)) hg (by omega) (by omega)
    have b' := div_small (x := (-d)) hg (by omega) (by omega)
    rw [show (-n) / (Int.gcd n d : Int) = lowN n d by rw [lowN, if_pos h1]] at b
    rw [show (-d) / (Int.gcd n d : Int) = lowD n d by rw [lowD, if_pos h1]] at b'
    obtain ⟨b1, b2⟩ := b
    obtain ⟨b3, b4⟩ := b'
    obtain ⟨N, hN⟩ : ∃ N, N = lowN n d := ⟨_, rfl⟩
    obtain ⟨D, hD⟩ : ∃ D, D = lowD n d := ⟨_, rfl⟩
    rw [← hN] at e1 b1 b2 F
    rw [← hD] at e2 b3 b4 F
    obtain ⟨G, hG⟩ : ∃ G, G = (Int.gcd n d : Int) := ⟨_, rfl⟩
    rw [← hG] at e1 e2 hg hu
    have GG := Lib.hid hG
    clear hN hD hG
    have E1 := Lib.hid e1
    have E2 := Lib.hid e2
    clear e1 e2
    go_enter Try.func41, Try.ntmps41
    go_wp2_with fail
    refine (absR_any _ _ (by omega) (by omega)).mono ?_
    rintro e w1 ⟨rfl, hw⟩
    obtain rfl := hw.symm
    obtain ⟨V, hV⟩ : ∃ V, V = w.alloc (.cells #[.int .i64 0, .int .i64 0] 31) := ⟨_, rfl⟩
    have BV : Bl w V := by rw [hV]; go_grown
    have HC0 := Lib.hid (show V.cell? ⟨w.heap.size, 0, none⟩ = some (.int .i64 0) ∧ V.cell? ⟨w.heap.size, 1, none⟩ = some (.int .i64 0) ∧ V.frozen? ⟨w.heap.size, 0, none⟩ = false ∧ V.frozen? ⟨w.heap.size, 1, none⟩ = false by rw [hV]; exact ⟨by go_cell, by go_cell, by simp, by simp⟩)
    have zV : V.heap.size = w.heap.size + 1 := by rw [hV]; simp
    rw [← hV]
    clear hV
    go_wp2_with fail
    go_loopw [6, 7] (fun u v wr => ∃ x y : Int, u = .int .i64 x ∧ v = .int .i64 y ∧ 0 ≤ x ∧ x ≤ 4000000000000000000 ∧ 0 ≤ y ∧ y ≤ 4000000000000000000 ∧ Hid (Int.gcd x y = Int.gcd n d) ∧ ∃ k, wr = V.drewN k) (fun _ v _ => (intOf v).natAbs)
    case atStart => exact ⟨_, _, rfl, rfl, by omega, by omega, by omega, by omega, gcd_abs _ _ _ _ (by omega) (by omega), 0, rfl⟩
    case round =>
      obtain ⟨x, y, rfl, rfl, x1, x2, y1, y2, H, N0, rfl⟩ := hrel
      by_cases hy : y = 0
      · have Hy := Lib.hid hy
        have hx : x = G := by rw [GG.out, ← H.out, hy]; simp; omega
        subst hx
        have y0' : ¬ (0 < y) := by omega
        have hyy : y ≤ 0 := by omega
        clear hy
        have E1 := E1.out
        have E2 := E2.out
        have g0 : (x == 0) = false := by simp; omega
        have HCr := HC0.out
        obtain ⟨r0, r1, f0, f1⟩ := HCr
        have r0 : (V.drewN N0).cell? ⟨w.heap.size, 0, none⟩ = some (.int .i64 0) := r0
        have r1 : (V.drewN N0).cell? ⟨w.heap.size, 1, none⟩ = some (.int .i64 0) := r1
        have f0 : (V.drewN N0).frozen? ⟨w.heap.size, 0, none⟩ = false := f0
        have f1 : (V.drewN N0).frozen? ⟨w.heap.size, 1, none⟩ = false := f1
        have BR : Bl w (V.drewN N0) := BV.tr (Bl.dn _ _)
        obtain ⟨R, hR⟩ : ∃ R, R = V.drewN N0 := ⟨_, rfl⟩
        rw [← hR] at r0 r1 f0 f1 BR ⊢
        have lr := ltb r0
        clear hR HC0
        have E1' := Lib.hid E1
        have E2' := Lib.hid E2
        go_wp2_with fail
        go_region
        (try simp only [E1'.out, E2'.out])
        clear E1 E2
        obtain ⟨Y, hY⟩ : ∃ Y, Y = (R.alloc (.cells #[.int .i64 N, .int .i64 D] 31)).drew := ⟨_, rfl⟩
        have BY : Bl R Y := by rw [hY]; go_grown
        have s0 : Y.cell? ⟨R.heap.size, 0, none⟩ = some (.int .i64 N) := by rw [hY]; go_cell
        have s1 : Y.cell? ⟨R.heap.size, 1, none⟩ = some (.int .i64 D) := by rw [hY]; go_cell
        rw [← hY]
        clear hY
        have r0 := kcb BY r0
        have r1 := kcb BY r1
        have f0 := fzb BY f0 lr
        have f1 := fzb BY f1 lr
        have lr2 := ltb r0
        have ls2 := ltb s0
        have BR := BR.tr BY
        have hab : (N.natAbs : Int) = N ∨ (N.natAbs : Int) = -N := by omega
        by_cases q1 : 1000000000 < (N.natAbs : Int)
        · have HL := Lib.hid (show lowF n d = (0, 0, 4) by rw [F, if_pos (by omega)])
          go_wp2_with fail
          refine (absR_any _ _ (by omega) (by omega)).mono ?_
          rintro e w1 ⟨rfl, hw⟩
          obtain rfl := hw.symm
          go_wp2_with fail
          (try simp only [Exit.inBlock, Exit.then])
          refine bodyPost_ret (v := rR (0, 0, 4)) (by simp [results, Try.results41, go_sem, rR, r0, r1]) rfl ⟨by rw [HL.out], Below.trans BR (by go_grown)⟩
        · by_cases q2 : 1000000000 < D
          · have HL := Lib.hid (show lowF n d = (0, 0, 4) by rw [F, if_pos (by omega)])
            go_wp2_with fail
            refine (absR_any _ _ (by omega) (by omega)).mono ?_
            rintro e w1 ⟨rfl, hw⟩
            obtain rfl := hw.symm
            go_wp2_with fail
            (try simp only [Exit.inBlock, Exit.then])
            refine bodyPost_ret (v := rR (0, 0, 4)) (by simp [results, Try.results41, go_sem, rR, r0, r1]) rfl ⟨by rw [HL.out], Below.trans BR (by go_grown)⟩
          · have HL := Lib.hid (show lowF n d = (N, D, 0) by rw [F, if_neg (by omega)])
            go_wp2_with fail
            refine (absR_any _ _ (by omega) (by omega)).mono ?_
            rintro e w1 ⟨rfl, hw⟩
            obtain rfl := hw.symm
            go_wp2_with fail
            (try simp only [Exit.inBlock, Exit.then])
            refine bodyPost_ret (v := rR (N, D, 0)) (by simp [results, Try.results41, go_sem, rR, r0, r1]) rfl ⟨by rw [HL.out], Below.trans BR (by go_grown)⟩
      · have Hy := Lib.hid hy
        have hpos : 0 < y := by omega
        have Hs := Lib.hid (gcd_step2 x y x1 y1 hy)
        clear hy
        go_wp2_with fail
        go_quiet (fail)
        go_wp2_with fail
        go_roundw
        case rel =>
          obtain ⟨s1, s2, s3, s4⟩ := Hs.out
          exact ⟨y, x % y, rfl, rfl, y1, y2, by omega, by omega, s1.trans H.out, N0 + nq, by rw [World.drewN_drewN]⟩
        case measure =>
          obtain ⟨s1, s2, s3, s4⟩ := Hs.out
          simpa [intOf] using s4
  · skip
    have e1 : n.tdiv (Int.gcd n d : Int) = lowN n d := by rw [lowN, if_neg h1]; exact tdiv_dvd (Int.gcd_dvd_left _ _)
    have e2 : d.tdiv (Int.gcd n d : Int) = lowD n d := by rw [lowD, if_neg h1]; exact tdiv_dvd (Int.gcd_dvd_right _ _)
    have b := div_small (x := n) hg (by omega) (by omega)
    have b' := div_small (x := d) hg (by omega) (by omega)
    rw [show n / (Int.gcd n d : Int) = lowN n d by rw [lowN, if_neg h1]] at b
    rw [show d / (Int.gcd n d : Int) = lowD n d by rw [lowD, if_neg h1]] at b'
    obtain ⟨b1, b2⟩ := b
    obtain ⟨b3, b4⟩ := b'
    obtain ⟨N, hN⟩ : ∃ N, N = lowN n d := ⟨_, rfl⟩
    obtain ⟨D, hD⟩ : ∃ D, D = lowD n d := ⟨_, rfl⟩
    rw [← hN] at e1 b1 b2 F
    rw [← hD] at e2 b3 b4 F
    obtain ⟨G, hG⟩ : ∃ G, G = (Int.gcd n d : Int) := ⟨_, rfl⟩
    rw [← hG] at e1 e2 hg hu
    have GG := Lib.hid hG
    clear hN hD hG
    have E1 := Lib.hid e1
    have E2 := Lib.hid e2
    clear e1 e2
    go_enter Try.func41, Try.ntmps41
    go_wp2_with fail
    refine (absR_any _ _ (by omega) (by omega)).mono ?_
    rintro e w1 ⟨rfl, hw⟩
    obtain rfl := hw.symm
    obtain ⟨V, hV⟩ : ∃ V, V = w.alloc (.cells #[.int .i64 0, .int .i64 0] 31) := ⟨_, rfl⟩
    have BV : Bl w V := by rw [hV]; go_grown
    have HC0 := Lib.hid (show V.cell? ⟨w.heap.size, 0, none⟩ = some (.int .i64 0) ∧ V.cell? ⟨w.heap.size, 1, none⟩ = some (.int .i64 0) ∧ V.frozen? ⟨w.heap.size, 0, none⟩ = false ∧ V.frozen? ⟨w.heap.size, 1, none⟩ = false by rw [hV]; exact ⟨by go_cell, by go_cell, by simp, by simp⟩)
    have zV : V.heap.size = w.heap.size + 1 := by rw [hV]; simp
    rw [← hV]
    clear hV
    go_wp2_with fail
    go_loopw [6, 7] (fun u v wr => ∃ x y : Int, u = .int .i64 x ∧ v = .int .i64 y ∧ 0 ≤ x ∧ x ≤ 4000000000000000000 ∧ 0 ≤ y ∧ y ≤ 4000000000000000000 ∧ Hid (Int.gcd x y = Int.gcd n d) ∧ ∃ k, wr = V.drewN k) (fun _ v _ => (intOf v).natAbs)
    case atStart => exact ⟨_, _, rfl, rfl, by omega, by omega, by omega, by omega, gcd_abs _ _ _ _ (by omega) (by omega), 0, rfl⟩
    case round =>
      obtain ⟨x, y, rfl, rfl, x1, x2, y1, y2, H, N0, rfl⟩ := hrel
      by_cases hy : y = 0
      · have Hy := Lib.hid hy
        have hx : x = G := by rw [GG.out, ← H.out, hy]; simp; omega
        subst hx
        have y0' : ¬ (0 < y) := by omega
        have hyy : y ≤ 0 := by omega
        clear hy
        have E1 := E1.out
        have E2 := E2.out
        have g0 : (x == 0) = false := by simp; omega
        have HCr := HC0.out
        obtain ⟨r0, r1, f0, f1⟩ := HCr
        have r0 : (V.drewN N0).cell? ⟨w.heap.size, 0, none⟩ = some (.int .i64 0) := r0
        have r1 : (V.drewN N0).cell? ⟨w.heap.size, 1, none⟩ = some (.int .i64 0) := r1
        have f0 : (V.drewN N0).frozen? ⟨w.heap.size, 0, none⟩ = false := f0
        have f1 : (V.drewN N0).frozen? ⟨w.heap.size, 1, none⟩ = false := f1
        have BR : Bl w (V.drewN N0) := BV.tr (Bl.dn _ _)
        obtain ⟨R, hR⟩ : ∃ R, R = V.drewN N0 := ⟨_, rfl⟩
        rw [← hR] at r0 r1 f0 f1 BR ⊢
        have lr := ltb r0
        clear hR HC0
        have E1' := Lib.hid E1
        have E2' := Lib.hid E2
        go_wp2_with fail
        go_region
        (try simp only [E1'.out, E2'.out])
        clear E1 E2
        obtain ⟨Y, hY⟩ : ∃ Y, Y = (R.alloc (.cells #[.int .i64 N, .int .i64 D] 31)).drew := ⟨_, rfl⟩
        have BY : Bl R Y := by rw [hY]; go_grown
        have s0 : Y.cell? ⟨R.heap.size, 0, none⟩ = some (.int .i64 N) := by rw [hY]; go_cell
        have s1 : Y.cell? ⟨R.heap.size, 1, none⟩ = some (.int .i64 D) := by rw [hY]; go_cell
        rw [← hY]
        clear hY
        have r0 := kcb BY r0
        have r1 := kcb BY r1
        have f0 := fzb BY f0 lr
        have f1 := fzb BY f1 lr
        have lr2 := ltb r0
        have ls2 := ltb s0
        have BR := BR.tr BY
        have hab : (N.natAbs : Int) = N ∨ (N.natAbs : Int) = -N := by omega
        by_cases q1 : 1000000000 < (N.natAbs : Int)
        · have HL := Lib.hid (show lowF n d = (0, 0, 4) by rw [F, if_pos (by omega)])
          go_wp2_with fail
          refine (absR_any _ _ (by omega) (by omega)).mono ?_
          rintro e w1 ⟨rfl, hw⟩
          obtain rfl := hw.symm
          go_wp2_with fail
          (try simp only [Exit.inBlock, Exit.then])
          refine bodyPost_ret (v := rR (0, 0, 4)) (by simp [results, Try.results41, go_sem, rR, r0, r1]) rfl ⟨by rw [HL.out], Below.trans BR (by go_grown)⟩
        · by_cases q2 : 1000000000 < D
          · have HL := Lib.hid (show lowF n d = (0, 0, 4) by rw [F, if_pos (by omega)])
            go_wp2_with fail
            refine (absR_any _ _ (by omega) (by omega)).mono ?_
            rintro e w1 ⟨rfl, hw⟩
            obtain rfl := hw.symm
            go_wp2_with fail
            (try simp only [Exit.inBlock, Exit.then])
            refine bodyPost_ret (v := rR (0, 0, 4)) (by simp [results, Try.results41, go_sem, rR, r0, r1]) rfl ⟨by rw [HL.out], Below.trans BR (by go_grown)⟩
          · have HL := Lib.hid (show lowF n d = (N, D, 0) by rw [F, if_neg (by omega)])
            go_wp2_with fail
            refine (absR_any _ _ (by omega) (by omega)).mono ?_
            rintro e w1 ⟨rfl, hw⟩
            obtain rfl := hw.symm
            go_wp2_with fail
            (try simp only [Exit.inBlock, Exit.then])
            refine bodyPost_ret (v := rR (N, D, 0)) (by simp [results, Try.results41, go_sem, rR, r0, r1]) rfl ⟨by rw [HL.out], Below.trans BR (by go_grown)⟩
      · have Hy := Lib.hid hy
        have hpos : 0 < y := by omega
        have Hs := Lib.hid (gcd_step2 x y x1 y1 hy)
        clear hy
        go_wp2_with fail
        go_quiet (fail)
        go_wp2_with fail
        go_roundw
        case rel =>
          obtain ⟨s1, s2, s3, s4⟩ := Hs.out
          exact ⟨y, x % y, rfl, rfl, y1, y2, by omega, by omega, s1.trans H.out, N0 + nq, by rw [World.drewN_drewN]⟩
        case measure =>
          obtain ⟨s1, s2, s3, s4⟩ := Hs.out
          simpa [intOf] using s4

/-- Whether the temperatures and the rates are such as Warm takes. -/
def wmOk (t1 r1 t2 r2 t : Int) : Bool := (inB t1 (-50000) 50000 && inB t2 (-50000) 50000 && inB t (-50000) 50000) && (inB r1 (-100000) 100000 && inB r2 (-100000) 100000) && decide (t1 ≠ t2)
def warmF (t1 r1 t2 r2 t : Int) : Int × Int × Int := if wmOk t1 r1 t2 r2 t then lowF (r1 * (t2 - t1) + (r2 - r1) * (t - t1)) (t2 - t1) else (0, 0, 7)
theorem warm_no {t1 r1 t2 r2 t : Int} (h : wmOk t1 r1 t2 r2 t = false) : warmF t1 r1 t2 r2 t = (0, 0, 7) := by rw [warmF, h]; rfl
theorem warm_yes {t1 r1 t2 r2 t : Int} (h : wmOk t1 r1 t2 r2 t = true) : warmF t1 r1 t2 r2 t = lowF (r1 * (t2 - t1) + (r2 - r1) * (t - t1)) (t2 - t1) := by rw [warmF, if_pos h]
theorem mulw_bd {x y A B : Int} (hA : 0 ≤ A) (hB : 0 ≤ B) (h1 : -A ≤ x ∧ x ≤ A) (h2 : -B ≤ y ∧ y ≤ B) : -(A * B) ≤ x * y ∧ x * y ≤ A * B := by
  have : (x * y).natAbs ≤ (A * B).natAbs := by rw [Int.natAbs_mul, Int.natAbs_mul]; exact Nat.mul_le_mul (by omega) (by omega)
  have h0 : 0 ≤ A * B := Int.mul_nonneg hA hB
  omega
def tmF (t1 t2 t : Int) (j : Nat) : Int := if j = 0 then t1 else if j = 1 then t2 else t
def tmTo3 (f : Nat → Int) : Nat → Bool
  | 0 => true
  | k + 1 => tmTo3 f k && inB (f k) (-50000) 50000
theorem tm_no {t1 r1 t2 r2 t : Int} {k : Nat} (hk : k < 3) (h : inB (tmF t1 t2 t k) (-50000) 50000 = false) : wmOk t1 r1 t2 r2 t = false := by
  rcases (show k = 0 ∨ k = 1 ∨ k = 2 by omega) with rfl | rfl | rfl <;> simp [tmF] at h <;> simp [wmOk, h]
theorem tm_all {t1 t2 t : Int} (h : tmTo3 (tmF t1 t2 t) 3 = true) : inB t1 (-50000) 50000 = true ∧ inB t2 (-50000) 50000 = true ∧ inB t (-50000) 50000 = true := by
  simpa [tmTo3, tmF, and_assoc] using h
theorem tm_cells {w : World} {b : Nat} {t1 t2 t : Int} (h0 : w.cell? ⟨b, 0, none⟩ = some (.int .i64 t1)) (h1 : w.cell? ⟨b, 1, none⟩ = some (.int .i64 t2)) (h2 : w.cell? ⟨b, 2, none⟩ = some (.int .i64 t)) {k : Nat} (hk : k < 3) : w.cell? ⟨b, k, none⟩ = some (.int .i64 (tmF t1 t2 t k)) := by
  rcases (show k = 0 ∨ k = 1 ∨ k = 2 by omega) with rfl | rfl | rfl
  · exact h0
  · exact h1
  · exact h2