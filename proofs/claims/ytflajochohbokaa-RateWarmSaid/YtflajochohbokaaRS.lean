/-
  The reference's Ratio; Warm of both.
-/
import Derived.Test.YtflajochohbokaaH
import Derived.Test.YtflajochohbokaaRJ
namespace Go.Proofs.Ytflajochohbokaa
open Go.RowKit
set_option linter.unusedSimpArgs false
set_option linter.unusedVariables false

set_option maxRecDepth 100000 in
set_option maxHeartbeats 3200000 in
theorem rratio_any (n d : Int) (w : World) (hn : -2000000000000000000 ≤ n) (hn' : n ≤ 2000000000000000000) (hd : -2000000000000000000 ≤ d) (hd' : d ≤ 2000000000000000000) (h0 : d ≠ 0) :
    Calls Try.prog 60 #[.int .i64 n, .int .i64 d] w fun e w' => e = .returned (rR (lowF n d)) ∧ Bl w w' := by
  have hg := gcd_pos' (n := n) h0
  have F : Hid (lowF n d = if 1000000000 < lowD n d ∨ lowN n d < -1000000000 ∨ 1000000000 < lowN n d then (0, 0, 4) else (lowN n d, lowD n d, 0)) := rfl
  have hu : (Int.gcd n d : Int) ≤ 2000000000000000000 := by
    have h1 : (Int.gcd n d : Int) ∣ d := Int.gcd_dvd_right _ _
    by_cases h : d < 0
    · have := Int.le_of_dvd (by omega) ((Int.dvd_neg).2 h1); omega
    · have := Int.le_of_dvd (by omega) h1; omega
  by_cases h1 : d < 0
  · skip
    have e1 : (-n).tdiv (Int.gcd n d : Int) = lowN n d := by rw [lowN, if_pos h1]; exact tdiv_dvd ((Int.dvd_neg).2 (Int.gcd_dvd_left _ _))
    have e2 : (-d).tdiv (Int.gcd n d : Int) = lowD n d := by rw [lowD, if_pos h1]; exact tdiv_dvd ((Int.dvd_neg).2 (Int.gcd_dvd_right _ _))
    have b := div_small (x := (-n)) hg (by omega) (by omega)
    have b' := div_small (x := (-d)) hg (by omega) (by omega)
    rw [show (-n) / (Int.gcd n d : Int) = lowN n d by rw [lowN, if_pos h1]] at b
    rw [show (-d) / (Int.gcd n d : Int) = lowD n d by rw [lowD, if_pos h1]] at b'
    obtain ⟨b1, b2⟩ := b
    obtain ⟨b3, b4⟩ := b'
    obtain ⟨N, hN⟩ : ∃ N, N = lowN n d := ⟨_, rfl⟩
    obtain ⟨D, hD⟩ : ∃ D, D = lowD n d := ⟨_, rfl⟩
    rw [← hN] at e1 b1 b2 F
    rw [← hD] at e2 b3 b4 F
    obtain ⟨G, hG⟩ : ∃ G, G = (Int.gcd n d : Int) := ⟨_, rfl⟩
    rw [← hG] at e1 e2 hg hu
    have GG := Lib.hid hG
    clear hN hD hG
    have E1 := Lib.hid e1
    have E2 := Lib.hid e2
    clear e1 e2
    go_enter Try.func60, Try.ntmps60
    go_wp2_with fail
    refine (absR_any _ _ (by omega) (by omega)).mono ?_
    rintro e w1 ⟨rfl, hw⟩
    obtain rfl := hw.symm
    obtain ⟨V, hV⟩ : ∃ V, V = w.alloc (.cells #[.int .i64 0, .int .i64 0] 31) := ⟨_, rfl⟩
    have BV : Bl w V := by rw [hV]; go_grown
    have HC0 := Lib.hid (show V.cell? ⟨w.heap.size, 0, none⟩ = some (.int .i64 0) ∧ V.cell? ⟨w.heap.size, 1, none⟩ = some (.int .i64 0) ∧ V.frozen? ⟨w.heap.size, 0, none⟩ = false ∧ V.frozen? ⟨w.heap.size, 1, none⟩ = false by rw [hV]; exact ⟨by go_cell, by go_cell, by simp, by simp⟩)
    have zV : V.heap.size = w.heap.size + 1 := by rw [hV]; simp
    rw [← hV]
    clear hV
    go_wp2_with fail
    go_loopw [6, 7] (fun u v wr => ∃ x y : Int, u = .int .i64 x ∧ v = .int .i64 y ∧ 0 ≤ x ∧ x ≤ 4000000000000000000 ∧ 0 ≤ y ∧ y ≤ 4000000000000000000 ∧ Hid (Int.gcd x y = Int.gcd n d) ∧ ∃ k, wr = V.drewN k) (fun _ v _ => (intOf v).natAbs)
    case atStart => exact ⟨_, _, rfl, rfl, by omega, by omega, by omega, by omega, gcd_abs _ _ _ _ (by omega) (by omega), 0, rfl⟩
    case round =>
      obtain ⟨x, y, rfl, rfl, x1, x2, y1, y2, H, N0, rfl⟩ := hrel
      by_cases hy : y = 0
      · have Hy := Lib.hid hy
        have hx : x = G := by rw [GG.out, ← H.out, hy]; simp; omega
        subst hx
        have y0' : ¬ (0 < y) := by omega
        have hyy : y ≤ 0 := by omega
        clear hy
        have E1 := E1.out
        have E2 := E2.out
        have g0 : (x == 0) = false := by simp; omega
        have HCr := HC0.out
        obtain ⟨r0, r1, f0, f1⟩ := HCr
        have r0 : (V.drewN N0).cell? ⟨w.heap.size, 0, none⟩ = some (.int .i64 0) := r0
        have r1 : (V.drewN N0).cell? ⟨w.heap.size, 1, none⟩ = some (.int .i64 0) := r1
        have f0 : (V.drewN N0).frozen? ⟨w.heap.size, 0, none⟩ = false := f0
        have f1 : (V.drewN N0).frozen? ⟨w.heap.size, 1, none⟩ = false := f1
        have BR : Bl w (V.drewN N0) := BV.tr (Bl.dn _ _)
        obtain ⟨R, hR⟩ : ∃ R, R = V.drewN N0 := ⟨_, rfl⟩
        rw [← hR] at r0 r1 f0 f1 BR ⊢
        have lr := ltb r0
        clear hR HC0
        have E1' := Lib.hid E1
        have E2' := Lib.hid E2
        go_wp2_with fail
        go_region
        (try simp only [E1'.out, E2'.out])
        clear E1 E2
        obtain ⟨Y, hY⟩ : ∃ Y, Y = (R.alloc (.cells #[.int .i64 N, .int .i64 D] 31)).drew := ⟨_, rfl⟩
        have BY : Bl R Y := by rw [hY]; go_grown
        have s0 : Y.cell? ⟨R.heap.size, 0, none⟩ = some (.int .i64 N) := by rw [hY]; go_cell
        have s1 : Y.cell? ⟨R.heap.size, 1, none⟩ = some (.int .i64 D) := by rw [hY]; go_cell
        rw [← hY]
        clear hY
        have r0 := kcb BY r0
        have r1 := kcb BY r1
        have f0 := fzb BY f0 lr
        have f1 := fzb BY f1 lr
        have lr2 := ltb r0
        have ls2 := ltb s0
        have BR := BR.tr BY
        have hab : (N.natAbs : Int) = N ∨ (N.natAbs : Int) = -N := by omega
        by_cases q1 : 1000000000 < (N.natAbs : Int)
        · have HL := Lib.hid (show lowF n d = (0, 0, 4) by rw [F, if_pos (by omega)])
          go_wp2_with fail
          refine (absR_any _ _ (by omega) (by omega)).mono ?_
          rintro e w1 ⟨rfl, hw⟩
          obtain rfl := hw.symm
          go_wp2_with fail
          (try simp only [Exit.inBlock, Exit.then])
          refine bodyPost_ret (v := rR (0, 0, 4)) (by simp [results, Try.results60, go_sem, rR, r0, r1]) rfl ⟨by rw [HL.out], Below.trans BR (by go_grown)⟩
        · by_cases q2 : 1000000000 < D
          · have HL := Lib.hid (show lowF n d = (0, 0, 4) by rw [F, if_pos (by omega)])
            go_wp2_with fail
            refine (absR_any _ _ (by omega) (by omega)).mono ?_
            rintro e w1 ⟨rfl, hw⟩
            obtain rfl := hw.symm
            go_wp2_with fail
            (try simp only [Exit.inBlock, Exit.then])
            refine bodyPost_ret (v := rR (0, 0, 4)) (by simp [results, Try.results60, go_sem, rR, r0, r1]) rfl ⟨by rw [HL.out], Below.trans BR (by go_grown)⟩
          · have HL := Lib.hid (show lowF n d = (N, D, 0) by rw [F, if_neg (by omega)])
            go_wp2_with fail
            refine (absR_any _ _ (by omega) (by omega)).mono ?_
            rintro e w1 ⟨rfl, hw⟩
            obtain rfl := hw.symm
            go_wp2_with fail
            (try simp only [Exit.inBlock, Exit.then])
            refine bodyPost_ret (v := rR (N, D, 0)) (by simp [results, Try.results60, go_sem, rR, r0, r1]) rfl ⟨by rw [HL.out], Below.trans BR (by go_grown)⟩
      · have Hy := Lib.hid hy
        have hpos : 0 < y := by omega
        have Hs := Lib.hid (gcd_step2 x y x1 y1 hy)
        clear hy
        go_wp2_with fail
        go_quiet (fail)
        go_wp2_with fail
        go_roundw
        case rel =>
          obtain ⟨s1, s2, s3, s4⟩ := Hs.out
          exact ⟨y, x % y, rfl, rfl, y1, y2, by omega, by omega, s1.trans H.out, N0 + nq, by rw [World.drewN_drewN]⟩
        case measure =>
          obtain ⟨s1, s2, s3, s4⟩ := Hs.out
          simpa [intOf] using s4
  · skip
    have e1 : n.tdiv (Int.gcd n d : Int) = lowN n d := by rw [lowN, if_neg h1]; exact tdiv_dvd (Int.gcd_dvd_left _ _)
    have e2 : d.tdiv (Int.gcd n d : Int) = lowD n d := by rw [lowD, if_neg h1]; exact tdiv_dvd (Int.gcd_dvd_right _ _)
    have b := div_small (x := n) hg (by omega) (by omega)
    have b' := div_small (x := d) hg (by omega) (by omega)
    rw [show n / (Int.gcd n d : Int) = lowN n d by rw [lowN, if_neg h1]] at b
    rw [show d / (Int.gcd n d : Int) = lowD n d by rw [lowD, if_neg h1]] at b'
    obtain ⟨b1, b2⟩ := b
    obtain ⟨b3, b4⟩ := b'
    obtain ⟨N, hN⟩ : ∃ N, N = lowN n d := ⟨_, rfl⟩
    obtain ⟨D, hD⟩ : ∃ D, D = lowD n d := ⟨_, rfl⟩
    rw [← hN] at e1 b1 b2 F
    rw [← hD] at e2 b3 b4 F
    obtain ⟨G, hG⟩ : ∃ G, G = (Int.gcd n d : Int) := ⟨_, rfl⟩
    rw [← hG] at e1 e2 hg hu
    have GG := Lib.hid hG
    clear hN hD hG
    have E1 := Lib.hid e1
    have E2 := Lib.hid e2
    clear e1 e2
    go_enter Try.func60, Try.ntmps60
    go_wp2_with fail
    refine (absR_any _ _ (by omega) (by omega)).mono ?_
    rintro e w1 ⟨rfl, hw⟩
    obtain rfl := hw.symm
    obtain ⟨V, hV⟩ : ∃ V, V = w.alloc (.cells #[.int .i64 0, .int .i64 0] 31) := ⟨_, rfl⟩
    have BV : Bl w V := by rw [hV]; go_grown
    have HC0 := Lib.hid (show V.cell? ⟨w.heap.size, 0, none⟩ = some (.int .i64 0) ∧ V.cell? ⟨w.heap.size, 1, none⟩ = some (.int .i64 0) ∧ V.frozen? ⟨w.heap.size, 0, none⟩ = false ∧ V.frozen? ⟨w.heap.size, 1, none⟩ = false by rw [hV]; exact ⟨by go_cell, by go_cell, by simp, by simp⟩)
    have zV : V.heap.size = w.heap.size + 1 := by rw [hV]; simp
    rw [← hV]
    clear hV
    go_wp2_with fail
    go_loopw [6, 7] (fun u v wr => ∃ x y : Int, u = .int .i64 x ∧ v = .int .i64 y ∧ 0 ≤ x ∧ x ≤ 4000000000000000000 ∧ 0 ≤ y ∧ y ≤ 4000000000000000000 ∧ Hid (Int.gcd x y = Int.gcd n d) ∧ ∃ k, wr = V.drewN k) (fun _ v _ => (intOf v).natAbs)
    case atStart => exact ⟨_, _, rfl, rfl, by omega, by omega, by omega, by omega, gcd_abs _ _ _ _ (by omega) (by omega), 0, rfl⟩
    case round =>
      obtain ⟨x, y, rfl, rfl, x1, x2, y1, y2, H, N0, rfl⟩ := hrel
      by_cases hy : y = 0
      · have Hy := Lib.hid hy
        have hx : x = G := by rw [GG.out, ← H.out, hy]; simp; omega
        subst hx
        have y0' : ¬ (0 < y) := by omega
        have hyy : y ≤ 0 := by omega
        clear hy
        have E1 := E1.out
        have E2 := E2.out
        have g0 : (x == 0) = false := by simp; omega
        have HCr := HC0.out
        obtain ⟨r0, r1, f0, f1⟩ := HCr
        have r0 : (V.drewN N0).cell? ⟨w.heap.size, 0, none⟩ = some (.int .i64 0) := r0
        have r1 : (V.drewN N0).cell? ⟨w.heap.size, 1, none⟩ = some (.int .i64 0) := r1
        have f0 : (V.drewN N0).frozen? ⟨w.heap.size, 0, none⟩ = false := f0
        have f1 : (V.drewN N0).frozen? ⟨w.heap.size, 1, none⟩ = false := f1
        have BR : Bl w (V.drewN N0) := BV.tr (Bl.dn _ _)
        obtain ⟨R, hR⟩ : ∃ R, R = V.drewN N0 := ⟨_, rfl⟩
        rw [← hR] at r0 r1 f0 f1 BR ⊢
        have lr := ltb r0
        clear hR HC0
        have E1' := Lib.hid E1
        have E2' := Lib.hid E2
        go_wp2_with fail
        go_region
        (try simp only [E1'.out, E2'.out])
        clear E1 E2
        obtain ⟨Y, hY⟩ : ∃ Y, Y = (R.alloc (.cells #[.int .i64 N, .int .i64 D] 31)).drew := ⟨_, rfl⟩
        have BY : Bl R Y := by rw [hY]; go_grown
        have s0 : Y.cell? ⟨R.heap.size, 0, none⟩ = some (.int .i64 N) := by rw [hY]; go_cell
        have s1 : Y.cell? ⟨R.heap.size, 1, none⟩ = some (.int .i64 D) := by rw [hY]; go_cell
        rw [← hY]
        clear hY
        have r0 := kcb BY r0
        have r1 := kcb BY r1
        have f0 := fzb BY f0 lr
        have f1 := fzb BY f1 lr
        have lr2 := ltb r0
        have ls2 := ltb s0
        have BR := BR.tr BY
        have hab : (N.natAbs : Int) = N ∨ (N.natAbs : Int) = -N := by omega
        by_cases q1 : 1000000000 < (N.natAbs : Int)
        · have HL := Lib.hid (show lowF n d = (0, 0, 4) by rw [F, if_pos (by omega)])
          go_wp2_with fail
          refine (absR_any _ _ (by omega) (by omega)).mono ?_
          rintro e w1 ⟨rfl, hw⟩
          obtain rfl := hw.symm
          go_wp2_with fail
          (try simp only [Exit.inBlock, Exit.then])
          refine bodyPost_ret (v := rR (0, 0, 4)) (by simp [results, Try.results60, go_sem, rR, r0, r1]) rfl ⟨by rw [HL.out], Below.trans BR (by go_grown)⟩
        · by_cases q2 : 1000000000 < D
          · have HL := Lib.hid (show lowF n d = (0, 0, 4) by rw [F, if_pos (by omega)])
            go_wp2_with fail
            refine (absR_any _ _ (by omega) (by omega)).mono ?_
            rintro e w1 ⟨rfl, hw⟩
            obtain rfl := hw.symm
            go_wp2_with fail
            (try simp only [Exit.inBlock, Exit.then])
            refine bodyPost_ret (v := rR (0, 0, 4)) (by simp [results, Try.results60, go_sem, rR, r0, r1]) rfl ⟨by rw [HL.out], Below.trans BR (by go_grown)⟩
          · have HL := Lib.hid (show lowF n d = (N, D, 0) by rw [F, if_neg (by omega)])
            go_wp2_with fail
            refine (absR_any _ _ (by omega) (by omega)).mono ?_
            rintro e w1 ⟨rfl, hw⟩
            obtain rfl := hw.symm
            go_wp2_with fail
            (try simp only [Exit.inBlock, Exit.then])
            refine bodyPost_ret (v := rR (N, D, 0)) (by simp [results, Try.results60, go_sem, rR, r0, r1]) rfl ⟨by rw [HL.out], Below.trans BR (by go_grown)⟩
      · have Hy := Lib.hid hy
        have hpos : 0 < y := by omega
        have Hs := Lib.hid (gcd_step2 x y x1 y1 hy)
        clear hy
        go_wp2_with fail
        go_quiet (fail)
        go_wp2_with fail
        go_roundw
        case rel =>
          obtain ⟨s1, s2, s3, s4⟩ := Hs.out
          exact ⟨y, x % y, rfl, rfl, y1, y2, by omega, by omega, s1.trans H.out, N0 + nq, by rw [World.drewN_drewN]⟩
        case measure =>
          obtain ⟨s1, s2, s3, s4⟩ := Hs.out
          simpa [intOf] using s4

/-- Whether the temperatures and the rates are such as Warm takes. -/
def wmOk (t1 r1 t2 r2 t : Int) : Bool := (inB t1 (-50000) 50000 && inB t2 (-50000) 50000 && inB t (-50000) 50000) && (inB r1 (-100000) 100000 && inB r2 (-100000) 100000) && decide (t1 ≠ t2)
def warmF (t1 r1 t2 r2 t : Int) : Int × Int × Int := if wmOk t1 r1 t2 r2 t then lowF (r1 * (t2 - t1) + (r2 - r1) * (t - t1)) (t2 - t1) else (0, 0, 7)
theorem warm_no {t1 r1 t2 r2 t : Int} (h : wmOk t1 r1 t2 r2 t = false) : warmF t1 r1 t2 r2 t = (0, 0, 7) := by rw [warmF, h]; rfl
theorem warm_yes {t1 r1 t2 r2 t : Int} (h : wmOk t1 r1 t2 r2 t = true) : warmF t1 r1 t2 r2 t = lowF (r1 * (t2 - t1) + (r2 - r1) * (t - t1)) (t2 - t1) := by rw [warmF, if_pos h]
theorem mulw_bd {x y A B : Int} (hA : 0 ≤ A) (hB : 0 ≤ B) (h1 : -A ≤ x ∧ x ≤ A) (h2 : -B ≤ y ∧ y ≤ B) : -(A * B) ≤ x * y ∧ x * y ≤ A * B := by
  have : (x * y).natAbs ≤ (A * B).natAbs := by rw [Int.natAbs_mul, Int.natAbs_mul]; exact Nat.mul_le_mul (by omega) (by omega)
  have h0 : 0 ≤ A * B := Int.mul_nonneg hA hB
  omega
def tmF (t1 t2 t : Int) (j : Nat) : Int := if j = 0 then t1 else if j = 1 then t2 else t
def tmTo3 (f : Nat → Int) : Nat → Bool
  | 0 => true
  | k + 1 => tmTo3 f k && inB (f k) (-50000) 50000
theorem tm_no {t1 r1 t2 r2 t : Int} {k : Nat} (hk : k < 3) (h : inB (tmF t1 t2 t k) (-50000) 50000 = false) : wmOk t1 r1 t2 r2 t = false := by
  rcases (show k = 0 ∨ k = 1 ∨ k = 2 by omega) with rfl | rfl | rfl <;> simp [tmF] at h <;> simp [wmOk, h]
theorem tm_all {t1 t2 t : Int} (h : tmTo3 (tmF t1 t2 t) 3 = true) : inB t1 (-50000) 50000 = true ∧ inB t2 (-50000) 50000 = true ∧ inB t (-50000) 50000 = true := by
  simpa [tmTo3, tmF, and_assoc] using h
theorem tm_cells {w : World} {b : Nat} {t1 t2 t : Int} (h0 : w.cell? ⟨b, 0, none⟩ = some (.int .i64 t1)) (h1 : w.cell? ⟨b, 1, none⟩ = some (.int .i64 t2)) (h2 : w.cell? ⟨b, 2, none⟩ = some (.int .i64 t)) {k : Nat} (hk : k < 3) : w.cell? ⟨b, k, none⟩ = some (.int .i64 (tmF t1 t2 t k)) := by
  rcases (show k = 0 ∨ k = 1 ∨ k = 2 by omega) with rfl | rfl | rfl
  · exact h0
  · exact h1
  · exact h2
set_option maxRecDepth 100000 in
set_option maxHeartbeats 3200000 in
theorem warm_any (t1 r1 t2 r2 t : Int) (w : World) :
    Calls Try.prog 45 #[.int .i64 t1, .int .i64 r1, .int .i64 t2, .int .i64 r2, .int .i64 t] w fun e w' => e = .returned (rR (warmF t1 r1 t2 r2 t)) ∧ Bl w w' := by
  have HNO := Lib.hid (@warm_no t1 r1 t2 r2 t)
  have HYES := Lib.hid (@warm_yes t1 r1 t2 r2 t)
  go_enter Try.func45, Try.ntmps45
  go_wp2_with fail
  obtain ⟨V, hV⟩ : ∃ V, V = (w.alloc (.cells #[.int .i64 0, .int .i64 0] 31)).alloc (.cells #[.int .i64 t1, .int .i64 t2, .int .i64 t] 3) := ⟨_, rfl⟩
  have BV : Bl w V := by rw [hV]; go_grown
  have r0 : V.cell? ⟨w.heap.size, 0, none⟩ = some (.int .i64 0) := by rw [hV]; go_cell
  have r1' : V.cell? ⟨w.heap.size, 1, none⟩ = some (.int .i64 0) := by rw [hV]; go_cell
  have f0 : V.frozen? ⟨w.heap.size, 0, none⟩ = false := by rw [hV]; simp
  have f1 : V.frozen? ⟨w.heap.size, 1, none⟩ = false := by rw [hV]; simp
  have u0 : V.cell? ⟨w.heap.size + 1, 0, none⟩ = some (.int .i64 t1) := by rw [hV]; go_cell
  have u1 : V.cell? ⟨w.heap.size + 1, 1, none⟩ = some (.int .i64 t2) := by rw [hV]; go_cell
  have u2 : V.cell? ⟨w.heap.size + 1, 2, none⟩ = some (.int .i64 t) := by rw [hV]; go_cell
  have HU := Lib.hid (fun (k : Nat) (hk : k < 3) => tm_cells u0 u1 u2 hk)
  rw [← hV]
  have lr := ltb r0
  clear hV u0 u1 u2
  go_loop [19] (fun i => ∃ k : Nat, k ≤ 3 ∧ i = .int .i64 k ∧ tmTo3 (tmF t1 t2 t) k = true) (fun i => 3 - (intOf i).toNat)
  case atStart => exact ⟨0, by omega, rfl, rfl⟩
  case round =>
    obtain ⟨k, hk, rfl, ho⟩ := hrel
    have HO := Lib.hid ho
    clear ho
    by_cases hlt : k < 3
    · have c0 := HU.out k hlt
      have HX := Lib.hid (fun h => tm_no (t1 := t1) (r1 := r1) (t2 := t2) (r2 := r2) (t := t) hlt h)
      obtain ⟨z, hz⟩ : ∃ z, z = tmF t1 t2 t k := ⟨_, rfl⟩
      have HT := Lib.hid (show inB z (-50000) 50000 = true → tmTo3 (tmF t1 t2 t) (k + 1) = true by intro h; rw [tmTo3, HO.out, ← hz, h]; rfl)
      rw [← hz] at c0 HX
      clear hz
      by_cases q : inB z (-50000) 50000 = true
      · have HQ := Lib.hid q
        clear q
        go_wp2_with fail
        refine (withinR_any _ _ _ (by omega) (by omega)).mono ?_
        rintro e w1 ⟨rfl, rfl⟩
        rw [HQ.out]
        go_wp2_with fail
        go_round
        case rel => exact ⟨k + 1, by omega, by go_num, HT.out HQ.out⟩
        case measure => simp [intOf]; omega
      · have HQ := Lib.hid (show inB z (-50000) 50000 = false by simpa using q)
        have HR := Lib.hid (HNO.out (HX.out HQ.out))
        clear q
        go_wp2_with fail
        refine (withinR_any _ _ _ (by omega) (by omega)).mono ?_
        rintro e w1 ⟨rfl, rfl⟩
        rw [HQ.out]
        go_wp2_with fail
        (try simp only [Exit.inBlock, Exit.then])
        refine bodyPost_ret (v := rR (0, 0, 7)) (by simp [results, Try.results45, go_sem, rR, r0, r1']) rfl ⟨by rw [HR.out], Below.trans BV (by go_grown)⟩
    · obtain rfl : k = 3 := by omega
      obtain ⟨h1, h2, h3⟩ := tm_all HO.out
      have H1 := Lib.hid h1
      have H2 := Lib.hid h2
      have H3 := Lib.hid h3
      obtain ⟨a1, a2⟩ := inB_iff.1 h1
      obtain ⟨a3, a4⟩ := inB_iff.1 h2
      obtain ⟨a5, a6⟩ := inB_iff.1 h3
      clear h1 h2 h3
      by_cases ht : t1 = t2
      · have HR := Lib.hid (HNO.out (by simp [wmOk, ht]))
        have e0 : (t1 == t2) = true := by simp [ht]
        clear ht
        go_wp2_with fail
        (try simp only [Exit.inBlock, Exit.then])
        refine bodyPost_ret (v := rR (0, 0, 7)) (by simp [results, Try.results45, go_sem, rR, r0, r1']) rfl ⟨by rw [HR.out], Below.trans BV (by go_grown)⟩
      · have e0 : (t1 == t2) = false := by simpa using ht
        have HT := Lib.hid ht
        clear ht
        by_cases q1 : inB r1 (-100000) 100000 = true
        rotate_left
        · have HQ := Lib.hid (show inB r1 (-100000) 100000 = false by simpa using q1)
          have HR := Lib.hid (HNO.out (by simp [wmOk, HQ.out]))
          clear q1
          go_wp2_with fail
          refine (withinR_any _ _ _ (by omega) (by omega)).mono ?_
          rintro e w1 ⟨rfl, rfl⟩
          rw [HQ.out]
          go_wp2_with fail
          (try simp only [Exit.inBlock, Exit.then])
          refine bodyPost_ret (v := rR (0, 0, 7)) (by simp [results, Try.results45, go_sem, rR, r0, r1']) rfl ⟨by rw [HR.out], Below.trans BV (by go_grown)⟩
        · have HQ1 := Lib.hid q1
          obtain ⟨b1, b2⟩ := inB_iff.1 q1
          clear q1
          by_cases q2 : inB r2 (-100000) 100000 = true
          rotate_left
          · have HQ := Lib.hid (show inB r2 (-100000) 100000 = false by simpa using q2)
            have HR := Lib.hid (HNO.out (by simp [wmOk, HQ.out]))
            clear q2
            go_wp2_with fail
            refine (withinR_any _ _ _ (by omega) (by omega)).mono ?_
            rintro e w1 ⟨rfl, rfl⟩
            rw [HQ1.out]
            go_wp2_with fail
            refine (withinR_any _ _ _ (by omega) (by omega)).mono ?_
            rintro e w1 ⟨rfl, rfl⟩
            rw [HQ.out]
            go_wp2_with fail
            (try simp only [Exit.inBlock, Exit.then])
            refine bodyPost_ret (v := rR (0, 0, 7)) (by simp [results, Try.results45, go_sem, rR, r0, r1']) rfl ⟨by rw [HR.out], Below.trans BV (by go_grown)⟩
          · have HQ2 := Lib.hid q2
            obtain ⟨b3, b4⟩ := inB_iff.1 q2
            clear q2
            have HR := Lib.hid (HYES.out (by simp [wmOk, H1.out, H2.out, H3.out, HQ1.out, HQ2.out, HT.out]))
            have m1 := mulw_bd (x := r1) (y := t2 - t1) (A := 100000) (B := 100000) (by omega) (by omega) ⟨b1, b2⟩ (by omega)
            have m2 := mulw_bd (x := r2 - r1) (y := t - t1) (A := 200000) (B := 100000) (by omega) (by omega) (by omega) (by omega)
            have hd0 : t2 - t1 ≠ 0 := by have := HT.out; omega
            have HMK := Lib.hid (show makeF (r1 * (t2 - t1) + (r2 - r1) * (t - t1)) (t2 - t1) = lowF (r1 * (t2 - t1) + (r2 - r1) * (t - t1)) (t2 - t1) by rw [makeF, if_neg (by omega)])
            obtain ⟨P, hP⟩ : ∃ P, P = r1 * (t2 - t1) := ⟨_, rfl⟩
            obtain ⟨Q, hQ⟩ : ∃ Q, Q = (r2 - r1) * (t - t1) := ⟨_, rfl⟩
            rw [← hP, ← hQ] at HMK HR
            rw [← hP] at m1
            rw [← hQ] at m2
            obtain ⟨m1, m1'⟩ := m1
            obtain ⟨m2, m2'⟩ := m2
            have p1 : IntKind.i64.wrap (r1 * (t2 - t1)) = P := by rw [← hP, IntWalk.i64_in _ (by omega)]
            have p2 : wrap64 (r1 * (t2 - t1)) = P := by rw [← hP, IntWalk.wrap64_in _ (by omega)]
            have p3 : IntKind.i64.wrap ((r2 - r1) * (t - t1)) = Q := by rw [← hQ, IntWalk.i64_in _ (by omega)]
            have p4 : wrap64 ((r2 - r1) * (t - t1)) = Q := by rw [← hQ, IntWalk.wrap64_in _ (by omega)]
            clear hP hQ hd0
            go_wp2_with fail
            refine (withinR_any _ _ _ (by omega) (by omega)).mono ?_
            rintro e w1 ⟨rfl, rfl⟩
            rw [HQ1.out]
            go_wp2_with fail
            refine (withinR_any _ _ _ (by omega) (by omega)).mono ?_
            rintro e w1 ⟨rfl, rfl⟩
            rw [HQ2.out]
            go_wp2_with fail
            refine (make_any _ _ _).mono ?_
            rintro e w2 ⟨rfl, hb⟩
            rw [HMK.out]
            have r0 := kcb hb r0
            have r1' := kcb hb r1'
            have f0 := fzb hb f0 lr
            have f1 := fzb hb f1 lr
            have B2 := BV.tr hb
            have lr2 := ltb r0
            clear hb
            obtain ⟨q1, hq1⟩ : ∃ q, q = lowF (P + Q) (t2 - t1) := ⟨_, rfl⟩
            rw [← hq1] at HR ⊢
            clear hq1
            obtain ⟨x1, x2, x3⟩ := q1
            unfold rR
            go_wp2_with fail
            (try simp only [Exit.inBlock, Exit.then])
            refine bodyPost_ret (v := rR (x1, x2, x3)) (by simp [results, Try.results45, go_sem, rR, r0, r1']) rfl ⟨by rw [HR.out], Below.trans B2 (by go_grown)⟩
end Go.Proofs.Ytflajochohbokaa
