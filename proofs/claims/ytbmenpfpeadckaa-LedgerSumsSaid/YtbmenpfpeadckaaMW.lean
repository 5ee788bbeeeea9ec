/-
  Package ledger: Mean of the program and of the reference.
-/
import Derived.Test.YtbmenpfpeadckaaMV
import Derived.Test.YtbmenpfpeadckaaH
import Derived.BigQuiet
namespace Go.Proofs.Ytbmenpfpeadckaa
open Go.RowKit Go.Maps Go.Shelf
set_option linter.unusedSimpArgs false
set_option linter.unusedVariables false

/-- The mean of the offs of a stretch, or the error. -/
def mnE (L : Nat → En) (n : Nat) (fa fb : Int) : Int × Int × Int :=
  if stC L n fa fb = 0 then (if (numL (stC L n fa fb) (offF L n fa fb)).length = 0 then (0, 0, 8) else lowF (sumL (numL (stC L n fa fb) (offF L n fa fb))) ((numL (stC L n fa fb) (offF L n fa fb)).length : Int)) else (0, 0, stC L n fa fb)
theorem num_bd {L : Nat → En} {n : Nat} {fa fb : Int} : (∀ x, x ∈ numL (stC L n fa fb) (offF L n fa fb) → -172800000 ≤ x ∧ x ≤ 172800000) ∧ (numL (stC L n fa fb) (offF L n fa fb)).length ≤ 1000 := by
  unfold numL
  by_cases h0 : stC L n fa fb = 0
  · rw [if_pos h0]
    have hv : vlB L n = true := by
      cases hv : vlB L n with
      | true => rfl
      | false => rw [stC_1 hv] at h0; cases h0
    rw [offF_st hv]
    exact ⟨fun x hx => stL_bd hv (fun d h => h) x hx, Nat.le_trans (stL_len _ _ _ _) (Nat.le_trans (pick_len L n mallP) (vl_iff.1 hv).1)⟩
  · rw [if_neg h0]; exact ⟨fun x hx => (by cases hx), Nat.zero_le _⟩
theorem sum_small {F : List Int} (h : ∀ x, x ∈ F → -172800000 ≤ x ∧ x ≤ 172800000) (hl : F.length ≤ 1000) : -172800000000 ≤ sumL F ∧ sumL F ≤ 172800000000 := by
  have := sumL_bd (M := 172800000) (by decide) h F.length (Nat.le_refl _)
  rw [List.take_length] at this
  omega
theorem mk_low {s : Int} {k : Nat} (hs : -172800000000 ≤ s ∧ s ≤ 172800000000) (hk : k ≤ 1000) (h0 : k ≠ 0) : makeF s (k : Int) = lowF s k := by
  unfold makeF
  rw [if_neg (by omega)]
theorem absW_any (x : Int) (w : World) (h0 : -4000000000000000000 ≤ x) (h1 : x ≤ 4000000000000000000) : Calls Try.prog 32 #[.int .i64 x] w fun e w' => e = .returned (.int .i64 (x.natAbs : Int)) ∧ w = w' := by
  have e1 : wrap64 (-x) = -x := IntWalk.wrap64_in _ (by omega)
  have e2 : IntKind.i64.wrap (-x) = -x := IntWalk.i64_in _ (by omega)
  by_cases h : x < 0
  · have HA := Lib.hid (show (x.natAbs : Int) = -x by omega)
    go_enter Try.func32, Try.ntmps32
    go_wp2_with fail
    go_ret
    exact ⟨by rw [HA.out]; first | rfl | simp [e1, e2], rfl⟩
  · have HA := Lib.hid (show (x.natAbs : Int) = x by omega)
    go_enter Try.func32, Try.ntmps32
    go_wp2_with fail
    go_ret
    exact ⟨by rw [HA.out]; rfl, rfl⟩
set_option maxRecDepth 100000 in
set_option maxHeartbeats 3200000 in
theorem meanL_any (A : Option Addr) (n c : Nat) (L : Nat → En) (fa fb : Int) (w : World) (hA : El w A n L) (hn : n ≤ maxLen) :
    Calls Try.prog 25 #[.slice A n c, .int .i64 fa, .int .i64 fb] w fun e w' => e = .returned (rR (mnE L n fa fb)) ∧ Bl w w' := by
  have HO := Lib.hid (fun (X : World) (hb : Bl w X) => (offsOf_any A n c L fa fb X (hA.below hb) hn).mono fun e w' h => IntPost.any h)
  have hb := num_bd (L := L) (n := n) (fa := fa) (fb := fb)
  have HM := Lib.hid (show mnE L n fa fb = _ from rfl)
  unfold mnE at HM
  clear hA hn
  obtain ⟨M, hM⟩ : ∃ M, M = mnE L n fa fb := ⟨_, rfl⟩
  rw [← hM]
  have hM : M = _ := hM
  unfold mnE at hM
  clear HM
  obtain ⟨C, hC⟩ : ∃ C, C = stC L n fa fb := ⟨_, rfl⟩
  rw [← hC] at HO hb hM
  obtain ⟨F, hF⟩ : ∃ F, F = numL C (offF L n fa fb) := ⟨_, rfl⟩
  rw [← hF] at HO hb hM
  clear hC hF
  obtain ⟨hb1, hb2⟩ := hb
  have hs := sum_small hb1 hb2
  obtain ⟨K, hK⟩ : ∃ K, K = F.length := ⟨_, rfl⟩
  rw [← hK] at HO hM hb2
  have HKK := Lib.hid hK
  clear hK
  by_cases hc : C = 0
  · rw [if_pos hc] at hM
    subst hc
    by_cases h0 : K = 0
    · rw [if_pos h0] at hM
      have HMM := Lib.hid hM
      have h0' : ((K : Int) == 0) = true := by simpa using h0
      clear hM hb1 hb2 h0 hs
      go_enter Try.func25, Try.ntmps25
      go_wp2_with fail
      refine (HO.out _ (by go_grown)).mono ?_
      rintro e w1 ⟨hb, A1, c1, rfl, hl, hs⟩
      obtain ⟨r0, r1, rf, rg, rl⟩ := kept2 (b := w.heap.size) (x := .int .i64 0) (y := .int .i64 0) hb ⟨by go_cell, by go_cell, (by (try simp only [frozen?_alloc_cells, World.frozen?_setCell, fz_drew, fz_drewN]); first | assumption | exact frozen_beyond (by (try simp only [World.size_alloc, World.size_setCell, World.size_drew, sz_drewN]); omega)), (by (try simp only [frozen?_alloc_cells, World.frozen?_setCell, fz_drew, fz_drewN]); first | assumption | exact frozen_beyond (by (try simp only [World.size_alloc, World.size_setCell, World.size_drew, sz_drewN]); omega)), (by (try simp only [World.size_alloc, World.size_setCell, World.size_drew, sz_drewN]); omega)⟩
      have B1 : Bl w w1 := Bl.tr (by go_grown) hb
      have HS := Lib.hid hs
      clear hb hs hl
      go_wp2_with fail
      refine bodyPost_ret (v := rR (0, 0, 8)) (by simp [results, Try.results25, go_sem, rR, r0, r1]) rfl ⟨by rw [HMM.out], ?_⟩
      exact Below.trans B1 (by go_grown)
    · rw [if_neg h0] at hM
      have HMM := Lib.hid (hM.trans (mk_low hs hb2 h0).symm)
      have HB := Lib.hid hb1
      have HL := Lib.hid hb2
      have h0' : ((K : Int) == 0) = false := by simpa using h0
      clear hM hb1 h0 hs
      go_enter Try.func25, Try.ntmps25
      go_wp2_with fail
      refine (HO.out _ (by go_grown)).mono ?_
      rintro e w1 ⟨hb, A1, c1, rfl, hl, hs⟩
      obtain ⟨r0, r1, rf, rg, rl⟩ := kept2 (b := w.heap.size) (x := .int .i64 0) (y := .int .i64 0) hb ⟨by go_cell, by go_cell, (by (try simp only [frozen?_alloc_cells, World.frozen?_setCell, fz_drew, fz_drewN]); first | assumption | exact frozen_beyond (by (try simp only [World.size_alloc, World.size_setCell, World.size_drew, sz_drewN]); omega)), (by (try simp only [frozen?_alloc_cells, World.frozen?_setCell, fz_drew, fz_drewN]); first | assumption | exact frozen_beyond (by (try simp only [World.size_alloc, World.size_setCell, World.size_drew, sz_drewN]); omega)), (by (try simp only [World.size_alloc, World.size_setCell, World.size_drew, sz_drewN]); omega)⟩
      have B1 : Bl w w1 := Bl.tr (by go_grown) hb
      have HS := Lib.hid hs
      clear hb hs hl
      go_wp2_with fail
      refine (sumN_any A1 K c1 F _ HKK.out HL.out HS.out HB.out).mono ?_
      rintro e2 w2 ⟨rfl, hb⟩
      have r0 := kcb hb r0
      have r1 := kcb hb r1
      have rf := fzb hb rf (by omega)
      have rg := fzb hb rg (by omega)
      have B2 := B1.tr hb
      have rl2 := ltb r0
      clear hb
      go_wp2_with fail
      refine (make_any _ _ _).mono ?_
      rintro e3 w3 ⟨rfl, hb⟩
      have r0 := kcb hb r0
      have r1 := kcb hb r1
      have rf := fzb hb rf rl2
      have rg := fzb hb rg rl2
      have B3 := B2.tr hb
      have rl3 := ltb r0
      clear hb
      obtain ⟨q, hq⟩ : ∃ q, q = makeF (sumL F) (K : Int) := ⟨_, rfl⟩
      rw [← hq] at HMM
      rw [← hq]
      clear hq
      obtain ⟨q1, q2, q3⟩ := q
      unfold rR
      go_wp2_with fail
      refine bodyPost_ret (v := rR (q1, q2, q3)) (by simp [results, Try.results25, go_sem, rR, r0, r1]) rfl ⟨by rw [HMM.out], ?_⟩
      exact Below.trans B3 (by go_grown)
  · rw [if_neg hc] at hM
    have HMM := Lib.hid hM
    have hC1n : (C != 0) = true := by simpa using hc
    clear hM hb1 hb2 hc hs
    go_enter Try.func25, Try.ntmps25
    go_wp2_with fail
    refine (HO.out _ (by go_grown)).mono ?_
    rintro e w1 ⟨hb, A1, c1, rfl, hl, hs⟩
    obtain ⟨r0, r1, rf, rg, rl⟩ := kept2 (b := w.heap.size) (x := .int .i64 0) (y := .int .i64 0) hb ⟨by go_cell, by go_cell, (by (try simp only [frozen?_alloc_cells, World.frozen?_setCell, fz_drew, fz_drewN]); first | assumption | exact frozen_beyond (by (try simp only [World.size_alloc, World.size_setCell, World.size_drew, sz_drewN]); omega)), (by (try simp only [frozen?_alloc_cells, World.frozen?_setCell, fz_drew, fz_drewN]); first | assumption | exact frozen_beyond (by (try simp only [World.size_alloc, World.size_setCell, World.size_drew, sz_drewN]); omega)), (by (try simp only [World.size_alloc, World.size_setCell, World.size_drew, sz_drewN]); omega)⟩
    have B1 : Bl w w1 := Bl.tr (by go_grown) hb
    have HS := Lib.hid hs
    clear hb hs hl
    go_wp2_with fail
    refine bodyPost_ret (v := rR (0, 0, C)) (by simp [results, Try.results25, go_sem, rR, r0, r1]) rfl ⟨by rw [HMM.out], ?_⟩
    exact Below.trans B1 (by go_grown)
set_option maxRecDepth 100000 in
set_option maxHeartbeats 6400000 in
theorem rmeanL_any (A : Option Addr) (n1 c : Nat) (L : Nat → En) (fa fb : Int) (w : World) (hA : El w A n1 L) (hn1 : n1 ≤ maxLen) :
    Calls Try.prog 26 #[.slice A n1 c, .int .i64 fa, .int .i64 fb] w fun e w' => e = .returned (rR (mnE L n1 fa fb)) ∧ Bl w w' := by
  have HO := Lib.hid (fun (X : World) (hb : Bl w X) => stretch_any A n1 c L fa fb X (hA.below hb) hn1)
  unfold encT strS at HO
  have hb := num_bd (L := L) (n := n1) (fa := fa) (fb := fb)
  clear hA hn1
  obtain ⟨M, hM⟩ : ∃ M, M = mnE L n1 fa fb := ⟨_, rfl⟩
  rw [← hM]
  have hM : M = _ := hM
  unfold mnE at hM
  obtain ⟨C, hC⟩ : ∃ C, C = stC L n1 fa fb := ⟨_, rfl⟩
  rw [← hC] at HO hb hM
  obtain ⟨F, hF⟩ : ∃ F, F = numL C (offF L n1 fa fb) := ⟨_, rfl⟩
  rw [← hF] at HO hb hM
  clear hC hF
  obtain ⟨hb1, hb2⟩ := hb
  have hs := sum_small hb1 hb2
  obtain ⟨n, hn⟩ : ∃ s, s = sumL F := ⟨_, rfl⟩
  obtain ⟨K, hK⟩ : ∃ K, K = F.length := ⟨_, rfl⟩
  rw [← hn] at HO hM hs
  rw [← hK] at HO hM hb2
  clear hn hK hb1
  by_cases hc : C = 0
  · rw [if_pos hc] at hM
    subst hc
    by_cases h0 : K = 0
    · rw [if_pos h0] at hM
      have HMM := Lib.hid hM
      have h0' : ((K : Int) == 0) = true := by simpa using h0
      clear hM h0
      go_enter Try.func26, Try.ntmps26
      go_wp2_with fail
      refine (HO.out _ (by go_grown)).mono ?_
      rintro e w1 ⟨rfl, hb⟩
      obtain ⟨r0, r1, rf, rg, rl⟩ := kept2 (b := w.heap.size) (x := .int .i64 0) (y := .int .i64 0) hb ⟨by go_cell, by go_cell, (by (try simp only [frozen?_alloc_cells, World.frozen?_setCell, fz_drew, fz_drewN]); first | assumption | exact frozen_beyond (by (try simp only [World.size_alloc, World.size_setCell, World.size_drew, sz_drewN]); omega)), (by (try simp only [frozen?_alloc_cells, World.frozen?_setCell, fz_drew, fz_drewN]); first | assumption | exact frozen_beyond (by (try simp only [World.size_alloc, World.size_setCell, World.size_drew, sz_drewN]); omega)), (by (try simp only [World.size_alloc, World.size_setCell, World.size_drew, sz_drewN]); omega)⟩
      have B1 : Bl w w1 := Bl.tr (by go_grown) hb
      clear hb
      go_wp2_with fail
      refine bodyPost_ret (v := rR (0, 0, 8)) (by simp [results, Try.results26, go_sem, rR, r0, r1]) rfl ⟨by rw [HMM.out], ?_⟩
      exact Below.trans B1 (by go_grown)
    · rw [if_neg h0] at hM
      have h0' : ((K : Int) == 0) = false := by simpa using h0
      obtain ⟨d, hd⟩ : ∃ d : Int, d = (K : Int) := ⟨_, rfl⟩
      rw [← hd] at HO hM h0'
      have hd1 : 1 ≤ d ∧ d ≤ 1000 := by omega
      clear hd h0 hb2
      have h0 : d ≠ 0 := by omega
      have h1 : ¬ d < 0 := by omega
      have hn : -2000000000000000000 ≤ n := by omega
      have hn' : n ≤ 2000000000000000000 := by omega
      have hd : -2000000000000000000 ≤ d := by omega
      have hd' : d ≤ 2000000000000000000 := by omega
      have hg := gcd_pos' (n := n) h0
      have F : Hid (lowF n d = if 1000000000 < lowD n d ∨ lowN n d < -1000000000 ∨ 1000000000 < lowN n d then (0, 0, 4) else (lowN n d, lowD n d, 0)) := rfl
      have hu : (Int.gcd n d : Int) ≤ 2000000000000000000 := by
        have h1 : (Int.gcd n d : Int) ∣ d := Int.gcd_dvd_right _ _
        have := Int.le_of_dvd (by omega) h1; omega
      have HMM := Lib.hid hM
      clear hM
      have e1 : n.tdiv (Int.gcd n d : Int) = lowN n d := by rw [lowN, if_neg h1]; exact tdiv_dvd (Int.gcd_dvd_left _ _)
      have e2 : d.tdiv (Int.gcd n d : Int) = lowD n d := by rw [lowD, if_neg h1]; exact tdiv_dvd (Int.gcd_dvd_right _ _)
      have b := div_small (x := n) hg (by omega) (by omega)
      have b' := div_small (x := d) hg (by omega) (by omega)
      rw [show n / (Int.gcd n d : Int) = lowN n d by rw [lowN, if_neg h1]] at b
      rw [show d / (Int.gcd n d : Int) = lowD n d by rw [lowD, if_neg h1]] at b'
      obtain ⟨b1, b2⟩ := b
      obtain ⟨b3, b4⟩ := b'
      obtain ⟨N, hN⟩ : ∃ N, N = lowN n d := ⟨_, rfl⟩
      obtain ⟨D, hD⟩ : ∃ D, D = lowD n d := ⟨_, rfl⟩
      rw [← hN] at e1 b1 b2 F
      rw [← hD] at e2 b3 b4 F
      obtain ⟨G, hG⟩ : ∃ G, G = (Int.gcd n d : Int) := ⟨_, rfl⟩
      rw [← hG] at e1 e2 hg hu
      have GG := Lib.hid hG
      clear hN hD hG
      have E1 := Lib.hid e1
      have E2 := Lib.hid e2
      clear e1 e2
      have hDs : D ≤ 1000 := by
        rw [← E2.out]
        exact Int.le_trans (Int.tdiv_le_self _ (by omega)) hd1.2
      go_enter Try.func26, Try.ntmps26
      go_wp2_with fail
      refine (HO.out _ (by go_grown)).mono ?_
      rintro e w1 ⟨rfl, hb⟩
      obtain ⟨r0, r1, rf, rg, rl⟩ := kept2 (b := w.heap.size) (x := .int .i64 0) (y := .int .i64 0) hb ⟨by go_cell, by go_cell, (by (try simp only [frozen?_alloc_cells, World.frozen?_setCell, fz_drew, fz_drewN]); first | assumption | exact frozen_beyond (by (try simp only [World.size_alloc, World.size_setCell, World.size_drew, sz_drewN]); omega)), (by (try simp only [frozen?_alloc_cells, World.frozen?_setCell, fz_drew, fz_drewN]); first | assumption | exact frozen_beyond (by (try simp only [World.size_alloc, World.size_setCell, World.size_drew, sz_drewN]); omega)), (by (try simp only [World.size_alloc, World.size_setCell, World.size_drew, sz_drewN]); omega)⟩
      have B1 : Bl w w1 := Bl.tr (by go_grown) hb
      clear hb
      go_wp2_with fail
      refine (absW_any _ _ (by omega) (by omega)).mono ?_
      rintro e w1' ⟨rfl, hw⟩
      obtain rfl := hw
      go_wp2_with fail
      obtain ⟨V, hV⟩ : ∃ V, V = w1 := ⟨_, rfl⟩
      have BV : Bl w V := by rw [hV]; exact B1
      have HC0 := Lib.hid (show V.cell? ⟨w.heap.size, 0, none⟩ = some (.int .i64 0) ∧ V.cell? ⟨w.heap.size, 1, none⟩ = some (.int .i64 0) ∧ V.frozen? ⟨w.heap.size, 0, none⟩ = false ∧ V.frozen? ⟨w.heap.size, 1, none⟩ = false by rw [hV]; exact ⟨r0, r1, rf, rg⟩)
      rw [← hV]
      clear hV r0 r1 rf rg rl
      go_loopw [11, 12] (fun u v wr => ∃ x y : Int, u = .int .i64 x ∧ v = .int .i64 y ∧ 0 ≤ x ∧ x ≤ 4000000000000000000 ∧ 0 ≤ y ∧ y ≤ 4000000000000000000 ∧ Hid (Int.gcd x y = Int.gcd n d) ∧ ∃ k, wr = V.drewN k) (fun _ v _ => (intOf v).natAbs)
      case atStart => exact ⟨_, _, rfl, rfl, by omega, by omega, by omega, by omega, gcd_abs _ _ _ _ (by omega) (by omega), 0, rfl⟩
      case round =>
        obtain ⟨x, y, rfl, rfl, x1, x2, y1, y2, H, N0, rfl⟩ := hrel
        by_cases hy : y = 0
        · have Hy := Lib.hid hy
          have hx : x = G := by rw [GG.out, ← H.out, hy]; simp; omega
          subst hx
          have y0' : ¬ (0 < y) := by omega
          have hyy : y ≤ 0 := by omega
          clear hy
          have E1 := E1.out
          have E2 := E2.out
          have g0 : (x == 0) = false := by simp; omega
          have HCr := HC0.out
          obtain ⟨r0, r1, f0, f1⟩ := HCr
          have r0 : (V.drewN N0).cell? ⟨w.heap.size, 0, none⟩ = some (.int .i64 0) := r0
          have r1 : (V.drewN N0).cell? ⟨w.heap.size, 1, none⟩ = some (.int .i64 0) := r1
          have f0 : (V.drewN N0).frozen? ⟨w.heap.size, 0, none⟩ = false := f0
          have f1 : (V.drewN N0).frozen? ⟨w.heap.size, 1, none⟩ = false := f1
          have BR : Bl w (V.drewN N0) := BV.tr (Bl.dn _ _)
          obtain ⟨R, hR⟩ : ∃ R, R = V.drewN N0 := ⟨_, rfl⟩
          rw [← hR] at r0 r1 f0 f1 BR ⊢
          have lr := ltb r0
          clear hR HC0
          have E1' := Lib.hid E1
          have E2' := Lib.hid E2
          go_wp2_with fail
          go_region
          (try simp only [E1'.out, E2'.out])
          clear E1 E2
          obtain ⟨Y, hY⟩ : ∃ Y, Y = (R.alloc (.cells #[.int .i64 N, .int .i64 D] 42)).drew := ⟨_, rfl⟩
          have BY : Bl R Y := by rw [hY]; go_grown
          have s0 : Y.cell? ⟨R.heap.size, 0, none⟩ = some (.int .i64 N) := by rw [hY]; go_cell
          have s1 : Y.cell? ⟨R.heap.size, 1, none⟩ = some (.int .i64 D) := by rw [hY]; go_cell
          rw [← hY]
          clear hY
          have r0 := kcb BY r0
          have r1 := kcb BY r1
          have f0 := fzb BY f0 lr
          have f1 := fzb BY f1 lr
          have lr2 := ltb r0
          have ls2 := ltb s0
          have BR := BR.tr BY
          have hab : (N.natAbs : Int) = N ∨ (N.natAbs : Int) = -N := by omega
          by_cases q1 : 1000000000 < (N.natAbs : Int)
          · have HL := Lib.hid (show lowF n d = (0, 0, 4) by rw [F, if_pos (by omega)])
            go_wp2_with fail
            refine (absW_any _ _ (by omega) (by omega)).mono ?_
            rintro e w1 ⟨rfl, hw⟩
            obtain rfl := hw.symm
            go_wp2_with fail
            (try simp only [Exit.inBlock, Exit.then])
            refine bodyPost_ret (v := rR (0, 0, 4)) (by simp [results, Try.results26, go_sem, rR, r0, r1]) rfl ⟨by rw [HMM.out, HL.out], Below.trans BR (by go_grown)⟩
          · have q2 : ¬ 1000000000 < D := by omega
            have HL := Lib.hid (show lowF n d = (N, D, 0) by rw [F, if_neg (by omega)])
            go_wp2_with fail
            refine (absW_any _ _ (by omega) (by omega)).mono ?_
            rintro e w1 ⟨rfl, hw⟩
            obtain rfl := hw.symm
            go_wp2_with fail
            (try simp only [Exit.inBlock, Exit.then])
            refine bodyPost_ret (v := rR (N, D, 0)) (by simp [results, Try.results26, go_sem, rR, r0, r1]) rfl ⟨by rw [HMM.out, HL.out], Below.trans BR (by go_grown)⟩
        · have Hy := Lib.hid hy
          have hpos : 0 < y := by omega
          have Hs := Lib.hid (gcd_step2 x y x1 y1 hy)
          clear hy
          go_wp2_with fail
          go_quiet (fail)
          go_wp2_with fail
          go_roundw
          case rel =>
            obtain ⟨s1, s2, s3, s4⟩ := Hs.out
            exact ⟨y, x % y, rfl, rfl, y1, y2, by omega, by omega, s1.trans H.out, N0 + nq, by rw [World.drewN_drewN]⟩
          case measure =>
            obtain ⟨s1, s2, s3, s4⟩ := Hs.out
            simpa [intOf] using s4
  · rw [if_neg hc] at hM
    have HMM := Lib.hid hM
    have hC1n : (C != 0) = true := by simpa using hc
    clear hM hc
    go_enter Try.func26, Try.ntmps26
    go_wp2_with fail
    refine (HO.out _ (by go_grown)).mono ?_
    rintro e w1 ⟨rfl, hb⟩
    obtain ⟨r0, r1, rf, rg, rl⟩ := kept2 (b := w.heap.size) (x := .int .i64 0) (y := .int .i64 0) hb ⟨by go_cell, by go_cell, (by (try simp only [frozen?_alloc_cells, World.frozen?_setCell, fz_drew, fz_drewN]); first | assumption | exact frozen_beyond (by (try simp only [World.size_alloc, World.size_setCell, World.size_drew, sz_drewN]); omega)), (by (try simp only [frozen?_alloc_cells, World.frozen?_setCell, fz_drew, fz_drewN]); first | assumption | exact frozen_beyond (by (try simp only [World.size_alloc, World.size_setCell, World.size_drew, sz_drewN]); omega)), (by (try simp only [World.size_alloc, World.size_setCell, World.size_drew, sz_drewN]); omega)⟩
    have B1 : Bl w w1 := Bl.tr (by go_grown) hb
    clear hb
    go_wp2_with fail
    refine bodyPost_ret (v := rR (0, 0, C)) (by simp [results, Try.results26, go_sem, rR, r0, r1]) rfl ⟨by rw [HMM.out], ?_⟩
    exact Below.trans B1 (by go_grown)
end Go.Proofs.Ytbmenpfpeadckaa
