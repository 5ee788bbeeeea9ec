/-
  Ahead of package rate.
-/
import Derived.Test.YtflajochohbokaaRK
namespace Go.Proofs.Ytflajochohbokaa
open Go.RowKit
set_option linter.unusedSimpArgs false
set_option linter.unusedVariables false

/-- The last L daily rates: the least and the greatest. -/
def laF (E : Nat → Int) (n L : Nat) (j : Nat) : Int := E (j + (n - 1 - L))
def alF (E : Nat → Int) (n L : Nat) : Int := mnF (stF (laF E n L)) L
def agF (E : Nat → Int) (n L : Nat) : Int := mxF (stF (laF E n L)) L
def spV (a b e : Int) : Value := .tuple #[.agg #[.int .i64 a, .int .i64 b], .int .i64 e]
/-- What Ahead returns. -/
def ahR (s : ByteArray) (n : Nat) (E : Nat → Int) (last days : Int) : Value :=
  if vbB s n E = false then spV 0 0 1 else if last < 1 ∨ days < 1 ∨ 400 < days then spV 0 0 7 else if (n : Int) - 1 < last then spV 0 0 8
  else spV (E (n - 1) + days * alF E n last.toNat) (E (n - 1) + days * agF E n last.toNat) 0
theorem ahR_bad {s : ByteArray} {n : Nat} {E : Nat → Int} {last days : Int} (h : vbB s n E = false) : ahR s n E last days = spV 0 0 1 := by rw [ahR, if_pos h]
theorem ahR_rng {s : ByteArray} {n : Nat} {E : Nat → Int} {last days : Int} (h : vbB s n E = true) (h2 : last < 1 ∨ days < 1 ∨ 400 < days) : ahR s n E last days = spV 0 0 7 := by rw [ahR, if_neg (by rw [h]; decide), if_pos h2]
theorem ahR_non {s : ByteArray} {n : Nat} {E : Nat → Int} {last days : Int} (h : vbB s n E = true) (h2 : ¬(last < 1 ∨ days < 1 ∨ 400 < days)) (h3 : (n : Int) - 1 < last) : ahR s n E last days = spV 0 0 8 := by rw [ahR, if_neg (by rw [h]; decide), if_neg h2, if_pos h3]
theorem ahR_ok {s : ByteArray} {n L : Nat} {E : Nat → Int} {days : Int} (h : vbB s n E = true) (h2 : 1 ≤ L ∧ 1 ≤ days ∧ days ≤ 400) (h3 : L ≤ n - 1) (h4 : 2 ≤ n) : ahR s n E L days = spV (E (n - 1) + days * alF E n L) (E (n - 1) + days * agF E n L) 0 := by
  rw [ahR, if_neg (by rw [h]; decide), if_neg (by omega), if_neg (by omega)]; rfl
theorem la_bd {E : Nat → Int} {n L : Nat} (hE : dyTo E n = true) (h3 : L ≤ n - 1) {j : Nat} (hj : j < L) : -172800000 ≤ stF (laF E n L) j ∧ stF (laF E n L) j ≤ 172800000 := by
  have a := dyTo_at hE (k := j + (n - 1 - L)) (by omega)
  have b := dyTo_at hE (k := j + 1 + (n - 1 - L)) (by omega)
  unfold stF laF
  omega
/-- The least and the greatest, and what a number of days make of them. -/
theorem al_bd {E : Nat → Int} {n L : Nat} (hE : dyTo E n = true) (h1 : 1 ≤ L) (h3 : L ≤ n - 1) : -172800000 ≤ alF E n L ∧ alF E n L ≤ agF E n L ∧ agF E n L ≤ 172800000 := by
  have h := mn_bd (f := stF (laF E n L)) (B := 172800000) h1 (fun j hj => la_bd hE h3 hj)
  exact ⟨h.1, mn_le_mx _ _, h.2⟩
theorem mul_bd {d a B : Int} (hd : 1 ≤ d ∧ d ≤ 400) (hB : 0 ≤ B) (ha : -B ≤ a ∧ a ≤ B) : -(400 * B) ≤ d * a ∧ d * a ≤ 400 * B := by
  have h1 : d * a ≤ d * B := Int.mul_le_mul_of_nonneg_left ha.2 (by omega)
  have h2 : d * (-B) ≤ d * a := Int.mul_le_mul_of_nonneg_left ha.1 (by omega)
  have h3 : d * B ≤ 400 * B := Int.mul_le_mul_of_nonneg_right hd.2 hB
  rw [Int.mul_neg] at h2
  omega
theorem ah_vS {E : Nat → Int} {n L : Nat} {d : Int} (hE : dyTo E n = true) (h1 : 1 ≤ L) (h3 : L ≤ n - 1) (h4 : 2 ≤ n) (hd : 1 ≤ d ∧ d ≤ 400) :
    (-70000000000 ≤ d * alF E n L ∧ d * alF E n L ≤ d * agF E n L ∧ d * agF E n L ≤ 70000000000) ∧ -86400000 ≤ E (n - 1) ∧ E (n - 1) ≤ 86400000 := by
  obtain ⟨a, b, c⟩ := al_bd hE h1 h3
  have m1 := mul_bd (a := alF E n L) (B := 172800000) hd (by omega) ⟨by omega, by omega⟩
  have m2 := mul_bd (a := agF E n L) (B := 172800000) hd (by omega) ⟨by omega, by omega⟩
  have m3 : d * alF E n L ≤ d * agF E n L := Int.mul_le_mul_of_nonneg_left b (by omega)
  exact ⟨⟨by omega, m3, by omega⟩, dyTo_at hE (by omega)⟩

set_option maxRecDepth 100000 in
set_option maxHeartbeats 1600000 in
theorem ahead_any (s : ByteArray) (A : Option Addr) (n c : Nat) (E : Nat → Int) (last days : Int) (w : World) (hs : s.size ≤ maxLen) (hA : Sl w A n E) (hn : n ≤ c) (hc : c ≤ maxLen) :
    Calls Try.prog 39 #[encB s A n c, .int .i64 last, .int .i64 days] w fun e w' => e = .returned (ahR s n E last days) ∧ Bl w w' := by
  have HA := Lib.hid hA
  have HS := Lib.hid hs
  have HC := Lib.hid hc
  have HN := Lib.hid (show n ≤ maxLen by omega)
  have HNC := Lib.hid hn
  clear hA hs
  unfold maxLen at hc
  by_cases hv : vbB s n E = true
  rotate_left
  · have HV := Lib.hid (show vbB s n E = false by simpa using hv)
    have HR := Lib.hid (ahR_bad (last := last) (days := days) HV.out)
    clear hv
    go_enter Try.func39, Try.ntmps39
    go_wp2_with fail
    refine (validBox_any s A n c E _ HS.out HN.out (HA.out.below (by go_grown))).mono ?_
    rintro q1 w1 ⟨rfl, hb⟩
    have x0 := kcb hb (b := w.heap.size) (o := 0) (v := .string s) (by first | assumption | (refine cellUp ?_; assumption) | go_cell)
    have x1 := kcb hb (b := w.heap.size) (o := 1) (v := .slice A n c) (by first | assumption | (refine cellUp ?_; assumption) | go_cell)
    have r0 := kcb hb (b := w.heap.size + 1) (o := 0) (v := .int .i64 0) (by first | assumption | (refine cellUp ?_; assumption) | go_cell)
    have r1 := kcb hb (b := w.heap.size + 1) (o := 1) (v := .int .i64 0) (by first | assumption | (refine cellUp ?_; assumption) | go_cell)
    have f0 := fzb hb (b := w.heap.size + 1) (o := 0) (by (try simp only [frozen?_alloc_cells, World.frozen?_setCell, World.frozen?_drew]); first | assumption | exact fz_new (by (try simp only [World.size_alloc, World.size_setCell, World.size_drew]); omega)) (by (try simp only [World.size_alloc, World.size_setCell, World.size_drew]); omega)
    have f1 := fzb hb (b := w.heap.size + 1) (o := 1) (by (try simp only [frozen?_alloc_cells, World.frozen?_setCell, World.frozen?_drew]); first | assumption | exact fz_new (by (try simp only [World.size_alloc, World.size_setCell, World.size_drew]); omega)) (by (try simp only [World.size_alloc, World.size_setCell, World.size_drew]); omega)
    have B1 : Bl w w1 := Below.trans (by go_grown) (hb.mono (by (try simp only [World.size_alloc, World.size_setCell, World.size_drew]); omega))
    have l1 := ltb r1
    have l1_1 := ltb x1
    have zz1 := B1.size
    clear hb
    rw [HV.out]
    go_wp2_with fail
    (try simp only [Exit.inBlock, Exit.then])
    refine bodyPost_ret (v := ahR s n E last days) (by rw [HR.out]; simp [results, Try.results39, go_sem, spV, r0, r1]) rfl ⟨rfl, Below.trans B1 (by go_grown)⟩
  · have HV := Lib.hid hv
    obtain ⟨_, n2, n4, hE⟩ := vbB_iff.1 hv
    have HE := Lib.hid hE
    clear hv hE
    by_cases q1 : last < 1
    · have HR := Lib.hid (ahR_rng HV.out (last := last) (days := days) (.inl q1))
      go_enter Try.func39, Try.ntmps39
      go_wp2_with fail
      refine (validBox_any s A n c E _ HS.out HN.out (HA.out.below (by go_grown))).mono ?_
      rintro q1 w1 ⟨rfl, hb⟩
      have x0 := kcb hb (b := w.heap.size) (o := 0) (v := .string s) (by first | assumption | (refine cellUp ?_; assumption) | go_cell)
      have x1 := kcb hb (b := w.heap.size) (o := 1) (v := .slice A n c) (by first | assumption | (refine cellUp ?_; assumption) | go_cell)
      have r0 := kcb hb (b := w.heap.size + 1) (o := 0) (v := .int .i64 0) (by first | assumption | (refine cellUp ?_; assumption) | go_cell)
      have r1 := kcb hb (b := w.heap.size + 1) (o := 1) (v := .int .i64 0) (by first | assumption | (refine cellUp ?_; assumption) | go_cell)
      have f0 := fzb hb (b := w.heap.size + 1) (o := 0) (by (try simp only [frozen?_alloc_cells, World.frozen?_setCell, World.frozen?_drew]); first | assumption | exact fz_new (by (try simp only [World.size_alloc, World.size_setCell, World.size_drew]); omega)) (by (try simp only [World.size_alloc, World.size_setCell, World.size_drew]); omega)
      have f1 := fzb hb (b := w.heap.size + 1) (o := 1) (by (try simp only [frozen?_alloc_cells, World.frozen?_setCell, World.frozen?_drew]); first | assumption | exact fz_new (by (try simp only [World.size_alloc, World.size_setCell, World.size_drew]); omega)) (by (try simp only [World.size_alloc, World.size_setCell, World.size_drew]); omega)
      have B1 : Bl w w1 := Below.trans (by go_grown) (hb.mono (by (try simp only [World.size_alloc, World.size_setCell, World.size_drew]); omega))
      have l1 := ltb r1
      have l1_1 := ltb x1
      have zz1 := B1.size
      clear hb
      rw [HV.out]
      go_wp2_with fail
      (try simp only [Exit.inBlock, Exit.then])
      refine bodyPost_ret (v := ahR s n E last days) (by rw [HR.out]; simp [results, Try.results39, go_sem, spV, r0, r1]) rfl ⟨rfl, Below.trans B1 (by go_grown)⟩
    · have q1' : 1 ≤ last := by omega
      clear q1
      by_cases q2 : days < 1
      · have HR := Lib.hid (ahR_rng HV.out (last := last) (days := days) (.inr (.inl q2)))
        go_enter Try.func39, Try.ntmps39
        go_wp2_with fail
        refine (validBox_any s A n c E _ HS.out HN.out (HA.out.below (by go_grown))).mono ?_
        rintro q1 w1 ⟨rfl, hb⟩
        have x0 := kcb hb (b := w.heap.size) (o := 0) (v := .string s) (by first | assumption | (refine cellUp ?_; assumption) | go_cell)
        have x1 := kcb hb (b := w.heap.size) (o := 1) (v := .slice A n c) (by first | assumption | (refine cellUp ?_; assumption) | go_cell)
        have r0 := kcb hb (b := w.heap.size + 1) (o := 0) (v := .int .i64 0) (by first | assumption | (refine cellUp ?_; assumption) | go_cell)
        have r1 := kcb hb (b := w.heap.size + 1) (o := 1) (v := .int .i64 0) (by first | assumption | (refine cellUp ?_; assumption) | go_cell)
        have f0 := fzb hb (b := w.heap.size + 1) (o := 0) (by (try simp only [frozen?_alloc_cells, World.frozen?_setCell, World.frozen?_drew]); first | assumption | exact fz_new (by (try simp only [World.size_alloc, World.size_setCell, World.size_drew]); omega)) (by (try simp only [World.size_alloc, World.size_setCell, World.size_drew]); omega)
        have f1 := fzb hb (b := w.heap.size + 1) (o := 1) (by (try simp only [frozen?_alloc_cells, World.frozen?_setCell, World.frozen?_drew]); first | assumption | exact fz_new (by (try simp only [World.size_alloc, World.size_setCell, World.size_drew]); omega)) (by (try simp only [World.size_alloc, World.size_setCell, World.size_drew]); omega)
        have B1 : Bl w w1 := Below.trans (by go_grown) (hb.mono (by (try simp only [World.size_alloc, World.size_setCell, World.size_drew]); omega))
        have l1 := ltb r1
        have l1_1 := ltb x1
        have zz1 := B1.size
        clear hb
        rw [HV.out]
        go_wp2_with fail
        (try simp only [Exit.inBlock, Exit.then])
        refine bodyPost_ret (v := ahR s n E last days) (by rw [HR.out]; simp [results, Try.results39, go_sem, spV, r0, r1]) rfl ⟨rfl, Below.trans B1 (by go_grown)⟩
      · have q2' : 1 ≤ days := by omega
        clear q2
        by_cases q3 : 400 < days
        · have HR := Lib.hid (ahR_rng HV.out (last := last) (days := days) (.inr (.inr q3)))
          go_enter Try.func39, Try.ntmps39
          go_wp2_with fail
          refine (validBox_any s A n c E _ HS.out HN.out (HA.out.below (by go_grown))).mono ?_
          rintro q1 w1 ⟨rfl, hb⟩
          have x0 := kcb hb (b := w.heap.size) (o := 0) (v := .string s) (by first | assumption | (refine cellUp ?_; assumption) | go_cell)
          have x1 := kcb hb (b := w.heap.size) (o := 1) (v := .slice A n c) (by first | assumption | (refine cellUp ?_; assumption) | go_cell)
          have r0 := kcb hb (b := w.heap.size + 1) (o := 0) (v := .int .i64 0) (by first | assumption | (refine cellUp ?_; assumption) | go_cell)
          have r1 := kcb hb (b := w.heap.size + 1) (o := 1) (v := .int .i64 0) (by first | assumption | (refine cellUp ?_; assumption) | go_cell)
          have f0 := fzb hb (b := w.heap.size + 1) (o := 0) (by (try simp only [frozen?_alloc_cells, World.frozen?_setCell, World.frozen?_drew]); first | assumption | exact fz_new (by (try simp only [World.size_alloc, World.size_setCell, World.size_drew]); omega)) (by (try simp only [World.size_alloc, World.size_setCell, World.size_drew]); omega)
          have f1 := fzb hb (b := w.heap.size + 1) (o := 1) (by (try simp only [frozen?_alloc_cells, World.frozen?_setCell, World.frozen?_drew]); first | assumption | exact fz_new (by (try simp only [World.size_alloc, World.size_setCell, World.size_drew]); omega)) (by (try simp only [World.size_alloc, World.size_setCell, World.size_drew]); omega)
          have B1 : Bl w w1 := Below.trans (by go_grown) (hb.mono (by (try simp only [World.size_alloc, World.size_setCell, World.size_drew]); omega))
          have l1 := ltb r1
          have l1_1 := ltb x1
          have zz1 := B1.size
          clear hb
          rw [HV.out]
          go_wp2_with fail
          (try simp only [Exit.inBlock, Exit.then])
          refine bodyPost_ret (v := ahR s n E last days) (by rw [HR.out]; simp [results, Try.results39, go_sem, spV, r0, r1]) rfl ⟨rfl, Below.trans B1 (by go_grown)⟩
        · have q3' : days ≤ 400 := by omega
          clear q3
          by_cases q4 : (n : Int) - 1 < last
          · have HR := Lib.hid (ahR_non HV.out (last := last) (days := days) (by omega) q4)
            go_enter Try.func39, Try.ntmps39
            go_wp2_with fail
            refine (validBox_any s A n c E _ HS.out HN.out (HA.out.below (by go_grown))).mono ?_
            rintro q1 w1 ⟨rfl, hb⟩
            have x0 := kcb hb (b := w.heap.size) (o := 0) (v := .string s) (by first | assumption | (refine cellUp ?_; assumption) | go_cell)
            have x1 := kcb hb (b := w.heap.size) (o := 1) (v := .slice A n c) (by first | assumption | (refine cellUp ?_; assumption) | go_cell)
            have r0 := kcb hb (b := w.heap.size + 1) (o := 0) (v := .int .i64 0) (by first | assumption | (refine cellUp ?_; assumption) | go_cell)
            have r1 := kcb hb (b := w.heap.size + 1) (o := 1) (v := .int .i64 0) (by first | assumption | (refine cellUp ?_; assumption) | go_cell)
            have f0 := fzb hb (b := w.heap.size + 1) (o := 0) (by (try simp only [frozen?_alloc_cells, World.frozen?_setCell, World.frozen?_drew]); first | assumption | exact fz_new (by (try simp only [World.size_alloc, World.size_setCell, World.size_drew]); omega)) (by (try simp only [World.size_alloc, World.size_setCell, World.size_drew]); omega)
            have f1 := fzb hb (b := w.heap.size + 1) (o := 1) (by (try simp only [frozen?_alloc_cells, World.frozen?_setCell, World.frozen?_drew]); first | assumption | exact fz_new (by (try simp only [World.size_alloc, World.size_setCell, World.size_drew]); omega)) (by (try simp only [World.size_alloc, World.size_setCell, World.size_drew]); omega)
            have B1 : Bl w w1 := Below.trans (by go_grown) (hb.mono (by (try simp only [World.size_alloc, World.size_setCell, World.size_drew]); omega))
            have l1 := ltb r1
            have l1_1 := ltb x1
            have zz1 := B1.size
            clear hb
            rw [HV.out]
            go_wp2_with fail
            (try simp only [Exit.inBlock, Exit.then])
            refine bodyPost_ret (v := ahR s n E last days) (by rw [HR.out]; simp [results, Try.results39, go_sem, spV, r0, r1]) rfl ⟨rfl, Below.trans B1 (by go_grown)⟩
          · have q4' : last ≤ (n : Int) - 1 := by omega
            clear q4
            obtain ⟨L, rfl⟩ : ∃ L : Nat, last = (L : Int) := ⟨last.toNat, by omega⟩
            have L1 : 1 ≤ L := by omega
            have Ln : L ≤ n - 1 := by omega
            have HR := Lib.hid (ahR_ok HV.out (L := L) (days := days) ⟨L1, q2', q3'⟩ Ln n2)
            obtain ⟨⟨v1, v2, v3⟩, v4, v5⟩ := ah_vS HE.out L1 Ln n2 ⟨q2', q3'⟩
            obtain ⟨K, hK⟩ : ∃ K, K = n - 1 - L := ⟨_, rfl⟩
            have kk : n - K - 1 = L := by omega
            have k1 : K ≤ n := by omega
            obtain ⟨b, off, rfl, hb0, hc0⟩ := HA.out (by omega)
            have HT := Lib.hid (show Sl w (some ⟨b, off + K, none⟩) (n - K) (laF E n L) by rw [hK]; exact HA.out.tail _ (by omega))
            have HB := Lib.hid (fun j (hj : j < L) => la_bd HE.out Ln hj)
            have eK : IntKind.i64.wrap ((n : Int) - 1 - (L : Int)) = (K : Int) := by rw [IntWalk.i64_in _ (by omega)]; omega
            have eK' : wrap64 ((n : Int) - 1 - (L : Int)) = (K : Int) := by rw [IntWalk.wrap64_in _ (by omega)]; omega
            obtain ⟨u, hu⟩ : ∃ u, u = E (n - 1) := ⟨_, rfl⟩
            have cu := hc0 (n - 1) (by omega)
            rw [← hu] at cu v4 v5 HR
            clear hc0 hK hu
            obtain ⟨a, ha⟩ : ∃ a, alF E n L = a := ⟨_, rfl⟩
            obtain ⟨g, hg⟩ : ∃ g, agF E n L = g := ⟨_, rfl⟩
            have HEN := Lib.hid (show enF (stF (laF E n L)) L = (a, g) by rw [enF_pos L1, ← ha, ← hg]; rfl)
            rw [ha, hg] at HR
            rw [ha] at v1 v2
            rw [hg] at v2 v3
            clear ha hg
            obtain ⟨P, hP⟩ : ∃ P, P = days * a := ⟨_, rfl⟩
            obtain ⟨Q, hQ⟩ : ∃ Q, Q = days * g := ⟨_, rfl⟩
            rw [← hP] at HR v1 v2
            rw [← hQ] at HR v2 v3
            have p1 : IntKind.i64.wrap (days * a) = P := by rw [IntWalk.i64_in _ (by omega), hP]
            have p1' : wrap64 (days * a) = P := by rw [IntWalk.wrap64_in _ (by omega), hP]
            have p2 : IntKind.i64.wrap (days * g) = Q := by rw [IntWalk.i64_in _ (by omega), hQ]
            have p2' : wrap64 (days * g) = Q := by rw [IntWalk.wrap64_in _ (by omega), hQ]
            have hvs := Lib.hid (show vS (u + P) (u + Q) = true by simp [vS]; omega)
            clear hP hQ
            go_enter Try.func39, Try.ntmps39
            go_wp2_with fail
            refine (validBox_any s (some ⟨b, off, none⟩) n c E _ HS.out HN.out (HA.out.below (by go_grown))).mono ?_
            rintro q1 w1 ⟨rfl, hb⟩
            have x0 := kcb hb (b := w.heap.size) (o := 0) (v := .string s) (by first | assumption | (refine cellUp ?_; assumption) | go_cell)
            have x1 := kcb hb (b := w.heap.size) (o := 1) (v := .slice (some ⟨b, off, none⟩) n c) (by first | assumption | (refine cellUp ?_; assumption) | go_cell)
            have r0 := kcb hb (b := w.heap.size + 1) (o := 0) (v := .int .i64 0) (by first | assumption | (refine cellUp ?_; assumption) | go_cell)
            have r1 := kcb hb (b := w.heap.size + 1) (o := 1) (v := .int .i64 0) (by first | assumption | (refine cellUp ?_; assumption) | go_cell)
            have f0 := fzb hb (b := w.heap.size + 1) (o := 0) (by (try simp only [frozen?_alloc_cells, World.frozen?_setCell, World.frozen?_drew]); first | assumption | exact fz_new (by (try simp only [World.size_alloc, World.size_setCell, World.size_drew]); omega)) (by (try simp only [World.size_alloc, World.size_setCell, World.size_drew]); omega)
            have f1 := fzb hb (b := w.heap.size + 1) (o := 1) (by (try simp only [frozen?_alloc_cells, World.frozen?_setCell, World.frozen?_drew]); first | assumption | exact fz_new (by (try simp only [World.size_alloc, World.size_setCell, World.size_drew]); omega)) (by (try simp only [World.size_alloc, World.size_setCell, World.size_drew]); omega)
            have B1 : Bl w w1 := Below.trans (by go_grown) (hb.mono (by (try simp only [World.size_alloc, World.size_setCell, World.size_drew]); omega))
            have l1 := ltb r1
            have l1_1 := ltb x1
            have zz1 := B1.size
            clear hb
            rw [HV.out]
            have cu1 := (B1.cell (p := ⟨b, off + (n - 1), none⟩) hb0).trans cu
            go_wp2_with fail
            have zS := zz1
            refine (steps_any (some ⟨b, off + K, none⟩) (n - K) (c - K) (laF E n L) _ (HT.out.below B1) (by omega) (by omega) (by have := HC.out; omega) (by rw [kk]; intro j hj; have := HB.out j hj; omega)).mono ?_
            rintro q2 w2 ⟨hb, gf, lb, rfl, hit⟩
            have cu1 := kcb hb cu1
            have x0 := kcb hb (b := w.heap.size) (o := 0) (v := .string s) (by first | assumption | (refine cellUp ?_; assumption) | go_cell)
            have x1 := kcb hb (b := w.heap.size) (o := 1) (v := .slice (some ⟨b, off, none⟩) n c) (by first | assumption | (refine cellUp ?_; assumption) | go_cell)
            have r0 := kcb hb (b := w.heap.size + 1) (o := 0) (v := .int .i64 0) (by first | assumption | (refine cellUp ?_; assumption) | go_cell)
            have r1 := kcb hb (b := w.heap.size + 1) (o := 1) (v := .int .i64 0) (by first | assumption | (refine cellUp ?_; assumption) | go_cell)
            have f0 := fzb hb (b := w.heap.size + 1) (o := 0) (by (try simp only [frozen?_alloc_cells, World.frozen?_setCell, World.frozen?_drew]); first | assumption | exact fz_new (by (try simp only [World.size_alloc, World.size_setCell, World.size_drew]); omega)) (by (try simp only [World.size_alloc, World.size_setCell, World.size_drew]); omega)
            have f1 := fzb hb (b := w.heap.size + 1) (o := 1) (by (try simp only [frozen?_alloc_cells, World.frozen?_setCell, World.frozen?_drew]); first | assumption | exact fz_new (by (try simp only [World.size_alloc, World.size_setCell, World.size_drew]); omega)) (by (try simp only [World.size_alloc, World.size_setCell, World.size_drew]); omega)
            have B2 : Bl w w2 := Below.trans (by go_grown) (hb.mono (by (try simp only [World.size_alloc, World.size_setCell, World.size_drew]); omega))
            have l2 := ltb r1
            have l2_1 := ltb x1
            have zz2 := B2.size
            clear hb
            rw [kk] at hit
            go_wp2_with fail
            refine (ends_any _ hit).mono ?_
            rintro q3 w3 ⟨rfl, hb⟩
            have x0 := kcb hb (b := w.heap.size) (o := 0) (v := .string s) (by first | assumption | (refine cellUp ?_; assumption) | go_cell)
            have x1 := kcb hb (b := w.heap.size) (o := 1) (v := .slice (some ⟨b, off, none⟩) n c) (by first | assumption | (refine cellUp ?_; assumption) | go_cell)
            have r0 := kcb hb (b := w.heap.size + 1) (o := 0) (v := .int .i64 0) (by first | assumption | (refine cellUp ?_; assumption) | go_cell)
            have r1 := kcb hb (b := w.heap.size + 1) (o := 1) (v := .int .i64 0) (by first | assumption | (refine cellUp ?_; assumption) | go_cell)
            have f0 := fzb hb (b := w.heap.size + 1) (o := 0) (by (try simp only [frozen?_alloc_cells, World.frozen?_setCell, World.frozen?_drew]); first | assumption | exact fz_new (by (try simp only [World.size_alloc, World.size_setCell, World.size_drew]); omega)) (by (try simp only [World.size_alloc, World.size_setCell, World.size_drew]); omega)
            have f1 := fzb hb (b := w.heap.size + 1) (o := 1) (by (try simp only [frozen?_alloc_cells, World.frozen?_setCell, World.frozen?_drew]); first | assumption | exact fz_new (by (try simp only [World.size_alloc, World.size_setCell, World.size_drew]); omega)) (by (try simp only [World.size_alloc, World.size_setCell, World.size_drew]); omega)
            have B3 : Bl w w3 := Below.trans (by go_grown) (hb.mono (by (try simp only [World.size_alloc, World.size_setCell, World.size_drew]); omega))
            have l3 := ltb r1
            have l3_1 := ltb x1
            have zz3 := B3.size
            have cu1 := kcb hb cu1
            clear hb
            rw [HEN.out]
            have tN : ((n : Int) - 1).toNat = n - 1 := by omega
            have lb3 := ltb cu1
            go_wp2_with fail
            go_region
            go_wp2_with fail
            refine (validSpan_any _ _ _).mono ?_
            rintro q4 w4 ⟨rfl, hb⟩
            have x0 := kcb hb (b := w.heap.size) (o := 0) (v := .string s) (by first | assumption | (refine cellUp ?_; assumption) | go_cell)
            have x1 := kcb hb (b := w.heap.size) (o := 1) (v := .slice (some ⟨b, off, none⟩) n c) (by first | assumption | (refine cellUp ?_; assumption) | go_cell)
            have r0 := kcb hb (b := w.heap.size + 1) (o := 0) (v := .int .i64 0) (by first | assumption | (refine cellUp ?_; assumption) | go_cell)
            have r1 := kcb hb (b := w.heap.size + 1) (o := 1) (v := .int .i64 0) (by first | assumption | (refine cellUp ?_; assumption) | go_cell)
            have t0 := kcb hb (b := w3.heap.size) (o := 0) (v := .int .i64 (u + P)) (by first | assumption | (refine cellUp ?_; assumption) | go_cell)
            have t1 := kcb hb (b := w3.heap.size) (o := 1) (v := .int .i64 (u + Q)) (by first | assumption | (refine cellUp ?_; assumption) | go_cell)
            have f0 := fzb hb (b := w.heap.size + 1) (o := 0) (by (try simp only [frozen?_alloc_cells, World.frozen?_setCell, World.frozen?_drew]); first | assumption | exact fz_new (by (try simp only [World.size_alloc, World.size_setCell, World.size_drew]); omega)) (by (try simp only [World.size_alloc, World.size_setCell, World.size_drew]); omega)
            have f1 := fzb hb (b := w.heap.size + 1) (o := 1) (by (try simp only [frozen?_alloc_cells, World.frozen?_setCell, World.frozen?_drew]); first | assumption | exact fz_new (by (try simp only [World.size_alloc, World.size_setCell, World.size_drew]); omega)) (by (try simp only [World.size_alloc, World.size_setCell, World.size_drew]); omega)
            have B4 : Bl w w4 := Below.trans (by go_grown) (hb.mono (by (try simp only [World.size_alloc, World.size_setCell, World.size_drew]); omega))
            have l4 := ltb t1
            have l4_1 := ltb r1
            have l4_2 := ltb x1
            have zz4 := B4.size
            clear hb
            rw [hvs.out]
            go_wp2_with fail
            (try simp only [Exit.inBlock, Exit.then])
            refine bodyPost_ret (v := ahR s n E L days) (by rw [HR.out]; simp [results, Try.results39, go_sem, spV, r0, r1]) rfl ⟨rfl, Below.trans B4 (by go_grown)⟩
end Go.Proofs.Ytflajochohbokaa
