/-
  Daily and Weekly of the reference; Mean of both.
-/
import Derived.Test.YtbhdoafcjfcgfaaRS
import Derived.Test.YtbhdoafcjfcgfaaRP
import Derived.Deep.RegionLaw
namespace Go.Proofs.Ytbhdoafcjfcgfaa
open Go.RowKit
set_option linter.unusedSimpArgs false
set_option linter.unusedVariables false

theorem rates1q_any (s : ByteArray) (A : Option Addr) (n c : Nat) (E : Nat → Int) (w : World) (hA : Sl w A n E) (h1 : 1 ≤ n) (h4 : n ≤ 400) (hE : dyTo E n = true) :
    Calls Try.prog 38 #[encB s A n c, .int .i64 1] w fun e w' => Bl w w' ∧ ∃ A1 c1, e = .returned (.slice A1 (n - 1) c1) ∧ n - 1 ≤ c1 ∧ c1 ≤ maxLen ∧ Sl w' A1 (n - 1) (rtF E 1) := by
  refine (rates_any s A n c 1 E w hA h1 h4 (.inl rfl) hE).mono ?_
  rintro e w1 ⟨hb, v, rfl, ho⟩
  rw [Nat.div_one] at ho
  obtain ⟨A1, c1, rfl, k1, k2, h⟩ := sl_of_own ho
  exact ⟨hb, A1, c1, rfl, k1, k2, h⟩
theorem rates7q_any (s : ByteArray) (A : Option Addr) (n c : Nat) (E : Nat → Int) (w : World) (hA : Sl w A n E) (h1 : 1 ≤ n) (h4 : n ≤ 400) (hE : dyTo E n = true) :
    Calls Try.prog 38 #[encB s A n c, .int .i64 7] w fun e w' => Bl w w' ∧ ∃ A1 c1, e = .returned (.slice A1 ((n - 1) / 7) c1) ∧ (n - 1) / 7 ≤ c1 ∧ c1 ≤ maxLen ∧ Sl w' A1 ((n - 1) / 7) (rtF E 7) := by
  refine (rates_any s A n c 7 E w hA h1 h4 (.inr rfl) hE).mono ?_
  rintro e w1 ⟨hb, v, rfl, ho⟩
  obtain ⟨A1, c1, rfl, k1, k2, h⟩ := sl_of_own ho
  exact ⟨hb, A1, c1, rfl, k1, k2, h⟩

def meanF (s : ByteArray) (n : Nat) (E : Nat → Int) : Int × Int × Int := if vbB s n E = true then lowF (E (n - 1) - E 0) ((n : Int) - 1) else (0, 0, 1)

set_option maxRecDepth 100000 in
set_option maxHeartbeats 1600000 in
theorem rdaily_any (s : ByteArray) (A : Option Addr) (n c : Nat) (E : Nat → Int) (w : World) (hs : s.size ≤ maxLen) (hA : Sl w A n E) (hn : n ≤ c) (hc : c ≤ maxLen) :
    Calls Try.prog 10 #[encB s A n c] w (DayPost s n E w) := by
  have HA := Lib.hid hA
  have HS := Lib.hid hs
  have HC := Lib.hid hc
  have HN := Lib.hid (show n ≤ maxLen by omega)
  clear hA hs
  unfold maxLen at hc
  by_cases hv : vbB s n E = true
  rotate_left
  · have HV := Lib.hid (show vbB s n E = false by simpa using hv)
    clear hv
    go_enter Try.func10, Try.ntmps10
    go_wp2_with fail
    refine (rvalidBox_any s A n c E _ HS.out HN.out (HA.out.below (by go_grown))).mono ?_
    rintro q1 w1 ⟨rfl, hb⟩
    have x0 := kcb hb (b := w.heap.size) (o := 0) (v := .string s) (by first | assumption | (refine cellUp ?_; assumption) | go_cell)
    have x1 := kcb hb (b := w.heap.size) (o := 1) (v := .slice A n c) (by first | assumption | (refine cellUp ?_; assumption) | go_cell)
    have B1 : Bl w w1 := Below.trans (by go_grown) (hb.mono (by (try simp only [World.size_alloc, World.size_setCell, World.size_drew]); omega))
    have l1 := ltb x1
    have zz1 := B1.size
    clear hb
    rw [HV.out]
    go_wp2_with fail
    go_ret2
    exact ⟨B1, .inl ⟨HV.out, rfl⟩⟩
  · have HV := Lib.hid hv
    obtain ⟨_, n2, n4, hE⟩ := vbB_iff.1 hv
    have HE := Lib.hid hE
    clear hv hE
    go_enter Try.func10, Try.ntmps10
    go_wp2_with fail
    refine (rvalidBox_any s A n c E _ HS.out HN.out (HA.out.below (by go_grown))).mono ?_
    rintro q1 w1 ⟨rfl, hb⟩
    have x0 := kcb hb (b := w.heap.size) (o := 0) (v := .string s) (by first | assumption | (refine cellUp ?_; assumption) | go_cell)
    have x1 := kcb hb (b := w.heap.size) (o := 1) (v := .slice A n c) (by first | assumption | (refine cellUp ?_; assumption) | go_cell)
    have B1 : Bl w w1 := Below.trans (by go_grown) (hb.mono (by (try simp only [World.size_alloc, World.size_setCell, World.size_drew]); omega))
    have l1 := ltb x1
    have zz1 := B1.size
    clear hb
    rw [HV.out]
    go_wp2_with fail
    refine (rates1q_any s A n c E _ (HA.out.below B1) (by omega) n4 HE.out).mono ?_
    rintro q2 w2 ⟨hb, A1, c1, rfl, k1, k1', hA1⟩
    have B2 := B1.tr hb
    clear hb
    go_wp2_with fail
    go_ret2
    exact ⟨B2, .inr ⟨HV.out, A1, c1, by rw [Nat.div_one]; rfl, by rw [Nat.div_one]; exact k1, k1', by rw [Nat.div_one]; exact hA1⟩⟩

set_option maxRecDepth 100000 in
set_option maxHeartbeats 1600000 in
theorem rweekly_any (s : ByteArray) (A : Option Addr) (n c : Nat) (E : Nat → Int) (w : World) (hs : s.size ≤ maxLen) (hA : Sl w A n E) (hn : n ≤ c) (hc : c ≤ maxLen) :
    Calls Try.prog 12 #[encB s A n c] w (WeekPost s n E w) := by
  have HA := Lib.hid hA
  have HS := Lib.hid hs
  have HC := Lib.hid hc
  have HN := Lib.hid (show n ≤ maxLen by omega)
  clear hA hs
  unfold maxLen at hc
  by_cases hv : vbB s n E = true
  rotate_left
  · have HV := Lib.hid (show vbB s n E = false by simpa using hv)
    clear hv
    go_enter Try.func12, Try.ntmps12
    go_wp2_with fail
    refine (rvalidBox_any s A n c E _ HS.out HN.out (HA.out.below (by go_grown))).mono ?_
    rintro q1 w1 ⟨rfl, hb⟩
    have x0 := kcb hb (b := w.heap.size) (o := 0) (v := .string s) (by first | assumption | (refine cellUp ?_; assumption) | go_cell)
    have x1 := kcb hb (b := w.heap.size) (o := 1) (v := .slice A n c) (by first | assumption | (refine cellUp ?_; assumption) | go_cell)
    have B1 : Bl w w1 := Below.trans (by go_grown) (hb.mono (by (try simp only [World.size_alloc, World.size_setCell, World.size_drew]); omega))
    have l1 := ltb x1
    have zz1 := B1.size
    clear hb
    rw [HV.out]
    go_wp2_with fail
    go_ret2
    exact ⟨B1, .inl ⟨HV.out, rfl⟩⟩
  · have HV := Lib.hid hv
    obtain ⟨_, n2, n4, hE⟩ := vbB_iff.1 hv
    have HE := Lib.hid hE
    clear hv hE
    go_enter Try.func12, Try.ntmps12
    go_wp2_with fail
    refine (rvalidBox_any s A n c E _ HS.out HN.out (HA.out.below (by go_grown))).mono ?_
    rintro q1 w1 ⟨rfl, hb⟩
    have x0 := kcb hb (b := w.heap.size) (o := 0) (v := .string s) (by first | assumption | (refine cellUp ?_; assumption) | go_cell)
    have x1 := kcb hb (b := w.heap.size) (o := 1) (v := .slice A n c) (by first | assumption | (refine cellUp ?_; assumption) | go_cell)
    have B1 : Bl w w1 := Below.trans (by go_grown) (hb.mono (by (try simp only [World.size_alloc, World.size_setCell, World.size_drew]); omega))
    have l1 := ltb x1
    have zz1 := B1.size
    clear hb
    rw [HV.out]
    go_wp2_with fail
    refine (rates7q_any s A n c E _ (HA.out.below B1) (by omega) n4 HE.out).mono ?_
    rintro q2 w2 ⟨hb, A1, c1, rfl, k1, k1', hA1⟩
    have B2 := B1.tr hb
    clear hb
    obtain ⟨m, hm⟩ : ∃ m, m = (n - 1) / 7 := ⟨_, rfl⟩
    have m3 : m ≤ 57 := by omega
    rw [← hm] at k1 hA1 ⊢
    have HQ := Lib.hid hm
    have HA1 := Lib.hid hA1
    have HK1 := Lib.hid k1'
    clear hm hA1 k1'
    by_cases h0 : m = 0
    · have e0 : ((m : Int) == 0) = true := by simp [h0]
      have HZ := Lib.hid h0
      clear h0
      go_wp2_with fail
      go_ret2
      exact ⟨B2, .inr (.inl ⟨HV.out, by rw [← HQ.out]; exact HZ.out, rfl⟩)⟩
    · have e0 : ((m : Int) == 0) = false := by simp [h0]
      have HZ := Lib.hid h0
      clear h0
      go_wp2_with fail
      go_ret2
      exact ⟨B2, .inr (.inr ⟨HV.out, by rw [← HQ.out]; have := HZ.out; omega, A1, c1, by rw [← HQ.out]; rfl, by rw [← HQ.out]; exact k1, HK1.out, by rw [← HQ.out]; exact HA1.out⟩)⟩

set_option maxRecDepth 100000 in
set_option maxHeartbeats 1600000 in
theorem meanR_any (s : ByteArray) (A : Option Addr) (n c : Nat) (E : Nat → Int) (w : World) (hs : s.size ≤ maxLen) (hA : Sl w A n E) (hn : n ≤ c) (hc : c ≤ maxLen) :
    Calls Try.prog 13 #[encB s A n c] w fun e w' => e = .returned (rR (meanF s n E)) ∧ Bl w w' := by
  have HA := Lib.hid hA
  have HS := Lib.hid hs
  have HC := Lib.hid hc
  have HN := Lib.hid (show n ≤ maxLen by omega)
  clear hA hs
  unfold maxLen at hc
  by_cases hv : vbB s n E = true
  rotate_left
  · have HV := Lib.hid (show vbB s n E = false by simpa using hv)
    clear hv
    have HR := Lib.hid (show meanF s n E = (0, 0, 1) by rw [meanF, HV.out]; rfl)
    go_enter Try.func13, Try.ntmps13
    go_wp2_with fail
    refine (validBox_any s A n c E _ HS.out HN.out (HA.out.below (by go_grown))).mono ?_
    rintro q1 w1 ⟨rfl, hb⟩
    have x0 := kcb hb (b := w.heap.size) (o := 0) (v := .string s) (by first | assumption | (refine cellUp ?_; assumption) | go_cell)
    have x1 := kcb hb (b := w.heap.size) (o := 1) (v := .slice A n c) (by first | assumption | (refine cellUp ?_; assumption) | go_cell)
    have r0 := kcb hb (b := w.heap.size + 1) (o := 0) (v := .int .i64 0) (by first | assumption | (refine cellUp ?_; assumption) | go_cell)
    have r1 := kcb hb (b := w.heap.size + 1) (o := 1) (v := .int .i64 0) (by first | assumption | (refine cellUp ?_; assumption) | go_cell)
    have f0 := fzb hb (b := w.heap.size + 1) (o := 0) (by (try simp only [frozen?_alloc_cells, World.frozen?_setCell, World.frozen?_drew]); first | assumption | exact fz_new (by (try simp only [World.size_alloc, World.size_setCell, World.size_drew]); omega)) (by (try simp only [World.size_alloc, World.size_setCell, World.size_drew]); omega)
    have f1 := fzb hb (b := w.heap.size + 1) (o := 1) (by (try simp only [frozen?_alloc_cells, World.frozen?_setCell, World.frozen?_drew]); first | assumption | exact fz_new (by (try simp only [World.size_alloc, World.size_setCell, World.size_drew]); omega)) (by (try simp only [World.size_alloc, World.size_setCell, World.size_drew]); omega)
    have B1 : Bl w w1 := Below.trans (by go_grown) (hb.mono (by (try simp only [World.size_alloc, World.size_setCell, World.size_drew]); omega))
    have l1 := ltb r1
    have l1_1 := ltb x1
    have zz1 := B1.size
    clear hb
    rw [HV.out]
    go_wp2_with fail
    (try simp only [Exit.inBlock, Exit.then])
    refine bodyPost_ret (v := rR (0, 0, 1)) (by simp [results, Try.results13, go_sem, rR, r0, r1]) rfl ⟨by rw [HR.out], Below.trans B1 (by go_grown)⟩
  · have HV := Lib.hid hv
    obtain ⟨_, n2, n4, hE⟩ := vbB_iff.1 hv
    have HE := Lib.hid hE
    clear hv hE
    obtain ⟨b, off, rfl, hbb, hcb⟩ := HA.out (by omega)
    have HCB := Lib.hid hcb
    clear hcb
    have u1 := dyTo_at HE.out (show n - 1 < n by omega)
    have u2 := dyTo_at HE.out (show 0 < n by omega)
    obtain ⟨u, hu⟩ : ∃ u, u = E (n - 1) := ⟨_, rfl⟩
    obtain ⟨v, hv⟩ : ∃ v, v = E 0 := ⟨_, rfl⟩
    have HR := Lib.hid (show meanF s n E = lowF (u - v) ((n : Int) - 1) by rw [meanF, if_pos HV.out, hu, hv])
    have cu := HCB.out (n - 1) (by omega)
    have cv : w.cell? ⟨b, off, none⟩ = some (.int .i64 (E 0)) := HCB.out 0 (by omega)
    rw [← hu] at u1 cu
    rw [← hv] at u2 cv
    obtain ⟨u1, u1'⟩ := u1
    obtain ⟨u2, u2'⟩ := u2
    clear hu hv
    have HMK := Lib.hid (show makeF (u - v) ((n : Int) - 1) = lowF (u - v) ((n : Int) - 1) by rw [makeF, if_neg (by omega)])
    obtain ⟨q, hq⟩ : ∃ q, lowF (u - v) ((n : Int) - 1) = q := ⟨_, rfl⟩
    obtain ⟨z1, z2, z3⟩ := q
    have HLW := Lib.hid (show rR (lowF (u - v) ((n : Int) - 1)) = .tuple #[.agg #[.int .i64 z1, .int .i64 z2], .int .i64 z3] by rw [hq]; rfl)
    have HMK := Lib.hid (show rR (makeF (u - v) ((n : Int) - 1)) = .tuple #[.agg #[.int .i64 z1, .int .i64 z2], .int .i64 z3] by rw [HMK.out, hq]; rfl)
    rw [hq] at HR
    clear hq
    have tN : ((n : Int) - 1).toNat = n - 1 := by omega
    have n1 : (1 : Int) ≤ (n : Int) := by omega
    have n1' : (n : Int) - 1 < (n : Int) := by omega
    have n1'' : 0 < n := by omega
    have eN : IntKind.i64.wrap ((n : Int) - 1) = (n : Int) - 1 := IntWalk.i64_in _ (by omega)
    have eU : IntKind.i64.wrap (u - v) = u - v := IntWalk.i64_in _ (by omega)
    go_enter Try.func13, Try.ntmps13
    go_wp2_with fail
    refine (validBox_any s (some ⟨b, off, none⟩) n c E _ HS.out HN.out (HA.out.below (by go_grown))).mono ?_
    rintro q1 w1 ⟨rfl, hb⟩
    have x0 := kcb hb (b := w.heap.size) (o := 0) (v := .string s) (by first | assumption | (refine cellUp ?_; assumption) | go_cell)
    have x1 := kcb hb (b := w.heap.size) (o := 1) (v := .slice (some ⟨b, off, none⟩) n c) (by first | assumption | (refine cellUp ?_; assumption) | go_cell)
    have r0 := kcb hb (b := w.heap.size + 1) (o := 0) (v := .int .i64 0) (by first | assumption | (refine cellUp ?_; assumption) | go_cell)
    have r1 := kcb hb (b := w.heap.size + 1) (o := 1) (v := .int .i64 0) (by first | assumption | (refine cellUp ?_; assumption) | go_cell)
    have f0 := fzb hb (b := w.heap.size + 1) (o := 0) (by (try simp only [frozen?_alloc_cells, World.frozen?_setCell, World.frozen?_drew]); first | assumption | exact fz_new (by (try simp only [World.size_alloc, World.size_setCell, World.size_drew]); omega)) (by (try simp only [World.size_alloc, World.size_setCell, World.size_drew]); omega)
    have f1 := fzb hb (b := w.heap.size + 1) (o := 1) (by (try simp only [frozen?_alloc_cells, World.frozen?_setCell, World.frozen?_drew]); first | assumption | exact fz_new (by (try simp only [World.size_alloc, World.size_setCell, World.size_drew]); omega)) (by (try simp only [World.size_alloc, World.size_setCell, World.size_drew]); omega)
    have B1 : Bl w w1 := Below.trans (by go_grown) (hb.mono (by (try simp only [World.size_alloc, World.size_setCell, World.size_drew]); omega))
    have l1 := ltb r1
    have l1_1 := ltb x1
    have zz1 := B1.size
    clear hb
    rw [HV.out]
    have cu := (B1.cell (p := ⟨b, off + (n - 1), none⟩) hbb).trans cu
    have cv := (B1.cell (p := ⟨b, off, none⟩) hbb).trans cv
    go_wp2_with fail
    go_region_law (first | (go_simp; go_at_call 40; refine (make_any _ _ _).mono ?_; rintro e9 v9 ⟨rfl, hb9⟩; rw [HMK.out]; have r0 := kcb hb9 (b := w.heap.size + 1) (o := 0) (v := .int .i64 0) r0; have r1 := kcb hb9 (b := w.heap.size + 1) (o := 1) (v := .int .i64 0) r1; have f0 := fzb hb9 (b := w.heap.size + 1) (o := 0) f0 l1; have f1 := fzb hb9 (b := w.heap.size + 1) (o := 1) f1 l1; have BV9 := B1.tr (show Bl w1 v9 from Bl.tr (by go_grown) hb9); have lr9 := ltb r0))
    all_goals
      go_wp2_with fail
      (try simp only [Exit.inBlock, Exit.then])
      refine bodyPost_ret (v := rR (z1, z2, z3)) (by simp [results, Try.results13, go_sem, rR, r0, r1]) rfl ⟨by rw [HR.out], Below.trans BV9 (by go_grown)⟩
end Go.Proofs.Ytbhdoafcjfcgfaa
