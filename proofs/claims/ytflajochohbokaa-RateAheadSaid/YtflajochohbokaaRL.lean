/-
  The walk of RateOpposite.
-/
import Derived.Test.YtflajochohbokaaRK
namespace Go.Proofs.Ytflajochohbokaa
open Go.RowKit
set_option linter.unusedSimpArgs false
set_option linter.unusedVariables false

theorem grown_set (W : World) (b o : Nat) (v : Value) : W.grownBy (W.setCell ⟨b, o, none⟩ v) (some b) :=
  ⟨rfl, rfl, rfl, (KeepsWalks.setCell W _ v).size, fun k _ hk => Below.heap_setCell _ _ _ k (fun e => hk (by rw [e]))⟩
theorem mn_congr {f g : Nat → Int} {k : Nat} (h0 : f 0 = g 0) (h : ∀ j, j < k → f j = g j) : mnF f k = mnF g k := by
  induction k with
  | zero => exact h0
  | succ k ih => rw [mnF, mnF, ih (fun j hj => h j (by omega)), h k (by omega)]
theorem mx_congr {f g : Nat → Int} {k : Nat} (h0 : f 0 = g 0) (h : ∀ j, j < k → f j = g j) : mxF f k = mxF g k := by
  induction k with
  | zero => exact h0
  | succ k ih => rw [mxF, mxF, ih (fun j hj => h j (by omega)), h k (by omega)]
theorem lp_congr {f g : Nat → Int} {k : Nat} (h : ∀ j, j < k → f j = g j) : lpF f k = lpF g k := by
  induction k with
  | zero => rfl
  | succ k ih => rw [lpF, lpF, ih (fun j hj => h j (by omega)), h k (by omega)]
theorem mn_neg (f : Nat → Int) (k : Nat) : mnF (fun j => -f j) k = -mxF f k := by
  induction k with
  | zero => rfl
  | succ k ih => rw [mnF, mxF, ih]; omega
theorem mx_neg (f : Nat → Int) (k : Nat) : mxF (fun j => -f j) k = -mnF f k := by
  induction k with
  | zero => rfl
  | succ k ih => rw [mnF, mxF, ih]; omega
theorem lp_neg (f : Nat → Int) (k : Nat) : lpF (fun j => -f j) k = lpF f k := by
  induction k with
  | zero => rfl
  | succ k ih => rw [lpF, lpF, ih, Int.natAbs_neg]
/-- The errors turned round. -/
def ngF (E : Nat → Int) (j : Nat) : Int := IntKind.i64.wrap (-(E j))
theorem ng_at {E : Nat → Int} {n j : Nat} (h : dyTo E n = true) (hj : j < n) : ngF E j = -(E j) := by
  have := dyTo_at h hj
  unfold ngF
  exact IntWalk.i64_in _ (by omega)
theorem ng_vb {s : ByteArray} {n : Nat} {E : Nat → Int} (h : vbB s n E = true) : vbB s n (ngF E) = true := by
  obtain ⟨a, b, c, d⟩ := vbB_iff.1 h
  refine vbB_iff.2 ⟨a, b, c, dyTo_of fun k hk => ?_⟩
  rw [ng_at d hk]
  have := dyTo_at d hk
  omega
theorem ng_tr {s : ByteArray} {n : Nat} {E : Nat → Int} (h : vbB s n E = true) (h2 : 2 ≤ (n - 1) / 7) :
    mnF (rtF (ngF E) 7) ((n - 1) / 7) = -mxF (rtF E 7) ((n - 1) / 7) ∧ mxF (rtF (ngF E) 7) ((n - 1) / 7) = -mnF (rtF E 7) ((n - 1) / 7) ∧ lpF (stF (rtF (ngF E) 7)) ((n - 1) / 7 - 1) = lpF (stF (rtF E 7)) ((n - 1) / 7 - 1) := by
  obtain ⟨_, _, c, d⟩ := vbB_iff.1 h
  have e : ∀ j, j < (n - 1) / 7 → rtF (ngF E) 7 j = -(rtF E 7 j) := fun j hj => by
    unfold rtF
    rw [ng_at d (j := 7 * (j + 1)) (by omega), ng_at d (j := 7 * j) (by omega)]
    omega
  refine ⟨?_, ?_, ?_⟩
  · rw [← mn_neg]; exact mn_congr (e 0 (by omega)) e
  · rw [← mx_neg]; exact mx_congr (e 0 (by omega)) e
  · rw [← lp_neg]
    refine lp_congr fun j hj => ?_
    unfold stF
    rw [e j (by omega), e (j + 1) (by omega)]
    omega
theorem trR_shape (s : ByteArray) (n : Nat) (E : Nat → Int) : ∃ (s' : ByteArray) (a b l q e : Int), trR s n E = .tuple #[.agg #[.string s', .int .i64 a, .int .i64 b, .int .i64 l, .int .i64 q], .int .i64 e] := by
  unfold trR trV trZ
  split
  · exact ⟨_, _, _, _, _, _, rfl⟩
  · split
    · exact ⟨_, _, _, _, _, _, rfl⟩
    · exact ⟨_, _, _, _, _, _, rfl⟩
theorem own_set {w : World} {base b o : Nat} {e : TypeId} {size n g cap : Nat} {u : Value} {xs : List Value} (h : w.ownsRow base e size (.slice (some ⟨g, 0, none⟩) n cap) n xs) (hb : b < base) : (w.setCell ⟨b, o, none⟩ u).ownsRow base e size (.slice (some ⟨g, 0, none⟩) n cap) n xs := by
  refine h.kept (grown_set w b o u) (.inr ?_)
  have hl := h.lt g rfl
  simp [Value.ownBlock]
  omega

set_option maxRecDepth 100000 in
set_option maxHeartbeats 12800000 in
theorem opposite_walk (X : Bx) (w : World) (hX : BxOk w X) :
    Calls Try.prog 6 #[encB X.s X.A X.n X.c] w fun e w' => e = .returned (.bool true) ∧ Bl w w' := by
  obtain ⟨i0, hi0, hz0, hz1, hz2⟩ := info_parts6 int_info
  have HI := Lib.hid (And.intro hi0 (And.intro hz0 (And.intro hz1 hz2)))
  clear hi0 hz0 hz1 hz2
  obtain ⟨s, A, n, c, E⟩ := X
  have HX := Lib.hid hX
  obtain ⟨hs, hn, hc, hA⟩ := hX
  dsimp only at hs hn hc hA
  have HA := Lib.hid hA
  have HS := Lib.hid hs
  have HC := Lib.hid hc
  have HNC := Lib.hid hn
  have HN := Lib.hid (show n ≤ maxLen by omega)
  clear hA hs
  unfold maxLen at hc
  by_cases hf : ftF (fun _ => ⟨s, A, n, c, E⟩) 1 = true
  rotate_left
  · have HF := Lib.hid (show ftF (fun _ => ⟨s, A, n, c, E⟩) 1 = false by simpa using hf)
    clear hf
    go_enter Try.func6, Try.ntmps6
    go_wp2_with fail
    refine (fit_any _ 1 1 (fun _ => ⟨s, A, n, c, E⟩) _ (bxl_one (x := ⟨s, A, n, c, E⟩) (by go_cell) (by go_cell)) (fun j _ => HX.out.below (by go_grown)) (by decide)).mono ?_
    rintro q1 w1 ⟨rfl, hb⟩
    have x0 := kcb hb (b := w.heap.size) (o := 0) (v := .string s) (by first | assumption | (refine cellUp ?_; assumption) | go_cell)
    have x1 := kcb hb (b := w.heap.size) (o := 1) (v := .slice A n c) (by first | assumption | (refine cellUp ?_; assumption) | go_cell)
    have B1 : Bl w w1 := Below.trans (by go_grown) (hb.mono (by (try simp only [World.size_alloc, World.size_setCell]); omega))
    have l1 := ltb x1
    have zz1 := B1.size
    clear hb
    rw [HF.out]
    go_wp2_with fail
    refine (awakeR_any _).mono ?_
    rintro e w2 ⟨rfl, hb⟩
    go_wp2_with fail
    go_ret
    exact ⟨rfl, B1.tr hb⟩
  · have HF := Lib.hid hf
    have n41 : n ≤ 410 := by
      have h1 := hf
      simp only [ftF, ftTo, ftB, Bool.and_eq_true, decide_eq_true_eq] at h1
      omega
    clear hf
    go_enter Try.func6, Try.ntmps6
    go_wp2_with fail
    refine (fit_any _ 1 1 (fun _ => ⟨s, A, n, c, E⟩) _ (bxl_one (x := ⟨s, A, n, c, E⟩) (by go_cell) (by go_cell)) (fun j _ => HX.out.below (by go_grown)) (by decide)).mono ?_
    rintro q1 w1 ⟨rfl, hb⟩
    have x0 := kcb hb (b := w.heap.size) (o := 0) (v := .string s) (by first | assumption | (refine cellUp ?_; assumption) | go_cell)
    have x1 := kcb hb (b := w.heap.size) (o := 1) (v := .slice A n c) (by first | assumption | (refine cellUp ?_; assumption) | go_cell)
    have B1 : Bl w w1 := Below.trans (by go_grown) (hb.mono (by (try simp only [World.size_alloc, World.size_setCell]); omega))
    have l1 := ltb x1
    have zz1 := B1.size
    clear hb
    rw [HF.out]
    go_wp2_with fail
    obtain ⟨V, hV⟩ : ∃ V, V = w1.alloc (.cells #[.string s, .slice none 0 0] 24) := ⟨_, rfl⟩
    have BV0 : Bl w1 V := by rw [hV]; go_grown
    have y0 : V.cell? ⟨w1.heap.size, 0, none⟩ = some (.string s) := by rw [hV]; go_cell
    have y1 : V.cell? ⟨w1.heap.size, 1, none⟩ = some (.slice none 0 0) := by rw [hV]; go_cell
    have fy1 : V.frozen? ⟨w1.heap.size, 1, none⟩ = false := by rw [hV]; simp
    have BV : Bl w V := B1.tr BV0
    have zV : V.heap.size = w1.heap.size + 1 := by rw [hV]; simp
    rw [← hV]
    clear hV
    have HY0 := Lib.hid y0
    have HX0 := Lib.hid (And.intro x0 x1)
    have NV : World.ownsRow V (w1.heap.size + 1) 3 1 (.slice none 0 0) 0 [] := World.ownsRow_nil _ _ _ _
    clear y0 x0 x1
    go_loopw [21] (fun i wr => ∃ (k : Nat) (v : Value), k ≤ n ∧ i = .int .i64 k ∧ Hid (wr.cell? ⟨w1.heap.size, 0, none⟩ = some (.string s)) ∧ Hid (wr.cell? ⟨w1.heap.size, 1, none⟩ = some v ∧ wr.frozen? ⟨w1.heap.size, 1, none⟩ = false) ∧ Hid (wr.ownsRow (w1.heap.size + 1) 3 1 v k (inC (ngF E) k)) ∧ Bl w1 wr) (fun i _ => n - (RowKit.intOf i).toNat)
    case atStart => exact ⟨0, _, Nat.zero_le _, rfl, HY0, Lib.hid ⟨y1, fy1⟩, NV, BV0⟩
    case round =>
      clear y1 fy1
      obtain ⟨k, v, hk, rfl, HY, HYY, HO, hB⟩ := hrel
      have zB := hB.size
      have y0 := HY.out
      obtain ⟨y1, fy1⟩ := HYY.out
      have ly := ltb y0
      by_cases hlt : k < n
      · obtain ⟨b, off, rfl, hbb, hcc⟩ := (HA.out.below (B1.tr hB)) (by omega)
        have c0 := hcc k hlt
        clear hcc
        obtain ⟨z, hz⟩ : ∃ z, z = ngF E k := ⟨_, rfl⟩
        have e1 : IntKind.i64.wrap (-(E k)) = z := by rw [hz]; rfl
        have e2 : wrap64 (-(E k)) = z := by rw [← e1]; first | rfl | simp [wrap64, IntKind.wrap_i64]
        have HL := Lib.hid (show inC (ngF E) (k + 1) = inC (ngF E) k ++ [.int .i64 z] by rw [inC, hz])
        have len := inC_len (ngF E) k
        clear hz
        have hnew := Lib.hid (show (wr.alloc (.cells #[.int .i64 z] 3)).heap[wr.heap.size]? = some (.cells #[.int .i64 z] 3 (0, 0)) from heap_alloc_new wr _)
        go_wp2_with (at_builtin; refine wpList_append_lies _ rfl _ _ _ rfl (w1.heap.size + 1) 3 i0 _ 1 8 Try.underlying22 HI.out.1 HI.out.2.1 HI.out.2.2.1 HI.out.2.2.2 rfl (by omega) _ k (inC (ngF E) k) rfl (HO.out.alloc _) ⟨wr.heap.size, 0, none⟩ 1 1 [.int .i64 z] rfl rfl (World.news_of_block hnew.out) (by simp [Value.oneCell']) (by omega) (by unfold maxLen; omega) (by omega) (by (try simp only [World.size_alloc]); omega) _ rfl ?_; intro gg cap w9 hown1 hgrow hat hlt9; have hl := HO.out.lt; have X9 : Below (w1.heap.size + 1) wr w9 := Below.grown (w := wr.alloc (.cells #[.int .i64 z] 3)) (by go_grown) hgrow (by (try simp only [World.size_alloc]); omega) (fun j hj => (hl j hj).1); have c9 := (X9.cell (p := ⟨w1.heap.size, 1, none⟩) (Nat.lt_succ_self _)).trans y1; have f9 := (X9.frozen (p := ⟨w1.heap.size, 1, none⟩) (Nat.lt_succ_self _)).trans fy1; have d9 := (X9.cell (p := ⟨w1.heap.size, 0, none⟩) (Nat.lt_succ_self _)).trans y0; have l9 := ltb d9; have z9 := X9.size)
        have HO9 := Lib.hid (own_set (b := w1.heap.size) (o := 1) (u := .slice (some ⟨gg, 0, none⟩) (k + 1) cap) (show w9.ownsRow (w1.heap.size + 1) 3 1 (.slice (some ⟨gg, 0, none⟩) (k + 1) cap) (k + 1) (inC (ngF E) (k + 1)) by rw [HL.out]; exact hown1) (Nat.lt_succ_self _))
        go_roundw
        case rel => exact ⟨k + 1, _, by omega, by go_num, Lib.hid (by go_cell), Lib.hid ⟨by go_cell, by (try simp only [World.frozen?_setCell]); exact f9⟩, HO9, Below.setCell (Below.trans hB (X9.mono (by omega))) (p := ⟨w1.heap.size, 1, none⟩) (Nat.le_refl _) _⟩
        case measure => simp [RowKit.intOf]; omega
      · obtain rfl : n = k := by omega
        obtain ⟨A', cap, rfl, k1, k2, hA'⟩ := sl_of_own HO.out
        have HA' := Lib.hid hA'
        have K2 := Lib.hid k2
        clear hA' k2
        obtain ⟨x0, x1⟩ := HX0.out
        have BR : Bl w wr := B1.tr hB
        have x0 := kcb hB x0
        have x1 := kcb hB x1
        have lx := ltb x0
        have HTR := Lib.hid (And.intro (@trR_bad s n E) (And.intro (@trR_few s n E) (@trR_ok s n E)))
        have zR := BR.size
        by_cases hv : vbB s n E = true
        · have HV := Lib.hid hv
          by_cases h2 : 2 ≤ (n - 1) / 7
          · have HT1 := Lib.hid (HTR.out.2.2 hv h2)
            have HT2 := Lib.hid (trR_ok (ng_vb hv) h2)
            obtain ⟨g1, g2, g3⟩ := ng_tr hv h2
            obtain ⟨a, ha⟩ : ∃ a, mnF (rtF E 7) ((n - 1) / 7) = a := ⟨_, rfl⟩
            obtain ⟨b, hb'⟩ : ∃ b, mxF (rtF E 7) ((n - 1) / 7) = b := ⟨_, rfl⟩
            obtain ⟨l, hl⟩ : ∃ l, lpF (stF (rtF E 7)) ((n - 1) / 7 - 1) = l := ⟨_, rfl⟩
            have mb := mn_bd (f := rtF E 7) (k := (n - 1) / 7) (B := 172800000) (by omega) (fun j hj => rt_bd (.inr rfl) (vbB_iff.1 hv).2.2.2 hj)
            rw [ha, hb'] at mb
            obtain ⟨mb1, mb2⟩ := mb
            have mle := mn_le_mx (rtF E 7) ((n - 1) / 7)
            rw [ha, hb'] at mle
            have HTE := Lib.hid (trV_eq (s := s) ha hb' hl)
            rw [hb'] at g1
            rw [ha] at g2
            rw [hl] at g3
            have HTF := Lib.hid (trV_eq (s := s) g1 g2 g3)
            rw [show -a - -b + 2 * l = b - a + 2 * l by omega] at HTF
            have HT1 := Lib.hid (HT1.out.trans (by rw [HTE.out]))
            have HT2 := Lib.hid (HT2.out.trans (by rw [HTF.out]))
            clear ha hb' hl g1 g2 g3 hv
            obtain ⟨q, hq⟩ : ∃ q, q = b - a + 2 * l := ⟨_, rfl⟩
            rw [← hq] at HT1 HT2
            clear hq
            go_wp2_with fail
            refine (trial_any s A n c E _ HS.out (HA.out.below BR) HNC.out HC.out).mono ?_
            rintro q2 w2 ⟨rfl, hb⟩
            have x0 := kcb hb (b := w.heap.size) (o := 0) (v := .string s) (by first | assumption | (refine cellUp ?_; assumption) | go_cell)
            have x1 := kcb hb (b := w.heap.size) (o := 1) (v := .slice A n c) (by first | assumption | (refine cellUp ?_; assumption) | go_cell)
            have y0 := kcb hb (b := w1.heap.size) (o := 0) (v := .string s) (by first | assumption | (refine cellUp ?_; assumption) | go_cell)
            have y1 := kcb hb (b := w1.heap.size) (o := 1) (v := .slice A' n cap) (by first | assumption | (refine cellUp ?_; assumption) | go_cell)
            have B2 : Bl w w2 := Below.trans (by go_grown) (hb.mono (by (try simp only [World.size_alloc, World.size_setCell]); omega))
            have l2 := ltb y1
            have l2_1 := ltb x1
            have zz2 := B2.size
            have HA' := Lib.hid (HA'.out.below hb)
            clear hb
            rw [HT1.out]
            go_wp2_with fail
            refine (trial_any s A' n cap (ngF E) _ HS.out (HA'.out.below (by go_grown)) k1 K2.out).mono ?_
            rintro q3 w3 ⟨rfl, hb⟩
            have x0 := kcb hb (b := w.heap.size) (o := 0) (v := .string s) (by first | assumption | (refine cellUp ?_; assumption) | go_cell)
            have x1 := kcb hb (b := w.heap.size) (o := 1) (v := .slice A n c) (by first | assumption | (refine cellUp ?_; assumption) | go_cell)
            have y0 := kcb hb (b := w1.heap.size) (o := 0) (v := .string s) (by first | assumption | (refine cellUp ?_; assumption) | go_cell)
            have y1 := kcb hb (b := w1.heap.size) (o := 1) (v := .slice A' n cap) (by first | assumption | (refine cellUp ?_; assumption) | go_cell)
            have t0 := kcb hb (b := w2.heap.size) (o := 0) (v := .string s) (by first | assumption | (refine cellUp ?_; assumption) | go_cell)
            have t1 := kcb hb (b := w2.heap.size) (o := 1) (v := .int .i64 a) (by first | assumption | (refine cellUp ?_; assumption) | go_cell)
            have t2 := kcb hb (b := w2.heap.size) (o := 2) (v := .int .i64 b) (by first | assumption | (refine cellUp ?_; assumption) | go_cell)
            have t3 := kcb hb (b := w2.heap.size) (o := 3) (v := .int .i64 l) (by first | assumption | (refine cellUp ?_; assumption) | go_cell)
            have t4 := kcb hb (b := w2.heap.size) (o := 4) (v := .int .i64 q) (by first | assumption | (refine cellUp ?_; assumption) | go_cell)
            have B3 : Bl w w3 := Below.trans (by go_grown) (hb.mono (by (try simp only [World.size_alloc, World.size_setCell]); omega))
            have l3 := ltb t4
            have l3_1 := ltb y1
            have l3_2 := ltb x1
            have zz3 := B3.size
            clear hb
            rw [HT2.out]
            go_wp2_with fail
            refine (validBox_any s A n c E _ HS.out HN.out (HA.out.below (Bl.tr B3 (by go_grown)))).mono ?_
            rintro q4 w4 ⟨rfl, hb⟩
            have x0 := kcb hb (b := w.heap.size) (o := 0) (v := .string s) (by first | assumption | (refine cellUp ?_; assumption) | go_cell)
            have x1 := kcb hb (b := w.heap.size) (o := 1) (v := .slice A n c) (by first | assumption | (refine cellUp ?_; assumption) | go_cell)
            have y0 := kcb hb (b := w1.heap.size) (o := 0) (v := .string s) (by first | assumption | (refine cellUp ?_; assumption) | go_cell)
            have y1 := kcb hb (b := w1.heap.size) (o := 1) (v := .slice A' n cap) (by first | assumption | (refine cellUp ?_; assumption) | go_cell)
            have t0 := kcb hb (b := w2.heap.size) (o := 0) (v := .string s) (by first | assumption | (refine cellUp ?_; assumption) | go_cell)
            have t1 := kcb hb (b := w2.heap.size) (o := 1) (v := .int .i64 a) (by first | assumption | (refine cellUp ?_; assumption) | go_cell)
            have t2 := kcb hb (b := w2.heap.size) (o := 2) (v := .int .i64 b) (by first | assumption | (refine cellUp ?_; assumption) | go_cell)
            have t3 := kcb hb (b := w2.heap.size) (o := 3) (v := .int .i64 l) (by first | assumption | (refine cellUp ?_; assumption) | go_cell)
            have t4 := kcb hb (b := w2.heap.size) (o := 4) (v := .int .i64 q) (by first | assumption | (refine cellUp ?_; assumption) | go_cell)
            have u0 := kcb hb (b := w3.heap.size) (o := 0) (v := .string s) (by first | assumption | (refine cellUp ?_; assumption) | go_cell)
            have u1 := kcb hb (b := w3.heap.size) (o := 1) (v := .int .i64 (-b)) (by first | assumption | (refine cellUp ?_; assumption) | go_cell)
            have u2 := kcb hb (b := w3.heap.size) (o := 2) (v := .int .i64 (-a)) (by first | assumption | (refine cellUp ?_; assumption) | go_cell)
            have u3 := kcb hb (b := w3.heap.size) (o := 3) (v := .int .i64 l) (by first | assumption | (refine cellUp ?_; assumption) | go_cell)
            have u4 := kcb hb (b := w3.heap.size) (o := 4) (v := .int .i64 q) (by first | assumption | (refine cellUp ?_; assumption) | go_cell)
            have B4 : Bl w w4 := Below.trans (by go_grown) (hb.mono (by (try simp only [World.size_alloc, World.size_setCell]); omega))
            have l4 := ltb u4
            have l4_1 := ltb t4
            have l4_2 := ltb y1
            have l4_3 := ltb x1
            have zz4 := B4.size
            clear hb
            rw [HV.out]
            go_wp2_with fail
            refine (awakeR_any _).mono ?_
            rintro e w5 ⟨rfl, hb⟩
            go_wp2_with fail
            go_ret
            exact ⟨rfl, B4.tr hb⟩
          · have HT1 := Lib.hid (HTR.out.2.1 hv (by omega))
            have HT2 := Lib.hid (trR_few (ng_vb hv) (by omega))
            unfold trZ at HT1 HT2
            clear hv
            go_wp2_with fail
            refine (trial_any s A n c E _ HS.out (HA.out.below BR) HNC.out HC.out).mono ?_
            rintro q2 w2 ⟨rfl, hb⟩
            have x0 := kcb hb (b := w.heap.size) (o := 0) (v := .string s) (by first | assumption | (refine cellUp ?_; assumption) | go_cell)
            have x1 := kcb hb (b := w.heap.size) (o := 1) (v := .slice A n c) (by first | assumption | (refine cellUp ?_; assumption) | go_cell)
            have y0 := kcb hb (b := w1.heap.size) (o := 0) (v := .string s) (by first | assumption | (refine cellUp ?_; assumption) | go_cell)
            have y1 := kcb hb (b := w1.heap.size) (o := 1) (v := .slice A' n cap) (by first | assumption | (refine cellUp ?_; assumption) | go_cell)
            have B2 : Bl w w2 := Below.trans (by go_grown) (hb.mono (by (try simp only [World.size_alloc, World.size_setCell]); omega))
            have l2 := ltb y1
            have l2_1 := ltb x1
            have zz2 := B2.size
            have HA' := Lib.hid (HA'.out.below hb)
            clear hb
            rw [HT1.out]
            go_wp2_with fail
            refine (trial_any s A' n cap (ngF E) _ HS.out (HA'.out.below (by go_grown)) k1 K2.out).mono ?_
            rintro q3 w3 ⟨rfl, hb⟩
            have x0 := kcb hb (b := w.heap.size) (o := 0) (v := .string s) (by first | assumption | (refine cellUp ?_; assumption) | go_cell)
            have x1 := kcb hb (b := w.heap.size) (o := 1) (v := .slice A n c) (by first | assumption | (refine cellUp ?_; assumption) | go_cell)
            have y0 := kcb hb (b := w1.heap.size) (o := 0) (v := .string s) (by first | assumption | (refine cellUp ?_; assumption) | go_cell)
            have y1 := kcb hb (b := w1.heap.size) (o := 1) (v := .slice A' n cap) (by first | assumption | (refine cellUp ?_; assumption) | go_cell)
            have t0 := kcb hb (b := w2.heap.size) (o := 0) (v := .string ⟨#[]⟩) (by first | assumption | (refine cellUp ?_; assumption) | go_cell)
            have t1 := kcb hb (b := w2.heap.size) (o := 1) (v := .int .i64 0) (by first | assumption | (refine cellUp ?_; assumption) | go_cell)
            have t2 := kcb hb (b := w2.heap.size) (o := 2) (v := .int .i64 0) (by first | assumption | (refine cellUp ?_; assumption) | go_cell)
            have t3 := kcb hb (b := w2.heap.size) (o := 3) (v := .int .i64 0) (by first | assumption | (refine cellUp ?_; assumption) | go_cell)
            have t4 := kcb hb (b := w2.heap.size) (o := 4) (v := .int .i64 0) (by first | assumption | (refine cellUp ?_; assumption) | go_cell)
            have B3 : Bl w w3 := Below.trans (by go_grown) (hb.mono (by (try simp only [World.size_alloc, World.size_setCell]); omega))
            have l3 := ltb t4
            have l3_1 := ltb y1
            have l3_2 := ltb x1
            have zz3 := B3.size
            clear hb
            rw [HT2.out]
            go_wp2_with fail
            refine (validBox_any s A n c E _ HS.out HN.out (HA.out.below (Bl.tr B3 (by go_grown)))).mono ?_
            rintro q4 w4 ⟨rfl, hb⟩
            have x0 := kcb hb (b := w.heap.size) (o := 0) (v := .string s) (by first | assumption | (refine cellUp ?_; assumption) | go_cell)
            have x1 := kcb hb (b := w.heap.size) (o := 1) (v := .slice A n c) (by first | assumption | (refine cellUp ?_; assumption) | go_cell)
            have y0 := kcb hb (b := w1.heap.size) (o := 0) (v := .string s) (by first | assumption | (refine cellUp ?_; assumption) | go_cell)
            have y1 := kcb hb (b := w1.heap.size) (o := 1) (v := .slice A' n cap) (by first | assumption | (refine cellUp ?_; assumption) | go_cell)
            have t0 := kcb hb (b := w2.heap.size) (o := 0) (v := .string ⟨#[]⟩) (by first | assumption | (refine cellUp ?_; assumption) | go_cell)
            have t1 := kcb hb (b := w2.heap.size) (o := 1) (v := .int .i64 0) (by first | assumption | (refine cellUp ?_; assumption) | go_cell)
            have t2 := kcb hb (b := w2.heap.size) (o := 2) (v := .int .i64 0) (by first | assumption | (refine cellUp ?_; assumption) | go_cell)
            have t3 := kcb hb (b := w2.heap.size) (o := 3) (v := .int .i64 0) (by first | assumption | (refine cellUp ?_; assumption) | go_cell)
            have t4 := kcb hb (b := w2.heap.size) (o := 4) (v := .int .i64 0) (by first | assumption | (refine cellUp ?_; assumption) | go_cell)
            have u0 := kcb hb (b := w3.heap.size) (o := 0) (v := .string ⟨#[]⟩) (by first | assumption | (refine cellUp ?_; assumption) | go_cell)
            have u1 := kcb hb (b := w3.heap.size) (o := 1) (v := .int .i64 0) (by first | assumption | (refine cellUp ?_; assumption) | go_cell)
            have u2 := kcb hb (b := w3.heap.size) (o := 2) (v := .int .i64 0) (by first | assumption | (refine cellUp ?_; assumption) | go_cell)
            have u3 := kcb hb (b := w3.heap.size) (o := 3) (v := .int .i64 0) (by first | assumption | (refine cellUp ?_; assumption) | go_cell)
            have u4 := kcb hb (b := w3.heap.size) (o := 4) (v := .int .i64 0) (by first | assumption | (refine cellUp ?_; assumption) | go_cell)
            have B4 : Bl w w4 := Below.trans (by go_grown) (hb.mono (by (try simp only [World.size_alloc, World.size_setCell]); omega))
            have l4 := ltb u4
            have l4_1 := ltb t4
            have l4_2 := ltb y1
            have l4_3 := ltb x1
            have zz4 := B4.size
            clear hb
            rw [HV.out]
            go_wp2_with fail
            refine (awakeR_any _).mono ?_
            rintro e w5 ⟨rfl, hb⟩
            go_wp2_with fail
            go_ret
            exact ⟨rfl, B4.tr hb⟩
        · have HV := Lib.hid (show vbB s n E = false by simpa using hv)
          have HT1 := Lib.hid (HTR.out.1 HV.out)
          unfold trZ at HT1
          obtain ⟨s', a, b, l, q, e, hT2⟩ := trR_shape s n (ngF E)
          have HT2 := Lib.hid hT2
          clear hv hT2
          go_wp2_with fail
          refine (trial_any s A n c E _ HS.out (HA.out.below BR) HNC.out HC.out).mono ?_
          rintro q2 w2 ⟨rfl, hb⟩
          have x0 := kcb hb (b := w.heap.size) (o := 0) (v := .string s) (by first | assumption | (refine cellUp ?_; assumption) | go_cell)
          have x1 := kcb hb (b := w.heap.size) (o := 1) (v := .slice A n c) (by first | assumption | (refine cellUp ?_; assumption) | go_cell)
          have y0 := kcb hb (b := w1.heap.size) (o := 0) (v := .string s) (by first | assumption | (refine cellUp ?_; assumption) | go_cell)
          have y1 := kcb hb (b := w1.heap.size) (o := 1) (v := .slice A' n cap) (by first | assumption | (refine cellUp ?_; assumption) | go_cell)
          have B2 : Bl w w2 := Below.trans (by go_grown) (hb.mono (by (try simp only [World.size_alloc, World.size_setCell]); omega))
          have l2 := ltb y1
          have l2_1 := ltb x1
          have zz2 := B2.size
          have HA' := Lib.hid (HA'.out.below hb)
          clear hb
          rw [HT1.out]
          go_wp2_with fail
          refine (trial_any s A' n cap (ngF E) _ HS.out (HA'.out.below (by go_grown)) k1 K2.out).mono ?_
          rintro q3 w3 ⟨rfl, hb⟩
          have x0 := kcb hb (b := w.heap.size) (o := 0) (v := .string s) (by first | assumption | (refine cellUp ?_; assumption) | go_cell)
          have x1 := kcb hb (b := w.heap.size) (o := 1) (v := .slice A n c) (by first | assumption | (refine cellUp ?_; assumption) | go_cell)
          have y0 := kcb hb (b := w1.heap.size) (o := 0) (v := .string s) (by first | assumption | (refine cellUp ?_; assumption) | go_cell)
          have y1 := kcb hb (b := w1.heap.size) (o := 1) (v := .slice A' n cap) (by first | assumption | (refine cellUp ?_; assumption) | go_cell)
          have t0 := kcb hb (b := w2.heap.size) (o := 0) (v := .string ⟨#[]⟩) (by first | assumption | (refine cellUp ?_; assumption) | go_cell)
          have t1 := kcb hb (b := w2.heap.size) (o := 1) (v := .int .i64 0) (by first | assumption | (refine cellUp ?_; assumption) | go_cell)
          have t2 := kcb hb (b := w2.heap.size) (o := 2) (v := .int .i64 0) (by first | assumption | (refine cellUp ?_; assumption) | go_cell)
          have t3 := kcb hb (b := w2.heap.size) (o := 3) (v := .int .i64 0) (by first | assumption | (refine cellUp ?_; assumption) | go_cell)
          have t4 := kcb hb (b := w2.heap.size) (o := 4) (v := .int .i64 0) (by first | assumption | (refine cellUp ?_; assumption) | go_cell)
          have B3 : Bl w w3 := Below.trans (by go_grown) (hb.mono (by (try simp only [World.size_alloc, World.size_setCell]); omega))
          have l3 := ltb t4
          have l3_1 := ltb y1
          have l3_2 := ltb x1
          have zz3 := B3.size
          clear hb
          rw [HT2.out]
          go_wp2_with fail
          refine (validBox_any s A n c E _ HS.out HN.out (HA.out.below (Bl.tr B3 (by go_grown)))).mono ?_
          rintro q4 w4 ⟨rfl, hb⟩
          have x0 := kcb hb (b := w.heap.size) (o := 0) (v := .string s) (by first | assumption | (refine cellUp ?_; assumption) | go_cell)
          have x1 := kcb hb (b := w.heap.size) (o := 1) (v := .slice A n c) (by first | assumption | (refine cellUp ?_; assumption) | go_cell)
          have y0 := kcb hb (b := w1.heap.size) (o := 0) (v := .string s) (by first | assumption | (refine cellUp ?_; assumption) | go_cell)
          have y1 := kcb hb (b := w1.heap.size) (o := 1) (v := .slice A' n cap) (by first | assumption | (refine cellUp ?_; assumption) | go_cell)
          have t0 := kcb hb (b := w2.heap.size) (o := 0) (v := .string ⟨#[]⟩) (by first | assumption | (refine cellUp ?_; assumption) | go_cell)
          have t1 := kcb hb (b := w2.heap.size) (o := 1) (v := .int .i64 0) (by first | assumption | (refine cellUp ?_; assumption) | go_cell)
          have t2 := kcb hb (b := w2.heap.size) (o := 2) (v := .int .i64 0) (by first | assumption | (refine cellUp ?_; assumption) | go_cell)
          have t3 := kcb hb (b := w2.heap.size) (o := 3) (v := .int .i64 0) (by first | assumption | (refine cellUp ?_; assumption) | go_cell)
          have t4 := kcb hb (b := w2.heap.size) (o := 4) (v := .int .i64 0) (by first | assumption | (refine cellUp ?_; assumption) | go_cell)
          have u0 := kcb hb (b := w3.heap.size) (o := 0) (v := .string s') (by first | assumption | (refine cellUp ?_; assumption) | go_cell)
          have u1 := kcb hb (b := w3.heap.size) (o := 1) (v := .int .i64 a) (by first | assumption | (refine cellUp ?_; assumption) | go_cell)
          have u2 := kcb hb (b := w3.heap.size) (o := 2) (v := .int .i64 b) (by first | assumption | (refine cellUp ?_; assumption) | go_cell)
          have u3 := kcb hb (b := w3.heap.size) (o := 3) (v := .int .i64 l) (by first | assumption | (refine cellUp ?_; assumption) | go_cell)
          have u4 := kcb hb (b := w3.heap.size) (o := 4) (v := .int .i64 q) (by first | assumption | (refine cellUp ?_; assumption) | go_cell)
          have B4 : Bl w w4 := Below.trans (by go_grown) (hb.mono (by (try simp only [World.size_alloc, World.size_setCell]); omega))
          have l4 := ltb u4
          have l4_1 := ltb t4
          have l4_2 := ltb y1
          have l4_3 := ltb x1
          have zz4 := B4.size
          clear hb
          rw [HV.out]
          go_wp2_with fail
          refine (awakeR_any _).mono ?_
          rintro e w5 ⟨rfl, hb⟩
          go_wp2_with fail
          go_ret
          exact ⟨rfl, B4.tr hb⟩
end Go.Proofs.Ytflajochohbokaa
