/-
  Package sight: a further sight; the walk of SightNarrows.
-/
import Derived.Test.YtennmdlajealpaaUG
import Derived.Test.YtennmdlajealpaaUE
namespace Go.Proofs.Ytennmdlajealpaa
open Go.RowKit Go.Maps
set_option linter.unusedSimpArgs false
set_option linter.unusedVariables false

/-- Where there are more steps, bounds are no wider. -/
theorem btr_more {R : Nat → Int} {S S' : Nat → Sgt} {n m m' : Nat} {a b t x y x' y' k' : Int} (h : BtR R S n m a b t x y 0) (hw : ∀ p q w, Way R S m p q w → Way R S' m' p q w) (hv : VN R n S' m') (g : BtR R S' n m' a b t x' y' k') : k' = 9 ∨ (k' = 0 ∧ x ≤ x' ∧ y' ≤ y) := by
  obtain ⟨_, ha, hb, ht, hN, h1, h2, _, _⟩ := btr_ok h
  by_cases hk : k' = 0
  · subst hk
    obtain ⟨_, _, _, _, _, g1, g2, _, _⟩ := btr_ok g
    have u := g1.2 _ (hw _ _ _ h1.1)
    have v := g2.2 _ (hw _ _ _ h2.1)
    exact .inr ⟨rfl, by omega, u⟩
  · obtain ⟨_, _, g1⟩ := btr_bad g hk
    have c : (clB n a && clB n b) = true := by rw [clB_iff.2 ha, clB_iff.2 hb]; rfl
    rcases g1 with ⟨_, q⟩ | ⟨_, _, q⟩ | ⟨_, _, _, q⟩ | ⟨_, _, _, ⟨q, _⟩ | ⟨_, _, q⟩⟩
    · rw [vn_iff.2 hv] at q; cases q
    · rw [c] at q; cases q
    · rw [inB_iff.2 ht] at q; cases q
    · exact .inl q
    · exact absurd (hw _ _ _ h1.1) (q _)
theorem tkn_congr {S T : Nat → Sgt} {k : Nat} (h : S (k / 2) = T (k / 2)) : tkn S k = tkn T k := by unfold tkn; rw [h]
theorem way_sub {R : Nat → Int} {S T : Nat → Sgt} {m m' : Nat} (h : ∀ k, k < m → ∃ j, j < m' ∧ T j = S k) {p q : Spt} {w : Int} (hw : Way R S m p q w) : Way R T m' p q w := by
  induction hw with
  | nil => exact .nil _
  | sgt k hk g ih =>
    obtain ⟨j, hj, e⟩ := h (k / 2) (by omega)
    have e2 : tkn S k = tkn T (2 * j + k % 2) := by
      have a1 : (2 * j + k % 2) / 2 = j := by omega
      have a2 : (2 * j + k % 2) % 2 = k % 2 := by omega
      unfold tkn
      rw [a1, a2, e]
    rw [e2] at ih ⊢
    exact ih.sgt _ (by omega)
  | car r g hc h0 ih => exact ih.car r hc h0
theorem add_way {R : Nat → Int} {S : Nat → Sgt} {m : Nat} {s : Sgt} {p q : Spt} {w : Int} (hw : Way R S m p q w) : Way R (addS S m s) (m + 1) p q w :=
  way_sub (fun k hk => ⟨k, by omega, by simp [addS, hk]⟩) hw
theorem add_vn {R : Nat → Int} {n m : Nat} {S : Nat → Sgt} {s : Sgt} (h : VN R n S m) (hs : sgB n s = true) (h30 : m ≠ 30) : VN R n (addS S m s) (m + 1) :=
  ⟨h.n2, h.n8, h.r0, by have := h.m30; omega, h.ra, fun k hk => by
    unfold addS
    split
    · exact h.sg k (by assumption)
    · exact hs⟩
theorem addF_ok {R : Nat → Int} {n m : Nat} {S : Nat → Sgt} {s : Sgt} (h : (addF R n S m s).k = 0) : addF R n S m s = ⟨n, R, m + 1, addS S m s, 0⟩ ∧ VN R n S m ∧ VN R n (addS S m s) (m + 1) := by
  unfold addF at h ⊢
  split at h
  · simp [noN] at h
  · rename_i h1
    split at h
    · simp [noN] at h
    · rename_i h2
      have h1 : vnB R n S m = true ∧ sgB n s = true := by simpa using h1
      have hv := vn_iff.1 h1.1
      exact ⟨by rw [if_neg h2, if_neg (by rw [h1.1, h1.2]; decide)], hv, add_vn hv h1.2 h2⟩
set_option maxRecDepth 100000 in
set_option maxHeartbeats 12800000 in
theorem narrows_walk (A : Option Addr) (n c : Nat) (R : Nat → Int) (B : Option Addr) (m d : Nat) (S : Nat → Sgt) (s : Sgt) (c0 c1 c2 : Int) (w : World) (hA : Sl w A n R) (hB : Sgl w B m S) (hn : n ≤ c ∧ c ≤ maxLen) (hm : m ≤ d ∧ d ≤ maxLen) (rA : ∀ j, rngS (R j)) (rB : ∀ j, rngG (S j)) (rs : rngG s) :
    Calls Try.prog 9 #[encN A n c B m d, encG s, .agg #[.int .i64 c0, .int .i64 c1, .int .i64 c2]] w fun e w' => e = .returned (.bool true) ∧ Bl w w' := by
  have hn := Nat.le_trans hn.1 hn.2
  have hm := Nat.le_trans hm.1 hm.2
  have HBT := Lib.hid (fun (a b t : Int) (W : World) (hW : Bl w W) => between_any A n c R B m d S a b t W (hA.below hW) (hB.below hW) hn hm)
  have HAD := Lib.hid (fun (W : World) (hW : Bl w W) => added_any A n c R B m d S s W (hA.below hW) (hB.below hW) hn hm)
  clear hA hB hn hm rA rB rs
  go_enter Try.func9, Try.ntmps9
  go_wp2_with fail
  obtain ⟨Z1, hZ⟩ : ∃ Z, Z = (((w.alloc (Obj.cells #[.slice A n c, .slice B m d] 25)).alloc (Obj.cells #[.int .i64 s.tm, .int .i64 s.ca, .int .i64 s.cb, .int .i64 s.lo, .int .i64 s.hi] 52)).alloc (Obj.cells #[.int .i64 c0, .int .i64 c1, .int .i64 c2] 53)) := ⟨_, rfl⟩
  have bz : Bl w Z1 := by rw [hZ]; exact Bl.tr (Bl.tr (bl_alS _ _) (bl_alS _ _)) (bl_alS _ _)
  have x0 : Z1.cell? ⟨w.heap.size, 0, none⟩ = some (.slice A n c) := by rw [hZ]; go_cell
  have x1 : Z1.cell? ⟨w.heap.size, 1, none⟩ = some (.slice B m d) := by rw [hZ]; go_cell
  have y0 : Z1.cell? ⟨w.heap.size + 1, 0, none⟩ = some (.int .i64 s.tm) := by rw [hZ]; go_cell
  have y1 : Z1.cell? ⟨w.heap.size + 1, 1, none⟩ = some (.int .i64 s.ca) := by rw [hZ]; go_cell
  have y2 : Z1.cell? ⟨w.heap.size + 1, 2, none⟩ = some (.int .i64 s.cb) := by rw [hZ]; go_cell
  have y3 : Z1.cell? ⟨w.heap.size + 1, 3, none⟩ = some (.int .i64 s.lo) := by rw [hZ]; go_cell
  have y4 : Z1.cell? ⟨w.heap.size + 1, 4, none⟩ = some (.int .i64 s.hi) := by rw [hZ]; go_cell
  have z0 : Z1.cell? ⟨w.heap.size + 1 + 1, 0, none⟩ = some (.int .i64 c0) := by rw [hZ]; go_cell
  have z1 : Z1.cell? ⟨w.heap.size + 1 + 1, 1, none⟩ = some (.int .i64 c1) := by rw [hZ]; go_cell
  have z2 : Z1.cell? ⟨w.heap.size + 1 + 1, 2, none⟩ = some (.int .i64 c2) := by rw [hZ]; go_cell
  rw [← hZ]
  have HB1 := Lib.hid (bz)
  clear hZ bz
  have HLI := light_any A n c B m d Z1
  cases hq : ligB n m with
  | false =>
    rw [hq] at HLI
    refine (HLI).mono ?_
    rintro e w2 ⟨rfl, hb⟩
    replace x0 := kcb hb x0
    replace x1 := kcb hb x1
    replace y0 := kcb hb y0
    replace y1 := kcb hb y1
    replace y2 := kcb hb y2
    replace y3 := kcb hb y3
    replace y4 := kcb hb y4
    replace z0 := kcb hb z0
    replace z1 := kcb hb z1
    replace z2 := kcb hb z2
    have HB2 := Lib.hid (HB1.out.tr hb)
    clear hb
    have lz0 := ltb x0
    have lz1 := ltb y0
    have lz2 := ltb z0
    go_wp2_with fail
    refine (awakeS_any _).mono ?_
    rintro ea wa ⟨rfl, ha⟩
    go_wp2_with fail
    go_ret
    exact ⟨rfl, HB2.out.tr ha⟩
  | true =>
    rw [hq] at HLI
    refine (HLI).mono ?_
    rintro e w2 ⟨rfl, hb⟩
    replace x0 := kcb hb x0
    replace x1 := kcb hb x1
    replace y0 := kcb hb y0
    replace y1 := kcb hb y1
    replace y2 := kcb hb y2
    replace y3 := kcb hb y3
    replace y4 := kcb hb y4
    replace z0 := kcb hb z0
    replace z1 := kcb hb z1
    replace z2 := kcb hb z2
    have HB2 := Lib.hid (HB1.out.tr hb)
    clear HLI hq
    clear hb
    have lz0 := ltb x0
    have lz1 := ltb y0
    have lz2 := ltb z0
    go_wp2_with fail
    refine (HAD.out _ HB2.out).mono ?_
    rintro e w3 ⟨A1, d1, B1, d2, rfl, hn1, hm1, hs1, hs2, hb⟩
    replace x0 := kcb hb x0
    replace x1 := kcb hb x1
    replace y0 := kcb hb y0
    replace y1 := kcb hb y1
    replace y2 := kcb hb y2
    replace y3 := kcb hb y3
    replace y4 := kcb hb y4
    replace z0 := kcb hb z0
    replace z1 := kcb hb z1
    replace z2 := kcb hb z2
    have HB3 := Lib.hid (HB2.out.tr hb)
    have HS1 := Lib.hid hs1
    have HS2 := Lib.hid hs2
    have HN1 := Lib.hid hn1
    have HM1 := Lib.hid hm1
    clear hs1 hs2 hn1 hm1
    have HF := Lib.hid (addF_ok (R := R) (n := n) (m := m) (S := S) (s := s))
    obtain ⟨F, hF⟩ : ∃ F, F = addF R n S m s := ⟨_, rfl⟩
    rw [← hF] at HS1 HS2 HN1 HM1 HF ⊢
    clear hF
    obtain ⟨n1, R1, m1, S1, k1⟩ := F
    dsimp only at HS1 HS2 HN1 HM1 HF ⊢
    clear hb
    have lz0 := ltb x0
    have lz1 := ltb y0
    have lz2 := ltb z0
    go_wp2_with fail
    obtain ⟨Z4, hZ⟩ : ∃ Z, Z = (w3.alloc (Obj.cells #[.slice A1 n1 d1, .slice B1 m1 d2] 25)) := ⟨_, rfl⟩
    have bz : Bl w3 Z4 := by rw [hZ]; exact bl_alS _ _
    replace x0 := kcb bz x0
    replace x1 := kcb bz x1
    replace y0 := kcb bz y0
    replace y1 := kcb bz y1
    replace y2 := kcb bz y2
    replace y3 := kcb bz y3
    replace y4 := kcb bz y4
    replace z0 := kcb bz z0
    replace z1 := kcb bz z1
    replace z2 := kcb bz z2
    have p0 : Z4.cell? ⟨w3.heap.size, 0, none⟩ = some (.slice A1 n1 d1) := by rw [hZ]; go_cell
    have p1 : Z4.cell? ⟨w3.heap.size, 1, none⟩ = some (.slice B1 m1 d2) := by rw [hZ]; go_cell
    have bzz := Lib.hid bz
    rw [← hZ]
    have HB4 := Lib.hid (HB3.out.tr bz)
    clear hZ bz
    refine (HBT.out c0 c1 c2 _ HB4.out).mono ?_
    rintro e w7 ⟨xv1, yv1, kv1, rfl, hr1, hb⟩
    replace x0 := kcb hb x0
    replace x1 := kcb hb x1
    replace y0 := kcb hb y0
    replace y1 := kcb hb y1
    replace y2 := kcb hb y2
    replace y3 := kcb hb y3
    replace y4 := kcb hb y4
    replace z0 := kcb hb z0
    replace z1 := kcb hb z1
    replace z2 := kcb hb z2
    replace p0 := kcb hb p0
    replace p1 := kcb hb p1
    have HB5 := Lib.hid (HB4.out.tr hb)
    have lz0 := ltb x0
    have lz1 := ltb y0
    have lz2 := ltb z0
    have lz3 := ltb p0
    have HR1 := Lib.hid hr1
    have HS1 := Lib.hid (HS1.out.below (Bl.tr bzz.out hb))
    have HS2 := Lib.hid (HS2.out.below (Bl.tr bzz.out hb))
    clear hr1 hb
    rw [show spnV xv1 yv1 kv1 = .tuple #[.agg #[.int .i64 xv1, .int .i64 yv1], .int .i64 kv1] from rfl]
    by_cases hk1 : k1 = 0
    rotate_left
    · have hk2 : (k1 != 0) = true := by simp [hk1]
      clear hk1 HF
      go_wp2_with fail
      obtain ⟨Z6, hZ⟩ : ∃ Z, Z = (w7.alloc (Obj.cells #[.int .i64 xv1, .int .i64 yv1] 39)) := ⟨_, rfl⟩
      have bz : Bl w7 Z6 := by rw [hZ]; exact bl_alS _ _
      replace x0 := kcb bz x0
      replace x1 := kcb bz x1
      replace y0 := kcb bz y0
      replace y1 := kcb bz y1
      replace y2 := kcb bz y2
      replace y3 := kcb bz y3
      replace y4 := kcb bz y4
      replace z0 := kcb bz z0
      replace z1 := kcb bz z1
      replace z2 := kcb bz z2
      replace p0 := kcb bz p0
      replace p1 := kcb bz p1
      have q0 : Z6.cell? ⟨w7.heap.size, 0, none⟩ = some (.int .i64 xv1) := by rw [hZ]; go_cell
      have q1 : Z6.cell? ⟨w7.heap.size, 1, none⟩ = some (.int .i64 yv1) := by rw [hZ]; go_cell
      rw [← hZ]
      have HB6 := Lib.hid (HB5.out.tr bz)
      clear hZ bz
      refine (awakeS_any _).mono ?_
      rintro ea wa ⟨rfl, ha⟩
      go_wp2_with fail
      go_ret
      exact ⟨rfl, HB6.out.tr ha⟩
    subst hk1
    by_cases hk1 : kv1 = 0
    rotate_left
    · have hk2 : (kv1 != 0) = true := by simp [hk1]
      clear hk1 HF
      go_wp2_with fail
      obtain ⟨Z6, hZ⟩ : ∃ Z, Z = (w7.alloc (Obj.cells #[.int .i64 xv1, .int .i64 yv1] 39)) := ⟨_, rfl⟩
      have bz : Bl w7 Z6 := by rw [hZ]; exact bl_alS _ _
      replace x0 := kcb bz x0
      replace x1 := kcb bz x1
      replace y0 := kcb bz y0
      replace y1 := kcb bz y1
      replace y2 := kcb bz y2
      replace y3 := kcb bz y3
      replace y4 := kcb bz y4
      replace z0 := kcb bz z0
      replace z1 := kcb bz z1
      replace z2 := kcb bz z2
      replace p0 := kcb bz p0
      replace p1 := kcb bz p1
      have q0 : Z6.cell? ⟨w7.heap.size, 0, none⟩ = some (.int .i64 xv1) := by rw [hZ]; go_cell
      have q1 : Z6.cell? ⟨w7.heap.size, 1, none⟩ = some (.int .i64 yv1) := by rw [hZ]; go_cell
      rw [← hZ]
      have HB6 := Lib.hid (HB5.out.tr bz)
      clear hZ bz
      refine (awakeS_any _).mono ?_
      rintro ea wa ⟨rfl, ha⟩
      go_wp2_with fail
      go_ret
      exact ⟨rfl, HB6.out.tr ha⟩
    subst hk1
    obtain ⟨e1, hv, hv'⟩ := HF.out rfl
    simp only [NetF.mk.injEq, and_true] at e1
    obtain ⟨rfl, rfl, rfl, rfl⟩ := e1
    have HVN := Lib.hid hv'
    clear hv hv' HF
    have lp7 := Nat.lt_succ_of_lt (ltb p0)
    have lz7 := Nat.lt_succ_of_lt (ltb z0)
    go_wp2_with fail
    obtain ⟨Z6, hZ⟩ : ∃ Z, Z = (w7.alloc (Obj.cells #[.int .i64 xv1, .int .i64 yv1] 39)) := ⟨_, rfl⟩
    have bz : Bl w7 Z6 := by rw [hZ]; exact bl_alS _ _
    replace x0 := kcb bz x0
    replace x1 := kcb bz x1
    replace y0 := kcb bz y0
    replace y1 := kcb bz y1
    replace y2 := kcb bz y2
    replace y3 := kcb bz y3
    replace y4 := kcb bz y4
    replace z0 := kcb bz z0
    replace z1 := kcb bz z1
    replace z2 := kcb bz z2
    replace p0 := kcb bz p0
    replace p1 := kcb bz p1
    have q0 : Z6.cell? ⟨w7.heap.size, 0, none⟩ = some (.int .i64 xv1) := by rw [hZ]; go_cell
    have q1 : Z6.cell? ⟨w7.heap.size, 1, none⟩ = some (.int .i64 yv1) := by rw [hZ]; go_cell
    have bzq := Lib.hid bz
    rw [← hZ]
    have HB6 := Lib.hid (HB5.out.tr bz)
    clear hZ bz
    have HS1 := Lib.hid (HS1.out.below (show Bl w7 Z6 from bzq.out))
    have HS2 := Lib.hid (HS2.out.below (show Bl w7 Z6 from bzq.out))
    refine (between_any A1 n1 d1 R1 B1 (m + 1) d2 (addS S m s) c0 c1 c2 Z6 HS1.out HS2.out HN1.out HM1.out).mono ?_
    rintro e w8 ⟨xv2, yv2, kv2, rfl, hr2, hb⟩
    replace x0 := kcb hb x0
    replace x1 := kcb hb x1
    replace y0 := kcb hb y0
    replace y1 := kcb hb y1
    replace y2 := kcb hb y2
    replace y3 := kcb hb y3
    replace y4 := kcb hb y4
    replace z0 := kcb hb z0
    replace z1 := kcb hb z1
    replace z2 := kcb hb z2
    replace p0 := kcb hb p0
    replace p1 := kcb hb p1
    replace q0 := kcb hb q0
    replace q1 := kcb hb q1
    have HB7 := Lib.hid (HB6.out.tr hb)
    have lz0 := ltb x0
    have lz1 := ltb y0
    have lz2 := ltb z0
    have lz3 := ltb p0
    have lz4 := ltb q0
    have hmo := btr_more HR1.out (fun _ _ _ h => add_way h) HVN.out hr2
    clear hr2 hb HS1 HS2 bzz bzq
    rw [show spnV xv2 yv2 kv2 = .tuple #[.agg #[.int .i64 xv2, .int .i64 yv2], .int .i64 kv2] from rfl]
    rcases hmo with rfl | ⟨rfl, i1, i2⟩
    · go_wp2_with fail
      obtain ⟨Z8, hZ⟩ : ∃ Z, Z = (w8.alloc (Obj.cells #[.int .i64 xv2, .int .i64 yv2] 39)) := ⟨_, rfl⟩
      have bz : Bl w8 Z8 := by rw [hZ]; exact bl_alS _ _
      replace x0 := kcb bz x0
      replace x1 := kcb bz x1
      replace y0 := kcb bz y0
      replace y1 := kcb bz y1
      replace y2 := kcb bz y2
      replace y3 := kcb bz y3
      replace y4 := kcb bz y4
      replace z0 := kcb bz z0
      replace z1 := kcb bz z1
      replace z2 := kcb bz z2
      replace p0 := kcb bz p0
      replace p1 := kcb bz p1
      replace q0 := kcb bz q0
      replace q1 := kcb bz q1
      have r0 : Z8.cell? ⟨w8.heap.size, 0, none⟩ = some (.int .i64 xv2) := by rw [hZ]; go_cell
      have r1 : Z8.cell? ⟨w8.heap.size, 1, none⟩ = some (.int .i64 yv2) := by rw [hZ]; go_cell
      rw [← hZ]
      have HB8 := Lib.hid (HB7.out.tr bz)
      clear hZ bz
      refine (awakeS_any _).mono ?_
      rintro ea wa ⟨rfl, ha⟩
      go_wp2_with fail
      go_ret
      exact ⟨rfl, HB8.out.tr ha⟩
    · have HIN := Lib.hid (fun W => inside_yes xv2 yv2 xv1 yv1 W i1 i2)
      clear i1 i2
      have lq8 := Nat.lt_succ_of_lt (ltb q0)
      go_wp2_with fail
      obtain ⟨Z8, hZ⟩ : ∃ Z, Z = (w8.alloc (Obj.cells #[.int .i64 xv2, .int .i64 yv2] 39)) := ⟨_, rfl⟩
      have bz : Bl w8 Z8 := by rw [hZ]; exact bl_alS _ _
      replace x0 := kcb bz x0
      replace x1 := kcb bz x1
      replace y0 := kcb bz y0
      replace y1 := kcb bz y1
      replace y2 := kcb bz y2
      replace y3 := kcb bz y3
      replace y4 := kcb bz y4
      replace z0 := kcb bz z0
      replace z1 := kcb bz z1
      replace z2 := kcb bz z2
      replace p0 := kcb bz p0
      replace p1 := kcb bz p1
      replace q0 := kcb bz q0
      replace q1 := kcb bz q1
      have r0 : Z8.cell? ⟨w8.heap.size, 0, none⟩ = some (.int .i64 xv2) := by rw [hZ]; go_cell
      have r1 : Z8.cell? ⟨w8.heap.size, 1, none⟩ = some (.int .i64 yv2) := by rw [hZ]; go_cell
      rw [← hZ]
      have HB8 := Lib.hid (HB7.out.tr bz)
      clear hZ bz
      refine (HIN.out _).mono ?_
      rintro e w9 ⟨rfl, hb⟩
      replace x0 := kcb hb x0
      replace x1 := kcb hb x1
      replace y0 := kcb hb y0
      replace y1 := kcb hb y1
      replace y2 := kcb hb y2
      replace y3 := kcb hb y3
      replace y4 := kcb hb y4
      replace z0 := kcb hb z0
      replace z1 := kcb hb z1
      replace z2 := kcb hb z2
      replace p0 := kcb hb p0
      replace p1 := kcb hb p1
      replace q0 := kcb hb q0
      replace q1 := kcb hb q1
      replace r0 := kcb hb r0
      replace r1 := kcb hb r1
      have HB9 := Lib.hid (HB8.out.tr hb)
      clear hb
      have lz0 := ltb x0
      have lz1 := ltb y0
      have lz2 := ltb z0
      have lz3 := ltb p0
      have lz4 := ltb q0
      have lz5 := ltb r0
      go_wp2_with fail
      refine (awakeS_any _).mono ?_
      rintro ea wa ⟨rfl, ha⟩
      go_wp2_with fail
      go_ret
      exact ⟨rfl, HB9.out.tr ha⟩
end Go.Proofs.Ytennmdlajealpaa
