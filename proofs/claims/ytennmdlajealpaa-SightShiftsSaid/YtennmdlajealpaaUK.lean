/-
  Package sight: what a shifted net bounds; the walk of SightShifts.
-/
import Derived.Test.YtennmdlajealpaaUH
import Derived.Test.YtennmdlajealpaaUE
namespace Go.Proofs.Ytennmdlajealpaa
open Go.RowKit Go.Maps
set_option linter.unusedSimpArgs false
set_option linter.unusedVariables false

/-- By how much a point's error is greater. -/
def phS (a b : Int) (p : Spt) : Int := if p.1 = a then b else 0
theorem shf_tkn {S : Nat → Sgt} {a b : Int} {k : Nat} (h : (S (k / 2)).ca ≠ (S (k / 2)).cb) :
    (tkn (fun j => shfS a b (S j)) k).1 = (tkn S k).1 ∧ (tkn (fun j => shfS a b (S j)) k).2.1 = (tkn S k).2.1 ∧ (tkn (fun j => shfS a b (S j)) k).2.2 = (tkn S k).2.2 + phS a b (tkn S k).2.1 - phS a b (tkn S k).1 := by
  unfold tkn phS shfS
  by_cases h1 : (S (k / 2)).cb = a
  · have h2 : (S (k / 2)).ca ≠ a := by omega
    by_cases hk : k % 2 = 1
    · simp only [hk, if_true, h1, movS, spo_fst, h2, if_false]
      refine ⟨trivial, trivial, ?_⟩
      omega
    · simp only [hk, if_false, h1, if_true, movS, spo_fst, h2]
      refine ⟨trivial, trivial, ?_⟩
      omega
  · by_cases h2 : (S (k / 2)).ca = a
    · by_cases hk : k % 2 = 1
      · simp only [hk, if_true, h1, movS, spo_fst, h2, if_false]
        refine ⟨trivial, trivial, ?_⟩
        omega
      · simp only [hk, if_false, h1, if_true, movS, spo_fst, h2]
        refine ⟨trivial, trivial, ?_⟩
        omega
    · by_cases hk : k % 2 = 1
      · simp only [hk, if_true, h1, spo_fst, h2, if_false]
        refine ⟨trivial, trivial, ?_⟩
        omega
      · simp only [hk, if_false, h1, spo_fst, h2]
        refine ⟨trivial, trivial, ?_⟩
        omega
theorem shf_way {R : Nat → Int} {S : Nat → Sgt} {m : Nat} {a b : Int} (hS : ∀ k, k < m → (S k).ca ≠ (S k).cb) {p q : Spt} {w : Int} (h : Way R S m p q w) : Way R (fun j => shfS a b (S j)) m p q (w + phS a b q - phS a b p) := by
  induction h with
  | nil => exact (Way.nil _).cast (by omega)
  | sgt k hk g ih =>
    obtain ⟨e1, e2, e3⟩ := shf_tkn (S := S) (a := a) (b := b) (hS (k / 2) (by omega))
    rw [← e1] at ih
    have := ih.sgt k hk
    rw [e2] at this
    exact this.cast (by rw [e3, e1]; omega)
  | car r g hc h0 ih =>
    rename_i q0 w0
    have e : phS a b r = phS a b q0 := by unfold phS; rw [hc]
    exact (ih.car r hc h0).cast (by rw [e]; omega)
theorem shfS_back (a b : Int) (x : Sgt) : shfS a (-b) (shfS a b x) = x := by
  obtain ⟨t, ca, cb, lo, hi⟩ := x
  unfold shfS
  by_cases h1 : cb = a
  · simp only [h1, if_true, movS, Sgt.mk.injEq, true_and]
    omega
  · by_cases h2 : ca = a
    · simp only [h1, h2, if_true, if_false, movS, Sgt.mk.injEq, true_and]
      omega
    · simp only [h1, h2, if_false]
theorem shf_ne {a b : Int} {x : Sgt} (h : x.ca ≠ x.cb) : (shfS a b x).ca ≠ (shfS a b x).cb := by
  unfold shfS
  split
  · exact h
  · split <;> exact h
theorem shf_iff {R : Nat → Int} {S : Nat → Sgt} {m : Nat} {a b : Int} (hS : ∀ k, k < m → (S k).ca ≠ (S k).cb) {p q : Spt} {w : Int} : Way R S m p q w ↔ Way R (fun j => shfS a b (S j)) m p q (w + phS a b q - phS a b p) := by
  refine ⟨shf_way hS, fun h => ?_⟩
  have g := shf_way (a := a) (b := -b) (fun k hk => shf_ne (hS k hk)) h
  have e : (fun j => shfS a (-b) ((fun j => shfS a b (S j)) j)) = S := funext fun j => shfS_back a b (S j)
  rw [e] at g
  refine g.cast ?_
  unfold phS
  split <;> split <;> omega
theorem shf_noC {R : Nat → Int} {S : Nat → Sgt} {m : Nat} {a b : Int} (hS : ∀ k, k < m → (S k).ca ≠ (S k).cb) : NoC R (fun j => shfS a b (S j)) m ↔ NoC R S m := by
  constructor
  · intro h p w hw
    have := h p _ ((shf_iff hS (a := a) (b := b)).1 hw)
    omega
  · intro h p w hw
    have e : w = w + phS a b p - phS a b p := by omega
    rw [e] at hw
    exact h p w ((shf_iff hS).2 hw)
theorem shf_lst {R : Nat → Int} {S : Nat → Sgt} {m : Nat} {a b : Int} (hS : ∀ k, k < m → (S k).ca ≠ (S k).cb) {p q : Spt} {x : Int} (h : LstW R S m p q x) : LstW R (fun j => shfS a b (S j)) m p q (x + phS a b q - phS a b p) := by
  refine ⟨shf_way hS h.1, fun w hw => ?_⟩
  have e : w = (w - phS a b q + phS a b p) + phS a b q - phS a b p := by omega
  rw [e] at hw
  have := h.2 _ ((shf_iff hS).2 hw)
  omega
theorem shiftF_ok {R : Nat → Int} {n m : Nat} {S : Nat → Sgt} {a b : Int} (h : (shiftF R n S m a b).k = 0) : shiftF R n S m a b = ⟨n, R, m, fun j => shfS a b (S j), 0⟩ ∧ VN R n S m ∧ VN R n (fun j => shfS a b (S j)) m ∧ a ≠ 0 ∧ -86400000 ≤ b ∧ b ≤ 86400000 := by
  unfold shiftF at h ⊢
  split at h
  · simp [noN] at h
  · rename_i h1
    split at h
    · simp [noN] at h
    · rename_i h2
      split at h
      · simp [noN] at h
      · rename_i h3
        split at h
        · simp [noN] at h
        · rename_i h4
          have h1' : vnB R n S m = true := by simpa using h1
          have h4' : vnB R n (fun j => shfS a b (S j)) m = true := by simpa using h4
          have h3' : inB b (-86400000) 86400000 = true := by simpa using h3
          have h2' : clB n a = true ∧ a ≠ 0 := by simpa using h2
          refine ⟨by rw [if_neg h1, if_neg h2, if_neg h3, if_neg h4], vn_iff.1 h1', vn_iff.1 h4', h2'.2, (inB_iff.1 h3').1, (inB_iff.1 h3').2⟩
/-- A clock's error in a shifted net. -/
theorem btr_shf {R : Nat → Int} {S : Nat → Sgt} {n m : Nat} {a b c t x y k x' y' k' : Int} (hv : VN R n S m) (hv' : VN R n (fun j => shfS a b (S j)) m) (ha : a ≠ 0) (h : BtR R S n m c 0 t x y k) (g : BtR R (fun j => shfS a b (S j)) n m c 0 t x' y' k') :
    k' = k ∧ (k = 0 → x' = x + phS a b (c, t) ∧ y' = y + phS a b (c, t)) ∧ (k ≠ 0 → x' = x ∧ y' = y) := by
  have hS := vn_ne hv
  have e0 : phS a b (spo 0 t) = 0 := by unfold phS; rw [spo_fst, if_neg (fun e => ha e.symm)]
  have e1 : phS a b (spo c t) = phS a b (c, t) := by unfold phS; rw [spo_fst]
  by_cases hk : k = 0
  · subst hk
    obtain ⟨_, hc, h0, ht, hN, h1, h2, _, _⟩ := btr_ok h
    have l1 := shf_lst hS (a := a) (b := b) h1
    have l2 := shf_lst hS (a := a) (b := b) h2
    obtain ⟨rfl, e⟩ := btr_of_ok (x := x) hv' hc h0 ht ((shf_noC hS).2 hN) l1 g
    obtain ⟨_, _, _, _, _, g1, g2, _, _⟩ := btr_ok g
    have u := g2.uniq l2
    rw [e0, e1] at e u
    exact ⟨rfl, fun _ => ⟨by omega, by omega⟩, fun h => absurd rfl h⟩
  · obtain ⟨a1, a2, h1⟩ := btr_bad h hk
    have hk' : k' ≠ 0 := by
      rintro rfl
      obtain ⟨_, hc, h0, ht, hN, g1, g2, _, _⟩ := btr_ok g
      have hN' := (shf_noC hS).1 hN
      have e : y' = (y' - phS a b (spo c t) + phS a b (spo 0 t)) + phS a b (spo c t) - phS a b (spo 0 t) := by omega
      have w1 := g1.1
      rw [e] at w1
      have w1' := (shf_iff hS).2 w1
      have lw : LstW R S m (spo 0 t) (spo c t) (y' - phS a b (spo c t) + phS a b (spo 0 t)) := ⟨w1', fun w hw => by
        have := g1.2 _ (shf_way hS hw)
        omega⟩
      obtain ⟨q, _⟩ := btr_of_ok (x := x) hv hc h0 ht hN' lw h
      exact hk q
    obtain ⟨b1, b2, g1⟩ := btr_bad g hk'
    refine ⟨?_, fun e => absurd e hk, fun _ => ⟨by omega, by omega⟩⟩
    have v1 := vn_iff.2 hv
    have v2 := vn_iff.2 hv'
    rcases h1 with ⟨q1, q2⟩ | ⟨q1, q2, q3⟩ | ⟨q1, q2, q3, q4⟩ | ⟨q2, q3, q4, ⟨q1, q5⟩ | ⟨q1, q5, q6⟩⟩ <;>
    rcases g1 with ⟨r1, r2⟩ | ⟨r1, r2, r3⟩ | ⟨r1, r2, r3, r4⟩ | ⟨r2, r3, r4, ⟨r1, r5⟩ | ⟨r1, r5, r6⟩⟩ <;>
    first
      | omega
      | (rw [v1] at q2; exact Bool.noConfusion q2)
      | (rw [v2] at r2; exact Bool.noConfusion r2)
      | (rw [q3] at r3; exact Bool.noConfusion r3)
      | (rw [q4] at r4; exact Bool.noConfusion r4)
      | exact absurd ((shf_noC hS).2 q5) r5
      | exact absurd ((shf_noC hS).1 r5) q5
set_option maxRecDepth 100000 in
set_option maxHeartbeats 25600000 in
theorem shifts_walk (A : Option Addr) (n c : Nat) (R : Nat → Int) (B : Option Addr) (m d : Nat) (S : Nat → Sgt) (c0 c1 k0 k1 : Int) (w : World) (hA : Sl w A n R) (hB : Sgl w B m S) (hn : n ≤ c ∧ c ≤ maxLen) (hm : m ≤ d ∧ d ≤ maxLen) (rA : ∀ j, rngS (R j)) (rB : ∀ j, rngG (S j)) (rk0 : rngS k0) :
    Calls Try.prog 12 #[encN A n c B m d, .agg #[.int .i64 c0, .int .i64 c1], .agg #[.int .i64 k0, .int .i64 k1]] w fun e w' => e = .returned (.bool true) ∧ Bl w w' := by
  have hn := Nat.le_trans hn.1 hn.2
  have hm := Nat.le_trans hm.1 hm.2
  have HER := Lib.hid (fun (a : Int) (W : World) (hW : Bl w W) => error_any A n c R B m d S a k1 W (hA.below hW) (hB.below hW) hn hm)
  have HSH := Lib.hid (fun (W : World) (hW : Bl w W) => shiftedS_any A n c R B m d S c0 k0 W (hA.below hW) (hB.below hW) hn hm)
  clear hA hB hn hm rA rB rk0
  go_enter Try.func12, Try.ntmps12
  go_wp2_with fail
  obtain ⟨Z1, hZ⟩ : ∃ Z, Z = (((w.alloc (Obj.cells #[.slice A n c, .slice B m d] 25)).alloc (Obj.cells #[.int .i64 c0, .int .i64 c1] 37)).alloc (Obj.cells #[.int .i64 k0, .int .i64 k1] 37)) := ⟨_, rfl⟩
  have bz : Bl w Z1 := by rw [hZ]; exact Bl.tr (Bl.tr (bl_alS _ _) (bl_alS _ _)) (bl_alS _ _)
  have x0 : Z1.cell? ⟨w.heap.size, 0, none⟩ = some (.slice A n c) := by rw [hZ]; go_cell
  have x1 : Z1.cell? ⟨w.heap.size, 1, none⟩ = some (.slice B m d) := by rw [hZ]; go_cell
  have y0 : Z1.cell? ⟨w.heap.size + 1, 0, none⟩ = some (.int .i64 c0) := by rw [hZ]; go_cell
  have y1 : Z1.cell? ⟨w.heap.size + 1, 1, none⟩ = some (.int .i64 c1) := by rw [hZ]; go_cell
  have z0 : Z1.cell? ⟨w.heap.size + 1 + 1, 0, none⟩ = some (.int .i64 k0) := by rw [hZ]; go_cell
  have z1 : Z1.cell? ⟨w.heap.size + 1 + 1, 1, none⟩ = some (.int .i64 k1) := by rw [hZ]; go_cell
  rw [← hZ]
  have HB1 := Lib.hid (bz)
  clear hZ bz
  have HLI := light_any A n c B m d Z1
  cases hq : ligB n m with
  | false =>
    rw [hq] at HLI
    refine (HLI).mono ?_
    rintro e w2 ⟨rfl, hb⟩
    replace x0 := kcb hb x0
    replace x1 := kcb hb x1
    replace y0 := kcb hb y0
    replace y1 := kcb hb y1
    replace z0 := kcb hb z0
    replace z1 := kcb hb z1
    have HB2 := Lib.hid (HB1.out.tr hb)
    clear hb
    have lz0 := ltb x0
    have lz1 := ltb y0
    have lz2 := ltb z0
    go_wp2_with fail
    refine (awakeS_any _).mono ?_
    rintro ea wa ⟨rfl, ha⟩
    go_wp2_with fail
    go_ret
    exact ⟨rfl, HB2.out.tr ha⟩
  | true =>
    rw [hq] at HLI
    refine (HLI).mono ?_
    rintro e w2 ⟨rfl, hb⟩
    replace x0 := kcb hb x0
    replace x1 := kcb hb x1
    replace y0 := kcb hb y0
    replace y1 := kcb hb y1
    replace z0 := kcb hb z0
    replace z1 := kcb hb z1
    have HB2 := Lib.hid (HB1.out.tr hb)
    clear HLI hq
    clear hb
    have lz0 := ltb x0
    have lz1 := ltb y0
    have lz2 := ltb z0
    go_wp2_with fail
    refine (HSH.out _ HB2.out).mono ?_
    rintro e w3 ⟨A1, d1, B1, d2, rfl, hn1, hm1, hs1, hs2, hb⟩
    replace x0 := kcb hb x0
    replace x1 := kcb hb x1
    replace y0 := kcb hb y0
    replace y1 := kcb hb y1
    replace z0 := kcb hb z0
    replace z1 := kcb hb z1
    have HB3 := Lib.hid (HB2.out.tr hb)
    have lz0 := ltb x0
    have lz1 := ltb y0
    have lz2 := ltb z0
    have HS1 := Lib.hid hs1
    have HS2 := Lib.hid hs2
    have HN1 := Lib.hid hn1
    have HM1 := Lib.hid hm1
    clear hs1 hs2 hn1 hm1 hb
    have HF := Lib.hid (shiftF_ok (R := R) (n := n) (m := m) (S := S) (a := c0) (b := k0))
    obtain ⟨F, hF⟩ : ∃ F, F = shiftF R n S m c0 k0 := ⟨_, rfl⟩
    rw [← hF] at HS1 HS2 HN1 HM1 HF ⊢
    clear hF
    obtain ⟨n1, R1, m1, S1, kf⟩ := F
    dsimp only at HS1 HS2 HN1 HM1 HF ⊢
    by_cases hk1 : kf = 0
    rotate_left
    · have hk2 : (kf != 0) = true := by simp [hk1]
      clear hk1 HF
      go_wp2_with fail
      obtain ⟨Z4, hZ⟩ : ∃ Z, Z = (w3.alloc (Obj.cells #[.slice A1 n1 d1, .slice B1 m1 d2] 25)) := ⟨_, rfl⟩
      have bz : Bl w3 Z4 := by rw [hZ]; exact bl_alS _ _
      replace x0 := kcb bz x0
      replace x1 := kcb bz x1
      replace y0 := kcb bz y0
      replace y1 := kcb bz y1
      replace z0 := kcb bz z0
      replace z1 := kcb bz z1
      have p0 : Z4.cell? ⟨w3.heap.size, 0, none⟩ = some (.slice A1 n1 d1) := by rw [hZ]; go_cell
      have p1 : Z4.cell? ⟨w3.heap.size, 1, none⟩ = some (.slice B1 m1 d2) := by rw [hZ]; go_cell
      rw [← hZ]
      have HB4 := Lib.hid (HB3.out.tr bz)
      clear hZ bz
      refine (awakeS_any _).mono ?_
      rintro ea wa ⟨rfl, ha⟩
      go_wp2_with fail
      go_ret
      exact ⟨rfl, HB4.out.tr ha⟩
    subst hk1
    obtain ⟨e1, hv, hv', ha0, hb1, hb2⟩ := HF.out rfl
    simp only [NetF.mk.injEq, and_true] at e1
    obtain ⟨e2, e3, e4, e5⟩ := e1
    subst n1 R1 m1 S1
    have HVN := Lib.hid (And.intro hv (And.intro hv' ha0))
    have HK0 := Lib.hid (And.intro hb1 hb2)
    clear hv hv' ha0 hb1 hb2 HF
    have ly8 := Nat.lt_succ_of_lt (ltb y0)
    have lz8 := Nat.lt_succ_of_lt (ltb z0)
    have lx8 := Nat.lt_succ_of_lt (ltb x0)
    go_wp2_with fail
    have ls3_0 := ltb x0
    have ls3_1 := ltb y0
    have ls3_2 := ltb z0
    obtain ⟨Z4, hZ⟩ : ∃ Z, Z = (w3.alloc (Obj.cells #[.slice A1 n d1, .slice B1 m d2] 25)) := ⟨_, rfl⟩
    have bz : Bl w3 Z4 := by rw [hZ]; exact bl_alS _ _
    replace x0 := kcb bz x0
    replace x1 := kcb bz x1
    replace y0 := kcb bz y0
    replace y1 := kcb bz y1
    replace z0 := kcb bz z0
    replace z1 := kcb bz z1
    have p0 : Z4.cell? ⟨w3.heap.size, 0, none⟩ = some (.slice A1 n d1) := by rw [hZ]; go_cell
    have p1 : Z4.cell? ⟨w3.heap.size, 1, none⟩ = some (.slice B1 m d2) := by rw [hZ]; go_cell
    have HS1 := Lib.hid (HS1.out.below bz)
    have HS2 := Lib.hid (HS2.out.below bz)
    have hz4 := ltb p0
    rw [← hZ]
    have HB4 := Lib.hid (HB3.out.tr bz)
    clear hZ bz
    have HEY := Lib.hid (fun (a : Int) (W : World) (hW : Bl Z4 W) => error_any A1 n d1 R B1 m d2 (fun j => shfS c0 k0 (S j)) a k1 W (HS1.out.below hW) (HS2.out.below hW) HN1.out HM1.out)
    clear HS1 HS2 HN1 HM1
    have HZP := Lib.hid (show Bl Z4 Z4 from Below.refl _ _)
    refine (HER.out c0 _ HB4.out).mono ?_
    rintro e w5 ⟨xv1, yv1, kv1, rfl, hr1, hb⟩
    replace x0 := kcb hb x0
    replace x1 := kcb hb x1
    replace y0 := kcb hb y0
    replace y1 := kcb hb y1
    replace z0 := kcb hb z0
    replace z1 := kcb hb z1
    replace p0 := kcb hb p0
    replace p1 := kcb hb p1
    have HB5 := Lib.hid (HB4.out.tr hb)
    have lz0 := ltb x0
    have lz1 := ltb y0
    have lz2 := ltb z0
    have lz3 := ltb p0
    have HZP := Lib.hid (HZP.out.tr hb)
    have hzz5 := HZP.out.size
    have HR1 := Lib.hid hr1
    clear hr1 hb
    rw [show spnV xv1 yv1 kv1 = .tuple #[.agg #[.int .i64 xv1, .int .i64 yv1], .int .i64 kv1] from rfl]
    have lp8 := Nat.lt_succ_of_lt (ltb p0)
    have lz8 := Nat.lt_succ_of_lt (ltb z0)
    have ly8 := Nat.lt_succ_of_lt (ltb y0)
    go_wp2_with fail
    have ls5_0 := ltb x0
    have ls5_1 := ltb y0
    have ls5_2 := ltb z0
    have ls5_3 := ltb p0
    obtain ⟨Z6, hZ⟩ : ∃ Z, Z = (w5.alloc (Obj.cells #[.int .i64 xv1, .int .i64 yv1] 39)) := ⟨_, rfl⟩
    have bz : Bl w5 Z6 := by rw [hZ]; exact bl_alS _ _
    replace x0 := kcb bz x0
    replace x1 := kcb bz x1
    replace y0 := kcb bz y0
    replace y1 := kcb bz y1
    replace z0 := kcb bz z0
    replace z1 := kcb bz z1
    replace p0 := kcb bz p0
    replace p1 := kcb bz p1
    have q0 : Z6.cell? ⟨w5.heap.size, 0, none⟩ = some (.int .i64 xv1) := by rw [hZ]; go_cell
    have fq0 : Z6.frozen? ⟨w5.heap.size, 0, none⟩ = false := by rw [hZ]; go_cell
    have q1 : Z6.cell? ⟨w5.heap.size, 1, none⟩ = some (.int .i64 yv1) := by rw [hZ]; go_cell
    have fq1 : Z6.frozen? ⟨w5.heap.size, 1, none⟩ = false := by rw [hZ]; go_cell
    have HZP := Lib.hid (HZP.out.tr bz)
    rw [← hZ]
    have HB6 := Lib.hid (HB5.out.tr bz)
    clear hZ bz
    refine (HEY.out c0 _ HZP.out).mono ?_
    rintro e w6 ⟨xv2, yv2, kv2, rfl, hr2, hb⟩
    replace fq0 := fzb hb fq0 (ltb q0)
    replace fq1 := fzb hb fq1 (ltb q0)
    replace x0 := kcb hb x0
    replace x1 := kcb hb x1
    replace y0 := kcb hb y0
    replace y1 := kcb hb y1
    replace z0 := kcb hb z0
    replace z1 := kcb hb z1
    replace p0 := kcb hb p0
    replace p1 := kcb hb p1
    replace q0 := kcb hb q0
    replace q1 := kcb hb q1
    have HB7 := Lib.hid (HB6.out.tr hb)
    have lz0 := ltb x0
    have lz1 := ltb y0
    have lz2 := ltb z0
    have lz3 := ltb p0
    have lz4 := ltb q0
    have HZP := Lib.hid (HZP.out.tr hb)
    obtain ⟨hkk, hxy, hxz⟩ := btr_shf HVN.out.1 HVN.out.2.1 HVN.out.2.2 HR1.out hr2
    subst hkk
    rw [show phS c0 k0 (c0, k1) = k0 by simp [phS]] at hxy
    clear hr2 hb
    rw [show spnV xv2 yv2 kv2 = .tuple #[.agg #[.int .i64 xv2, .int .i64 yv2], .int .i64 kv2] from rfl]
    have ls7_0 := ltb x0
    have ls7_1 := ltb y0
    have ls7_2 := ltb z0
    have ls7_3 := ltb p0
    have ls7_4 := ltb q0
    have lq8 := Nat.lt_succ_of_lt (ltb q0)
    have lz8 := Nat.lt_succ_of_lt (ltb z0)
    have ly8 := Nat.lt_succ_of_lt (ltb y0)
    have lx8 := Nat.lt_succ_of_lt (ltb x0)
    have lw6 : w6.heap.size < w6.heap.size + 1 := Nat.lt_succ_self _
    by_cases hk0 : kv2 = 0
    · subst hk0
      obtain ⟨rfl, rfl⟩ := hxy rfl
      have hbd := btr_ok HR1.out
      have v1 : IntKind.i64.wrap (xv1 + k0) = xv1 + k0 := IntWalk.i64_in _ (by have := HK0.out; omega)
      have v2 : IntKind.i64.wrap (yv1 + k0) = yv1 + k0 := IntWalk.i64_in _ (by have := HK0.out; omega)
      clear hbd hxz hxy
      go_wp2_with fail
      obtain ⟨Z8, hZ⟩ : ∃ Z, Z = (w6.alloc (Obj.cells #[.int .i64 (xv1 + k0), .int .i64 (yv1 + k0)] 39)) := ⟨_, rfl⟩
      have bz : Bl w6 Z8 := by rw [hZ]; exact bl_alS _ _
      replace fq0 := fzb bz fq0 (ltb q0)
      replace fq1 := fzb bz fq1 (ltb q0)
      replace x0 := kcb bz x0
      replace x1 := kcb bz x1
      replace y0 := kcb bz y0
      replace y1 := kcb bz y1
      replace z0 := kcb bz z0
      replace z1 := kcb bz z1
      replace p0 := kcb bz p0
      replace p1 := kcb bz p1
      replace q0 := kcb bz q0
      replace q1 := kcb bz q1
      have r0 : Z8.cell? ⟨w6.heap.size, 0, none⟩ = some (.int .i64 (xv1 + k0)) := by rw [hZ]; go_cell
      have fr0 : Z8.frozen? ⟨w6.heap.size, 0, none⟩ = false := by rw [hZ]; go_cell
      have r1 : Z8.cell? ⟨w6.heap.size, 1, none⟩ = some (.int .i64 (yv1 + k0)) := by rw [hZ]; go_cell
      have fr1 : Z8.frozen? ⟨w6.heap.size, 1, none⟩ = false := by rw [hZ]; go_cell
      have HZP := Lib.hid (HZP.out.tr bz)
      rw [← hZ]
      have HB8 := Lib.hid (HB7.out.tr bz)
      clear hZ bz
      refine (HER.out c1 _ HB8.out).mono ?_
      rintro e w7 ⟨xv3, yv3, kv3, rfl, hr3, hb⟩
      replace fq0 := fzb hb fq0 (ltb q0)
      replace fq1 := fzb hb fq1 (ltb q0)
      replace fr0 := fzb hb fr0 (ltb r0)
      replace fr1 := fzb hb fr1 (ltb r0)
      replace x0 := kcb hb x0
      replace x1 := kcb hb x1
      replace y0 := kcb hb y0
      replace y1 := kcb hb y1
      replace z0 := kcb hb z0
      replace z1 := kcb hb z1
      replace p0 := kcb hb p0
      replace p1 := kcb hb p1
      replace q0 := kcb hb q0
      replace q1 := kcb hb q1
      replace r0 := kcb hb r0
      replace r1 := kcb hb r1
      have HB9 := Lib.hid (HB8.out.tr hb)
      have lz0 := ltb x0
      have lz1 := ltb y0
      have lz2 := ltb z0
      have lz3 := ltb p0
      have lz4 := ltb q0
      have lz5 := ltb r0
      have HZP := Lib.hid (HZP.out.tr hb)
      have HR3 := Lib.hid hr3
      clear hr3 hb
      rw [show spnV xv3 yv3 kv3 = .tuple #[.agg #[.int .i64 xv3, .int .i64 yv3], .int .i64 kv3] from rfl]
      have ls9_0 := ltb x0
      have ls9_1 := ltb y0
      have ls9_2 := ltb z0
      have ls9_3 := ltb p0
      have ls9_4 := ltb q0
      have ls9_5 := ltb r0
      go_wp2_with fail
      have HZ7 := Lib.hid (show Bl Z4 ((w7.setCell ⟨w5.heap.size, 0, none⟩ (.int .i64 xv3)).setCell ⟨w5.heap.size, 1, none⟩ (.int .i64 yv3)) from bl_set (bl_set HZP.out (by omega)) (by omega))
      obtain ⟨Z10, hZ⟩ : ∃ Z, Z = (w7.setCell ⟨w5.heap.size, 0, none⟩ (.int .i64 xv3)).setCell ⟨w5.heap.size, 1, none⟩ (.int .i64 yv3) := ⟨_, rfl⟩
      rw [← hZ] at HZ7
      rw [← hZ]
      replace fq0 : Z10.frozen? ⟨w5.heap.size, 0, none⟩ = false := by rw [hZ]; simpa using fq0
      replace fq1 : Z10.frozen? ⟨w5.heap.size, 1, none⟩ = false := by rw [hZ]; simpa using fq1
      replace fr0 : Z10.frozen? ⟨w6.heap.size, 0, none⟩ = false := by rw [hZ]; simpa using fr0
      replace fr1 : Z10.frozen? ⟨w6.heap.size, 1, none⟩ = false := by rw [hZ]; simpa using fr1
      replace x0 : Z10.cell? ⟨w.heap.size, 0, none⟩ = some (.slice A n c) := by rw [hZ]; exact cell_setO (cell_setO x0 (by omega)) (by omega)
      replace x1 : Z10.cell? ⟨w.heap.size, 1, none⟩ = some (.slice B m d) := by rw [hZ]; exact cell_setO (cell_setO x1 (by omega)) (by omega)
      replace y0 : Z10.cell? ⟨w.heap.size + 1, 0, none⟩ = some (.int .i64 c0) := by rw [hZ]; exact cell_setO (cell_setO y0 (by omega)) (by omega)
      replace y1 : Z10.cell? ⟨w.heap.size + 1, 1, none⟩ = some (.int .i64 c1) := by rw [hZ]; exact cell_setO (cell_setO y1 (by omega)) (by omega)
      replace z0 : Z10.cell? ⟨w.heap.size + 1 + 1, 0, none⟩ = some (.int .i64 k0) := by rw [hZ]; exact cell_setO (cell_setO z0 (by omega)) (by omega)
      replace z1 : Z10.cell? ⟨w.heap.size + 1 + 1, 1, none⟩ = some (.int .i64 k1) := by rw [hZ]; exact cell_setO (cell_setO z1 (by omega)) (by omega)
      replace p0 : Z10.cell? ⟨w3.heap.size, 0, none⟩ = some (.slice A1 n d1) := by rw [hZ]; exact cell_setO (cell_setO p0 (by omega)) (by omega)
      replace p1 : Z10.cell? ⟨w3.heap.size, 1, none⟩ = some (.slice B1 m d2) := by rw [hZ]; exact cell_setO (cell_setO p1 (by omega)) (by omega)
      replace r0 : Z10.cell? ⟨w6.heap.size, 0, none⟩ = some (.int .i64 (xv1 + k0)) := by rw [hZ]; exact cell_setO (cell_setO r0 (by omega)) (by omega)
      replace r1 : Z10.cell? ⟨w6.heap.size, 1, none⟩ = some (.int .i64 (yv1 + k0)) := by rw [hZ]; exact cell_setO (cell_setO r1 (by omega)) (by omega)
      have q1N : Z10.cell? ⟨w5.heap.size, 1, none⟩ = some (.int .i64 yv3) := by rw [hZ]; exact put_1U q0 q1 _ _
      replace q0 : Z10.cell? ⟨w5.heap.size, 0, none⟩ = some (.int .i64 xv3) := by rw [hZ]; exact put_0U q0 _ _
      clear q1
      have q1 := q1N
      clear q1N
      have HB10 := Lib.hid (show Bl w Z10 by rw [hZ]; exact bl_set (bl_set HB9.out (by omega)) (by omega))
      clear hZ
      refine (HEY.out c1 _ HZ7.out).mono ?_
      rintro e w8 ⟨xv4, yv4, kv4, rfl, hr4, hb⟩
      replace fq0 := fzb hb fq0 (ltb q0)
      replace fq1 := fzb hb fq1 (ltb q0)
      replace fr0 := fzb hb fr0 (ltb r0)
      replace fr1 := fzb hb fr1 (ltb r0)
      replace x0 := kcb hb x0
      replace x1 := kcb hb x1
      replace y0 := kcb hb y0
      replace y1 := kcb hb y1
      replace z0 := kcb hb z0
      replace z1 := kcb hb z1
      replace p0 := kcb hb p0
      replace p1 := kcb hb p1
      replace r0 := kcb hb r0
      replace r1 := kcb hb r1
      replace q0 := kcb hb q0
      replace q1 := kcb hb q1
      have HB11 := Lib.hid (HB10.out.tr hb)
      have lz0 := ltb x0
      have lz1 := ltb y0
      have lz2 := ltb z0
      have lz3 := ltb p0
      have lz4 := ltb r0
      have lz5 := ltb q0
      obtain ⟨hkk, hxy, hxz⟩ := btr_shf HVN.out.1 HVN.out.2.1 HVN.out.2.2 HR3.out hr4
      subst hkk
      clear hr4 hb
      rw [show spnV xv4 yv4 kv4 = .tuple #[.agg #[.int .i64 xv4, .int .i64 yv4], .int .i64 kv4] from rfl]
      by_cases hc : c1 = c0
      · have hc1 : (c1 == c0) = true := by simp [hc]
        clear hc hxy hxz
        go_wp2_with fail
        obtain ⟨Z12, hZ⟩ : ∃ Z, Z = (w8.setCell ⟨w6.heap.size, 0, none⟩ (.int .i64 xv4)).setCell ⟨w6.heap.size, 1, none⟩ (.int .i64 yv4) := ⟨_, rfl⟩
        rw [← hZ]
        replace fq0 : Z12.frozen? ⟨w5.heap.size, 0, none⟩ = false := by rw [hZ]; simpa using fq0
        replace fq1 : Z12.frozen? ⟨w5.heap.size, 1, none⟩ = false := by rw [hZ]; simpa using fq1
        replace fr0 : Z12.frozen? ⟨w6.heap.size, 0, none⟩ = false := by rw [hZ]; simpa using fr0
        replace fr1 : Z12.frozen? ⟨w6.heap.size, 1, none⟩ = false := by rw [hZ]; simpa using fr1
        replace x0 : Z12.cell? ⟨w.heap.size, 0, none⟩ = some (.slice A n c) := by rw [hZ]; exact cell_setO (cell_setO x0 (by omega)) (by omega)
        replace x1 : Z12.cell? ⟨w.heap.size, 1, none⟩ = some (.slice B m d) := by rw [hZ]; exact cell_setO (cell_setO x1 (by omega)) (by omega)
        replace y0 : Z12.cell? ⟨w.heap.size + 1, 0, none⟩ = some (.int .i64 c0) := by rw [hZ]; exact cell_setO (cell_setO y0 (by omega)) (by omega)
        replace y1 : Z12.cell? ⟨w.heap.size + 1, 1, none⟩ = some (.int .i64 c1) := by rw [hZ]; exact cell_setO (cell_setO y1 (by omega)) (by omega)
        replace z0 : Z12.cell? ⟨w.heap.size + 1 + 1, 0, none⟩ = some (.int .i64 k0) := by rw [hZ]; exact cell_setO (cell_setO z0 (by omega)) (by omega)
        replace z1 : Z12.cell? ⟨w.heap.size + 1 + 1, 1, none⟩ = some (.int .i64 k1) := by rw [hZ]; exact cell_setO (cell_setO z1 (by omega)) (by omega)
        replace p0 : Z12.cell? ⟨w3.heap.size, 0, none⟩ = some (.slice A1 n d1) := by rw [hZ]; exact cell_setO (cell_setO p0 (by omega)) (by omega)
        replace p1 : Z12.cell? ⟨w3.heap.size, 1, none⟩ = some (.slice B1 m d2) := by rw [hZ]; exact cell_setO (cell_setO p1 (by omega)) (by omega)
        replace q0 : Z12.cell? ⟨w5.heap.size, 0, none⟩ = some (.int .i64 xv3) := by rw [hZ]; exact cell_setO (cell_setO q0 (by omega)) (by omega)
        replace q1 : Z12.cell? ⟨w5.heap.size, 1, none⟩ = some (.int .i64 yv3) := by rw [hZ]; exact cell_setO (cell_setO q1 (by omega)) (by omega)
        have r1N : Z12.cell? ⟨w6.heap.size, 1, none⟩ = some (.int .i64 yv4) := by rw [hZ]; exact put_1U r0 r1 _ _
        replace r0 : Z12.cell? ⟨w6.heap.size, 0, none⟩ = some (.int .i64 xv4) := by rw [hZ]; exact put_0U r0 _ _
        clear r1
        have r1 := r1N
        clear r1N
        have HB12 := Lib.hid (show Bl w Z12 by rw [hZ]; exact bl_set (bl_set HB11.out (by omega)) (by omega))
        clear hZ
        refine (awakeS_any _).mono ?_
        rintro ea wa ⟨rfl, ha⟩
        go_wp2_with fail
        go_ret
        exact ⟨rfl, HB12.out.tr ha⟩
      · have hc1 : (c1 == c0) = false := by simp [hc]
        obtain ⟨rfl, rfl⟩ : xv3 = xv4 ∧ yv3 = yv4 := by
          by_cases h : kv4 = 0
          · have := hxy h
            rw [show phS c0 k0 (c1, k1) = 0 by simp [phS, hc]] at this
            omega
          · have := hxz h
            omega
        clear hc hxy hxz
        go_wp2_with fail
        obtain ⟨Z12, hZ⟩ : ∃ Z, Z = (w8.setCell ⟨w6.heap.size, 0, none⟩ (.int .i64 xv3)).setCell ⟨w6.heap.size, 1, none⟩ (.int .i64 yv3) := ⟨_, rfl⟩
        rw [← hZ]
        replace fq0 : Z12.frozen? ⟨w5.heap.size, 0, none⟩ = false := by rw [hZ]; simpa using fq0
        replace fq1 : Z12.frozen? ⟨w5.heap.size, 1, none⟩ = false := by rw [hZ]; simpa using fq1
        replace fr0 : Z12.frozen? ⟨w6.heap.size, 0, none⟩ = false := by rw [hZ]; simpa using fr0
        replace fr1 : Z12.frozen? ⟨w6.heap.size, 1, none⟩ = false := by rw [hZ]; simpa using fr1
        replace x0 : Z12.cell? ⟨w.heap.size, 0, none⟩ = some (.slice A n c) := by rw [hZ]; exact cell_setO (cell_setO x0 (by omega)) (by omega)
        replace x1 : Z12.cell? ⟨w.heap.size, 1, none⟩ = some (.slice B m d) := by rw [hZ]; exact cell_setO (cell_setO x1 (by omega)) (by omega)
        replace y0 : Z12.cell? ⟨w.heap.size + 1, 0, none⟩ = some (.int .i64 c0) := by rw [hZ]; exact cell_setO (cell_setO y0 (by omega)) (by omega)
        replace y1 : Z12.cell? ⟨w.heap.size + 1, 1, none⟩ = some (.int .i64 c1) := by rw [hZ]; exact cell_setO (cell_setO y1 (by omega)) (by omega)
        replace z0 : Z12.cell? ⟨w.heap.size + 1 + 1, 0, none⟩ = some (.int .i64 k0) := by rw [hZ]; exact cell_setO (cell_setO z0 (by omega)) (by omega)
        replace z1 : Z12.cell? ⟨w.heap.size + 1 + 1, 1, none⟩ = some (.int .i64 k1) := by rw [hZ]; exact cell_setO (cell_setO z1 (by omega)) (by omega)
        replace p0 : Z12.cell? ⟨w3.heap.size, 0, none⟩ = some (.slice A1 n d1) := by rw [hZ]; exact cell_setO (cell_setO p0 (by omega)) (by omega)
        replace p1 : Z12.cell? ⟨w3.heap.size, 1, none⟩ = some (.slice B1 m d2) := by rw [hZ]; exact cell_setO (cell_setO p1 (by omega)) (by omega)
        replace q0 : Z12.cell? ⟨w5.heap.size, 0, none⟩ = some (.int .i64 xv3) := by rw [hZ]; exact cell_setO (cell_setO q0 (by omega)) (by omega)
        replace q1 : Z12.cell? ⟨w5.heap.size, 1, none⟩ = some (.int .i64 yv3) := by rw [hZ]; exact cell_setO (cell_setO q1 (by omega)) (by omega)
        have r1N : Z12.cell? ⟨w6.heap.size, 1, none⟩ = some (.int .i64 yv3) := by rw [hZ]; exact put_1U r0 r1 _ _
        replace r0 : Z12.cell? ⟨w6.heap.size, 0, none⟩ = some (.int .i64 xv3) := by rw [hZ]; exact put_0U r0 _ _
        clear r1
        have r1 := r1N
        clear r1N
        have HB12 := Lib.hid (show Bl w Z12 by rw [hZ]; exact bl_set (bl_set HB11.out (by omega)) (by omega))
        clear hZ
        refine (awakeS_any _).mono ?_
        rintro ea wa ⟨rfl, ha⟩
        go_wp2_with fail
        go_ret
        exact ⟨rfl, HB12.out.tr ha⟩
    · have hk1 : (kv2 == 0) = false := by simp [hk0]
      obtain ⟨rfl, rfl⟩ := hxz hk0
      clear hk0 hxz hxy
      go_wp2_with fail
      obtain ⟨Z8, hZ⟩ : ∃ Z, Z = (w6.alloc (Obj.cells #[.int .i64 (xv2), .int .i64 (yv2)] 39)) := ⟨_, rfl⟩
      have bz : Bl w6 Z8 := by rw [hZ]; exact bl_alS _ _
      replace fq0 := fzb bz fq0 (ltb q0)
      replace fq1 := fzb bz fq1 (ltb q0)
      replace x0 := kcb bz x0
      replace x1 := kcb bz x1
      replace y0 := kcb bz y0
      replace y1 := kcb bz y1
      replace z0 := kcb bz z0
      replace z1 := kcb bz z1
      replace p0 := kcb bz p0
      replace p1 := kcb bz p1
      replace q0 := kcb bz q0
      replace q1 := kcb bz q1
      have r0 : Z8.cell? ⟨w6.heap.size, 0, none⟩ = some (.int .i64 (xv2)) := by rw [hZ]; go_cell
      have fr0 : Z8.frozen? ⟨w6.heap.size, 0, none⟩ = false := by rw [hZ]; go_cell
      have r1 : Z8.cell? ⟨w6.heap.size, 1, none⟩ = some (.int .i64 (yv2)) := by rw [hZ]; go_cell
      have fr1 : Z8.frozen? ⟨w6.heap.size, 1, none⟩ = false := by rw [hZ]; go_cell
      have HZP := Lib.hid (HZP.out.tr bz)
      rw [← hZ]
      have HB8 := Lib.hid (HB7.out.tr bz)
      clear hZ bz
      refine (HER.out c1 _ HB8.out).mono ?_
      rintro e w7 ⟨xv3, yv3, kv3, rfl, hr3, hb⟩
      replace fq0 := fzb hb fq0 (ltb q0)
      replace fq1 := fzb hb fq1 (ltb q0)
      replace fr0 := fzb hb fr0 (ltb r0)
      replace fr1 := fzb hb fr1 (ltb r0)
      replace x0 := kcb hb x0
      replace x1 := kcb hb x1
      replace y0 := kcb hb y0
      replace y1 := kcb hb y1
      replace z0 := kcb hb z0
      replace z1 := kcb hb z1
      replace p0 := kcb hb p0
      replace p1 := kcb hb p1
      replace q0 := kcb hb q0
      replace q1 := kcb hb q1
      replace r0 := kcb hb r0
      replace r1 := kcb hb r1
      have HB9 := Lib.hid (HB8.out.tr hb)
      have lz0 := ltb x0
      have lz1 := ltb y0
      have lz2 := ltb z0
      have lz3 := ltb p0
      have lz4 := ltb q0
      have lz5 := ltb r0
      have HZP := Lib.hid (HZP.out.tr hb)
      have HR3 := Lib.hid hr3
      clear hr3 hb
      rw [show spnV xv3 yv3 kv3 = .tuple #[.agg #[.int .i64 xv3, .int .i64 yv3], .int .i64 kv3] from rfl]
      have ls9_0 := ltb x0
      have ls9_1 := ltb y0
      have ls9_2 := ltb z0
      have ls9_3 := ltb p0
      have ls9_4 := ltb q0
      have ls9_5 := ltb r0
      go_wp2_with fail
      have HZ7 := Lib.hid (show Bl Z4 ((w7.setCell ⟨w5.heap.size, 0, none⟩ (.int .i64 xv3)).setCell ⟨w5.heap.size, 1, none⟩ (.int .i64 yv3)) from bl_set (bl_set HZP.out (by omega)) (by omega))
      obtain ⟨Z10, hZ⟩ : ∃ Z, Z = (w7.setCell ⟨w5.heap.size, 0, none⟩ (.int .i64 xv3)).setCell ⟨w5.heap.size, 1, none⟩ (.int .i64 yv3) := ⟨_, rfl⟩
      rw [← hZ] at HZ7
      rw [← hZ]
      replace fq0 : Z10.frozen? ⟨w5.heap.size, 0, none⟩ = false := by rw [hZ]; simpa using fq0
      replace fq1 : Z10.frozen? ⟨w5.heap.size, 1, none⟩ = false := by rw [hZ]; simpa using fq1
      replace fr0 : Z10.frozen? ⟨w6.heap.size, 0, none⟩ = false := by rw [hZ]; simpa using fr0
      replace fr1 : Z10.frozen? ⟨w6.heap.size, 1, none⟩ = false := by rw [hZ]; simpa using fr1
      replace x0 : Z10.cell? ⟨w.heap.size, 0, none⟩ = some (.slice A n c) := by rw [hZ]; exact cell_setO (cell_setO x0 (by omega)) (by omega)
      replace x1 : Z10.cell? ⟨w.heap.size, 1, none⟩ = some (.slice B m d) := by rw [hZ]; exact cell_setO (cell_setO x1 (by omega)) (by omega)
      replace y0 : Z10.cell? ⟨w.heap.size + 1, 0, none⟩ = some (.int .i64 c0) := by rw [hZ]; exact cell_setO (cell_setO y0 (by omega)) (by omega)
      replace y1 : Z10.cell? ⟨w.heap.size + 1, 1, none⟩ = some (.int .i64 c1) := by rw [hZ]; exact cell_setO (cell_setO y1 (by omega)) (by omega)
      replace z0 : Z10.cell? ⟨w.heap.size + 1 + 1, 0, none⟩ = some (.int .i64 k0) := by rw [hZ]; exact cell_setO (cell_setO z0 (by omega)) (by omega)
      replace z1 : Z10.cell? ⟨w.heap.size + 1 + 1, 1, none⟩ = some (.int .i64 k1) := by rw [hZ]; exact cell_setO (cell_setO z1 (by omega)) (by omega)
      replace p0 : Z10.cell? ⟨w3.heap.size, 0, none⟩ = some (.slice A1 n d1) := by rw [hZ]; exact cell_setO (cell_setO p0 (by omega)) (by omega)
      replace p1 : Z10.cell? ⟨w3.heap.size, 1, none⟩ = some (.slice B1 m d2) := by rw [hZ]; exact cell_setO (cell_setO p1 (by omega)) (by omega)
      replace r0 : Z10.cell? ⟨w6.heap.size, 0, none⟩ = some (.int .i64 (xv2)) := by rw [hZ]; exact cell_setO (cell_setO r0 (by omega)) (by omega)
      replace r1 : Z10.cell? ⟨w6.heap.size, 1, none⟩ = some (.int .i64 (yv2)) := by rw [hZ]; exact cell_setO (cell_setO r1 (by omega)) (by omega)
      have q1N : Z10.cell? ⟨w5.heap.size, 1, none⟩ = some (.int .i64 yv3) := by rw [hZ]; exact put_1U q0 q1 _ _
      replace q0 : Z10.cell? ⟨w5.heap.size, 0, none⟩ = some (.int .i64 xv3) := by rw [hZ]; exact put_0U q0 _ _
      clear q1
      have q1 := q1N
      clear q1N
      have HB10 := Lib.hid (show Bl w Z10 by rw [hZ]; exact bl_set (bl_set HB9.out (by omega)) (by omega))
      clear hZ
      refine (HEY.out c1 _ HZ7.out).mono ?_
      rintro e w8 ⟨xv4, yv4, kv4, rfl, hr4, hb⟩
      replace fq0 := fzb hb fq0 (ltb q0)
      replace fq1 := fzb hb fq1 (ltb q0)
      replace fr0 := fzb hb fr0 (ltb r0)
      replace fr1 := fzb hb fr1 (ltb r0)
      replace x0 := kcb hb x0
      replace x1 := kcb hb x1
      replace y0 := kcb hb y0
      replace y1 := kcb hb y1
      replace z0 := kcb hb z0
      replace z1 := kcb hb z1
      replace p0 := kcb hb p0
      replace p1 := kcb hb p1
      replace r0 := kcb hb r0
      replace r1 := kcb hb r1
      replace q0 := kcb hb q0
      replace q1 := kcb hb q1
      have HB11 := Lib.hid (HB10.out.tr hb)
      have lz0 := ltb x0
      have lz1 := ltb y0
      have lz2 := ltb z0
      have lz3 := ltb p0
      have lz4 := ltb r0
      have lz5 := ltb q0
      obtain ⟨hkk, hxy, hxz⟩ := btr_shf HVN.out.1 HVN.out.2.1 HVN.out.2.2 HR3.out hr4
      subst hkk
      clear hr4 hb
      rw [show spnV xv4 yv4 kv4 = .tuple #[.agg #[.int .i64 xv4, .int .i64 yv4], .int .i64 kv4] from rfl]
      by_cases hc : c1 = c0
      · have hc1 : (c1 == c0) = true := by simp [hc]
        clear hc hxy hxz
        go_wp2_with fail
        obtain ⟨Z12, hZ⟩ : ∃ Z, Z = (w8.setCell ⟨w6.heap.size, 0, none⟩ (.int .i64 xv4)).setCell ⟨w6.heap.size, 1, none⟩ (.int .i64 yv4) := ⟨_, rfl⟩
        rw [← hZ]
        replace fq0 : Z12.frozen? ⟨w5.heap.size, 0, none⟩ = false := by rw [hZ]; simpa using fq0
        replace fq1 : Z12.frozen? ⟨w5.heap.size, 1, none⟩ = false := by rw [hZ]; simpa using fq1
        replace fr0 : Z12.frozen? ⟨w6.heap.size, 0, none⟩ = false := by rw [hZ]; simpa using fr0
        replace fr1 : Z12.frozen? ⟨w6.heap.size, 1, none⟩ = false := by rw [hZ]; simpa using fr1
        replace x0 : Z12.cell? ⟨w.heap.size, 0, none⟩ = some (.slice A n c) := by rw [hZ]; exact cell_setO (cell_setO x0 (by omega)) (by omega)
        replace x1 : Z12.cell? ⟨w.heap.size, 1, none⟩ = some (.slice B m d) := by rw [hZ]; exact cell_setO (cell_setO x1 (by omega)) (by omega)
        replace y0 : Z12.cell? ⟨w.heap.size + 1, 0, none⟩ = some (.int .i64 c0) := by rw [hZ]; exact cell_setO (cell_setO y0 (by omega)) (by omega)
        replace y1 : Z12.cell? ⟨w.heap.size + 1, 1, none⟩ = some (.int .i64 c1) := by rw [hZ]; exact cell_setO (cell_setO y1 (by omega)) (by omega)
        replace z0 : Z12.cell? ⟨w.heap.size + 1 + 1, 0, none⟩ = some (.int .i64 k0) := by rw [hZ]; exact cell_setO (cell_setO z0 (by omega)) (by omega)
        replace z1 : Z12.cell? ⟨w.heap.size + 1 + 1, 1, none⟩ = some (.int .i64 k1) := by rw [hZ]; exact cell_setO (cell_setO z1 (by omega)) (by omega)
        replace p0 : Z12.cell? ⟨w3.heap.size, 0, none⟩ = some (.slice A1 n d1) := by rw [hZ]; exact cell_setO (cell_setO p0 (by omega)) (by omega)
        replace p1 : Z12.cell? ⟨w3.heap.size, 1, none⟩ = some (.slice B1 m d2) := by rw [hZ]; exact cell_setO (cell_setO p1 (by omega)) (by omega)
        replace q0 : Z12.cell? ⟨w5.heap.size, 0, none⟩ = some (.int .i64 xv3) := by rw [hZ]; exact cell_setO (cell_setO q0 (by omega)) (by omega)
        replace q1 : Z12.cell? ⟨w5.heap.size, 1, none⟩ = some (.int .i64 yv3) := by rw [hZ]; exact cell_setO (cell_setO q1 (by omega)) (by omega)
        have r1N : Z12.cell? ⟨w6.heap.size, 1, none⟩ = some (.int .i64 yv4) := by rw [hZ]; exact put_1U r0 r1 _ _
        replace r0 : Z12.cell? ⟨w6.heap.size, 0, none⟩ = some (.int .i64 xv4) := by rw [hZ]; exact put_0U r0 _ _
        clear r1
        have r1 := r1N
        clear r1N
        have HB12 := Lib.hid (show Bl w Z12 by rw [hZ]; exact bl_set (bl_set HB11.out (by omega)) (by omega))
        clear hZ
        refine (awakeS_any _).mono ?_
        rintro ea wa ⟨rfl, ha⟩
        go_wp2_with fail
        go_ret
        exact ⟨rfl, HB12.out.tr ha⟩
      · have hc1 : (c1 == c0) = false := by simp [hc]
        obtain ⟨rfl, rfl⟩ : xv3 = xv4 ∧ yv3 = yv4 := by
          by_cases h : kv4 = 0
          · have := hxy h
            rw [show phS c0 k0 (c1, k1) = 0 by simp [phS, hc]] at this
            omega
          · have := hxz h
            omega
        clear hc hxy hxz
        go_wp2_with fail
        obtain ⟨Z12, hZ⟩ : ∃ Z, Z = (w8.setCell ⟨w6.heap.size, 0, none⟩ (.int .i64 xv3)).setCell ⟨w6.heap.size, 1, none⟩ (.int .i64 yv3) := ⟨_, rfl⟩
        rw [← hZ]
        replace fq0 : Z12.frozen? ⟨w5.heap.size, 0, none⟩ = false := by rw [hZ]; simpa using fq0
        replace fq1 : Z12.frozen? ⟨w5.heap.size, 1, none⟩ = false := by rw [hZ]; simpa using fq1
        replace fr0 : Z12.frozen? ⟨w6.heap.size, 0, none⟩ = false := by rw [hZ]; simpa using fr0
        replace fr1 : Z12.frozen? ⟨w6.heap.size, 1, none⟩ = false := by rw [hZ]; simpa using fr1
        replace x0 : Z12.cell? ⟨w.heap.size, 0, none⟩ = some (.slice A n c) := by rw [hZ]; exact cell_setO (cell_setO x0 (by omega)) (by omega)
        replace x1 : Z12.cell? ⟨w.heap.size, 1, none⟩ = some (.slice B m d) := by rw [hZ]; exact cell_setO (cell_setO x1 (by omega)) (by omega)
        replace y0 : Z12.cell? ⟨w.heap.size + 1, 0, none⟩ = some (.int .i64 c0) := by rw [hZ]; exact cell_setO (cell_setO y0 (by omega)) (by omega)
        replace y1 : Z12.cell? ⟨w.heap.size + 1, 1, none⟩ = some (.int .i64 c1) := by rw [hZ]; exact cell_setO (cell_setO y1 (by omega)) (by omega)
        replace z0 : Z12.cell? ⟨w.heap.size + 1 + 1, 0, none⟩ = some (.int .i64 k0) := by rw [hZ]; exact cell_setO (cell_setO z0 (by omega)) (by omega)
        replace z1 : Z12.cell? ⟨w.heap.size + 1 + 1, 1, none⟩ = some (.int .i64 k1) := by rw [hZ]; exact cell_setO (cell_setO z1 (by omega)) (by omega)
        replace p0 : Z12.cell? ⟨w3.heap.size, 0, none⟩ = some (.slice A1 n d1) := by rw [hZ]; exact cell_setO (cell_setO p0 (by omega)) (by omega)
        replace p1 : Z12.cell? ⟨w3.heap.size, 1, none⟩ = some (.slice B1 m d2) := by rw [hZ]; exact cell_setO (cell_setO p1 (by omega)) (by omega)
        replace q0 : Z12.cell? ⟨w5.heap.size, 0, none⟩ = some (.int .i64 xv3) := by rw [hZ]; exact cell_setO (cell_setO q0 (by omega)) (by omega)
        replace q1 : Z12.cell? ⟨w5.heap.size, 1, none⟩ = some (.int .i64 yv3) := by rw [hZ]; exact cell_setO (cell_setO q1 (by omega)) (by omega)
        have r1N : Z12.cell? ⟨w6.heap.size, 1, none⟩ = some (.int .i64 yv3) := by rw [hZ]; exact put_1U r0 r1 _ _
        replace r0 : Z12.cell? ⟨w6.heap.size, 0, none⟩ = some (.int .i64 xv3) := by rw [hZ]; exact put_0U r0 _ _
        clear r1
        have r1 := r1N
        clear r1N
        have HB12 := Lib.hid (show Bl w Z12 by rw [hZ]; exact bl_set (bl_set HB11.out (by omega)) (by omega))
        clear hZ
        refine (awakeS_any _).mono ?_
        rintro ea wa ⟨rfl, ha⟩
        go_wp2_with fail
        go_ret
        exact ⟨rfl, HB12.out.tr ha⟩
end Go.Proofs.Ytennmdlajealpaa
