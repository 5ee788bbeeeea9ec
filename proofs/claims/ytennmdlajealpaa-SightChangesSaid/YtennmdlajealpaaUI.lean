/-
  Package sight's reference: Same of equal nets; the walk of SightChanges.
-/
import Derived.Test.YtennmdlajealpaaUR
namespace Go.Proofs.Ytennmdlajealpaa
open Go.RowKit Go.Maps
set_option linter.unusedSimpArgs false
set_option linter.unusedVariables false

theorem sl_put {w : World} {A B : Option Addr} {n p o n2 d2 : Nat} {f : Nat → Int} {v : Value} (h : Sl w A n f) (c : w.cell? ⟨p, o, none⟩ = some (.slice B n2 d2)) : Sl (w.setCell ⟨p, o, none⟩ v) A n f := fun hn => by
  obtain ⟨b, off, e, hl, hc⟩ := h hn
  refine ⟨b, off, e, Nat.lt_of_lt_of_le hl (size_setS _ _ _), fun j hj => ?_⟩
  rw [World.cell?_setCell_other _ _ _ _ (fun q => by
    have hx := hc j hj
    rw [← q] at hx
    first | (rw [c] at hx; cases hx) | (rw [hx] at c; cases c))]
  exact hc j hj
theorem sgl_put {w : World} {A B : Option Addr} {n p o n2 d2 : Nat} {S : Nat → Sgt} {v : Value} (h : Sgl w A n S) (c : w.cell? ⟨p, o, none⟩ = some (.slice B n2 d2)) : Sgl (w.setCell ⟨p, o, none⟩ v) A n S := fun hn => by
  obtain ⟨b, off, e, hl, hc⟩ := h hn
  have key : ∀ {q : Nat} {x : Int}, w.cell? ⟨b, q, none⟩ = some (.int .i64 x) → (w.setCell ⟨p, o, none⟩ v).cell? ⟨b, q, none⟩ = some (.int .i64 x) := fun {q x} hx => by
    rw [World.cell?_setCell_other _ _ _ _ (fun r => by
      have hy := hx
      rw [← r] at hy
      first | (rw [c] at hy; cases hy) | (rw [hy] at c; cases c))]
    exact hx
  refine ⟨b, off, e, Nat.lt_of_lt_of_le hl (size_setS _ _ _), fun j hj => ?_⟩
  obtain ⟨c0, c1, c2, c3, c4⟩ := hc j hj
  exact ⟨key c0, key c1, key c2, key c3, key c4⟩
theorem sl_put2 {w : World} {A B B' : Option Addr} {n p n2 d2 n3 d3 : Nat} {f : Nat → Int} {u v : Value} (h : Sl w A n f) (c0 : w.cell? ⟨p, 0, none⟩ = some (.slice B n2 d2)) (c1 : w.cell? ⟨p, 1, none⟩ = some (.slice B' n3 d3)) : Sl ((w.setCell ⟨p, 0, none⟩ u).setCell ⟨p, 1, none⟩ v) A n f :=
  sl_put (sl_put h c0) (B := B') (n2 := n3) (d2 := d3) (by rw [World.cell?_setCell_other _ _ _ _ (by simp)]; exact c1)
theorem sgl_put2 {w : World} {A B B' : Option Addr} {n p n2 d2 n3 d3 : Nat} {S : Nat → Sgt} {u v : Value} (h : Sgl w A n S) (c0 : w.cell? ⟨p, 0, none⟩ = some (.slice B n2 d2)) (c1 : w.cell? ⟨p, 1, none⟩ = some (.slice B' n3 d3)) : Sgl ((w.setCell ⟨p, 0, none⟩ u).setCell ⟨p, 1, none⟩ v) A n S :=
  sgl_put (sgl_put h c0) (B := B') (n2 := n3) (d2 := d3) (by rw [World.cell?_setCell_other _ _ _ _ (by simp)]; exact c1)
set_option maxRecDepth 100000 in
set_option maxHeartbeats 12800000 in
theorem same_yes (A : Option Addr) (n c : Nat) (R : Nat → Int) (B : Option Addr) (m d : Nat) (S : Nat → Sgt) (A' : Option Addr) (c' : Nat) (B' : Option Addr) (d' : Nat) (w : World) (hA : Sl w A n R) (hB : Sgl w B m S) (hA' : Sl w A' n R) (hB' : Sgl w B' m S) (hn : n ≤ maxLen) (hm : m ≤ maxLen) :
    Calls Try.prog 44 #[encN A n c B m d, encN A' n c' B' m d'] w fun e w' => e = .returned (.bool true) ∧ Bl w w' := by
  have HA := Lib.hid (And.intro hA hA')
  have HB := Lib.hid (And.intro hB hB')
  have HN := Lib.hid (And.intro hn hm)
  unfold maxLen at hn hm
  clear hA hB hA' hB'
  go_enter Try.func44, Try.ntmps44
  obtain ⟨X, hX⟩ : ∃ X, X = (w.alloc (Obj.cells #[.slice A n c, .slice B m d] 25)).alloc (Obj.cells #[.slice A' n c', .slice B' m d'] 25) := ⟨_, rfl⟩
  have BX : Bl w X := by rw [hX]; exact Bl.tr (bl_alS _ _) (bl_alS _ _)
  have x0 : X.cell? ⟨w.heap.size, 0, none⟩ = some (.slice A n c) := by rw [hX]; go_cell
  have x1 : X.cell? ⟨w.heap.size, 1, none⟩ = some (.slice B m d) := by rw [hX]; go_cell
  have y0 : X.cell? ⟨w.heap.size + 1, 0, none⟩ = some (.slice A' n c') := by rw [hX]; go_cell
  have y1 : X.cell? ⟨w.heap.size + 1, 1, none⟩ = some (.slice B' m d') := by rw [hX]; go_cell
  have HX := Lib.hid (And.intro x0 (And.intro x1 (And.intro y0 y1)))
  have HBX := Lib.hid BX
  go_wp2_with fail
  rw [← hX]
  clear hX BX x0 x1 y0 y1
  go_loopw [26] (fun i wr => ∃ k : Nat, k ≤ n ∧ i = .int .i64 k ∧ Bl X wr) (fun i _ => n - (intOf i).toNat)
  case atStart => exact ⟨0, Nat.zero_le _, rfl, Below.refl _ _⟩
  case round =>
    obtain ⟨k, hk, rfl, hZ⟩ := hrel
    have x0 := kcb hZ HX.out.1
    have x1 := kcb hZ HX.out.2.1
    have y0 := kcb hZ HX.out.2.2.1
    have y1 := kcb hZ HX.out.2.2.2
    have lx := ltb x0
    have ly := ltb y0
    have HZ := Lib.hid hZ
    by_cases hlt : k < n
    · obtain ⟨b1, o1, rfl, lb1, hc1⟩ := HA.out.1.below (HBX.out.tr hZ) (by omega)
      obtain ⟨b2, o2, rfl, lb2, hc2⟩ := HA.out.2.below (HBX.out.tr hZ) (by omega)
      have z1 := hc1 k hlt
      have z2 := hc2 k hlt
      obtain ⟨r, hr⟩ : ∃ r, r = R k := ⟨_, rfl⟩
      rw [← hr] at z1 z2
      have q1 : (r != r) = false := by simp
      clear hr hc1 hc2 hZ
      go_wp2_with fail
      go_quiet (fail)
      go_wp2_with fail
      go_roundw
      case rel => exact ⟨k + 1, by omega, by go_num, HZ.out.tr (bl_drN _ _)⟩
      case measure => simp [RowKit.intOf]; omega
    · have hkn : k = n := by omega
      subst k
      obtain ⟨W2, hW2⟩ : ∃ W2, W2 = wr := ⟨_, rfl⟩
      subst hW2
      have HX2 := Lib.hid (And.intro x0 (And.intro x1 (And.intro y0 y1)))
      have HB2 := Lib.hid (HBX.out.tr hZ)
      clear hk hlt hZ HZ
      go_wp2_with fail
      clear x0 x1 y0 y1 lx ly
      go_loopw [44] (fun i wr => ∃ k : Nat, k ≤ m ∧ i = .int .i64 k ∧ Bl W2 wr) (fun i _ => m - (intOf i).toNat)
      case atStart => exact ⟨0, Nat.zero_le _, rfl, Below.refl _ _⟩
      case round =>
        obtain ⟨k, hk, rfl, hZ⟩ := hrel
        have x0 := kcb hZ HX2.out.1
        have x1 := kcb hZ HX2.out.2.1
        have y0 := kcb hZ HX2.out.2.2.1
        have y1 := kcb hZ HX2.out.2.2.2
        have lx := ltb x0
        have ly := ltb y0
        have HZ := Lib.hid hZ
        by_cases hlt : k < m
        · obtain ⟨b1, o1, rfl, lb1, hc1⟩ := HB.out.1.below (HB2.out.tr hZ) (by omega)
          obtain ⟨b2, o2, rfl, lb2, hc2⟩ := HB.out.2.below (HB2.out.tr hZ) (by omega)
          obtain ⟨s0, s1, s2, s3, s4⟩ := hc1 k hlt
          obtain ⟨t0, t1, t2, t3, t4⟩ := hc2 k hlt
          obtain ⟨x, hx⟩ : ∃ x, x = S k := ⟨_, rfl⟩
          rw [← hx] at s0 s1 s2 s3 s4 t0 t1 t2 t3 t4
          clear hx hc1 hc2 hZ
          go_wp2_with fail
          go_quiet (fail)
          go_wp2_with fail
          go_roundw
          case rel => exact ⟨k + 1, by omega, by go_num, HZ.out.tr (bl_drN _ _)⟩
          case measure => simp [RowKit.intOf]; omega
        · have hkm : k = m := by omega
          subst k
          go_wp2_with fail
          go_ret
          exact ⟨rfl, HB2.out.tr hZ⟩
set_option maxRecDepth 100000 in
set_option maxHeartbeats 25600000 in
theorem changes_walk (A : Option Addr) (n c : Nat) (R : Nat → Int) (B : Option Addr) (m d : Nat) (S : Nat → Sgt) (s : Sgt) (c0 c1 c2 : Int) (w : World) (hA : Sl w A n R) (hB : Sgl w B m S) (hn : n ≤ c ∧ c ≤ maxLen) (hm : m ≤ d ∧ d ≤ maxLen) (rA : ∀ j, rngS (R j)) (rB : ∀ j, rngG (S j)) (rs : rngG s) (r0 : rngS c0) (r1 : rngS c1) (r2 : rngS c2) :
    Calls Try.prog 8 #[encN A n c B m d, encG s, .agg #[.int .i64 c0, .int .i64 c1, .int .i64 c2]] w fun e w' => e = .returned (.bool true) ∧ Bl w w' := by
  have hn := Nat.le_trans hn.1 hn.2
  have hm := Nat.le_trans hm.1 hm.2
  clear rA rB rs r0 r1 r2
  by_cases hs : n > 100 ∨ m > 100
  · have hs' : (100 : Int) < (n : Int) ∨ ¬ (100 : Int) < (n : Int) ∧ (100 : Int) < (m : Int) := by omega
    clear hs hA hB hn hm
    rcases hs' with hs | ⟨hs, hs2⟩
    all_goals
      go_enter Try.func8, Try.ntmps8
      go_wp2_with fail
      refine (awakeS_any _).mono ?_
      rintro ea wa ⟨rfl, ha⟩
      go_wp2_with fail
      go_ret
      exact ⟨rfl, Bl.tr (Bl.tr (Bl.tr (bl_alS _ _) (bl_alS _ _)) (bl_alS _ _)) ha⟩
  have hs1 : ¬ (100 : Int) < (n : Int) := by omega
  have hs2 : ¬ (100 : Int) < (m : Int) := by omega
  have P1 := Lib.hid (fun (W : World) (hW : Bl w W) => added_any A n c R B m d S s W (hA.below hW) (hB.below hW) hn hm)
  have Q1 := Lib.hid (fun (W : World) (hW : Bl w W) => radded_any A n c R B m d S s W (hA.below hW) (hB.below hW) hn hm)
  have P2 := Lib.hid (fun (W : World) (hW : Bl w W) => withoutN_any A n c R B m d S c0 W (hA.below hW) (hB.below hW) hn hm)
  have Q2 := Lib.hid (fun (W : World) (hW : Bl w W) => rwithoutN_any A n c R B m d S c0 W (hA.below hW) (hB.below hW) hn hm)
  have P3 := Lib.hid (fun (W : World) (hW : Bl w W) => shiftedS_any A n c R B m d S c1 c2 W (hA.below hW) (hB.below hW) hn hm)
  have Q3 := Lib.hid (fun (W : World) (hW : Bl w W) => rshifted_any A n c R B m d S c1 c2 W (hA.below hW) (hB.below hW) hn hm)
  obtain ⟨F1, hF1⟩ : ∃ F, F = addF R n S m s := ⟨_, rfl⟩
  obtain ⟨F2, hF2⟩ : ∃ F, F = witF R n S m c0 := ⟨_, rfl⟩
  obtain ⟨F3, hF3⟩ : ∃ F, F = shiftF R n S m c1 c2 := ⟨_, rfl⟩
  rw [← hF1] at P1 Q1
  rw [← hF2] at P2 Q2
  rw [← hF3] at P3 Q3
  obtain ⟨n1, R1, m1, S1, k1⟩ := F1
  obtain ⟨n2, R2, m2, S2, k2⟩ := F2
  obtain ⟨n3, R3, m3, S3, k3⟩ := F3
  clear hs hA hB hn hm hF1 hF2 hF3
  have e1 : (k1 != k1) = false := by simp
  have e2 : (k2 != k2) = false := by simp
  have e3 : (k3 == k3) = true := by simp
  go_enter Try.func8, Try.ntmps8
  go_wp2_with fail
  obtain ⟨Z1, hZ⟩ : ∃ Z, Z = (((w.alloc (Obj.cells #[.slice A n c, .slice B m d] 25)).alloc (Obj.cells #[.int .i64 s.tm, .int .i64 s.ca, .int .i64 s.cb, .int .i64 s.lo, .int .i64 s.hi] 52)).alloc (Obj.cells #[.int .i64 c0, .int .i64 c1, .int .i64 c2] 53)) := ⟨_, rfl⟩
  have bz : Bl w Z1 := by rw [hZ]; exact Bl.tr (Bl.tr (bl_alS _ _) (bl_alS _ _)) (bl_alS _ _)
  have x0 : Z1.cell? ⟨w.heap.size, 0, none⟩ = some (.slice A n c) := by rw [hZ]; go_cell
  have x1 : Z1.cell? ⟨w.heap.size, 1, none⟩ = some (.slice B m d) := by rw [hZ]; go_cell
  have y0 : Z1.cell? ⟨w.heap.size + 1, 0, none⟩ = some (.int .i64 s.tm) := by rw [hZ]; go_cell
  have y1 : Z1.cell? ⟨w.heap.size + 1, 1, none⟩ = some (.int .i64 s.ca) := by rw [hZ]; go_cell
  have y2 : Z1.cell? ⟨w.heap.size + 1, 2, none⟩ = some (.int .i64 s.cb) := by rw [hZ]; go_cell
  have y3 : Z1.cell? ⟨w.heap.size + 1, 3, none⟩ = some (.int .i64 s.lo) := by rw [hZ]; go_cell
  have y4 : Z1.cell? ⟨w.heap.size + 1, 4, none⟩ = some (.int .i64 s.hi) := by rw [hZ]; go_cell
  have z0 : Z1.cell? ⟨w.heap.size + 1 + 1, 0, none⟩ = some (.int .i64 c0) := by rw [hZ]; go_cell
  have z1 : Z1.cell? ⟨w.heap.size + 1 + 1, 1, none⟩ = some (.int .i64 c1) := by rw [hZ]; go_cell
  have z2 : Z1.cell? ⟨w.heap.size + 1 + 1, 2, none⟩ = some (.int .i64 c2) := by rw [hZ]; go_cell
  rw [← hZ]
  have HB1 := Lib.hid (bz)
  clear hZ bz
  refine (P1.out _ HB1.out).mono ?_
  rintro e wa1 ⟨A1, d1, B1, d2, rfl, hn1, hm1, hs3, hs4, hb⟩
  dsimp only at hn1 hm1 hs3 hs4 ⊢
  replace x0 := kcb hb x0
  replace x1 := kcb hb x1
  replace y0 := kcb hb y0
  replace y1 := kcb hb y1
  replace y2 := kcb hb y2
  replace y3 := kcb hb y3
  replace y4 := kcb hb y4
  replace z0 := kcb hb z0
  replace z1 := kcb hb z1
  replace z2 := kcb hb z2
  have HB2 := Lib.hid (HB1.out.tr hb)
  have lz0 := ltb x0
  have lz1 := ltb y0
  have lz2 := ltb z0
  have HS1 := Lib.hid (And.intro hs3 hs4)
  have HN1 := Lib.hid (And.intro hn1 hm1)
  clear hs3 hs4 hn1 hm1 hb
  go_wp2_with fail
  have ls2_0 := ltb x0
  have ls2_1 := ltb y0
  have ls2_2 := ltb z0
  obtain ⟨Z3, hZ⟩ : ∃ Z, Z = (wa1.alloc (Obj.cells #[.slice A1 n1 d1, .slice B1 m1 d2] 25)) := ⟨_, rfl⟩
  have bz : Bl wa1 Z3 := by rw [hZ]; exact bl_alS _ _
  replace x0 := kcb bz x0
  replace x1 := kcb bz x1
  replace y0 := kcb bz y0
  replace y1 := kcb bz y1
  replace y2 := kcb bz y2
  replace y3 := kcb bz y3
  replace y4 := kcb bz y4
  replace z0 := kcb bz z0
  replace z1 := kcb bz z1
  replace z2 := kcb bz z2
  have p0 : Z3.cell? ⟨wa1.heap.size, 0, none⟩ = some (.slice A1 n1 d1) := by rw [hZ]; go_cell
  have fp0 : Z3.frozen? ⟨wa1.heap.size, 0, none⟩ = false := by rw [hZ]; go_cell
  have p1 : Z3.cell? ⟨wa1.heap.size, 1, none⟩ = some (.slice B1 m1 d2) := by rw [hZ]; go_cell
  have fp1 : Z3.frozen? ⟨wa1.heap.size, 1, none⟩ = false := by rw [hZ]; go_cell
  have HS1 := Lib.hid (And.intro (HS1.out.1.below bz) (HS1.out.2.below bz))
  rw [← hZ]
  have HB3 := Lib.hid (HB2.out.tr bz)
  clear hZ bz
  refine (Q1.out _ HB3.out).mono ?_
  rintro e wb1 ⟨A2, d3, B2, d4, rfl, hn1, hm1, hs3, hs4, hb⟩
  dsimp only at hn1 hm1 hs3 hs4 ⊢
  replace fp0 := fzb hb fp0 (ltb p0)
  replace fp1 := fzb hb fp1 (ltb p0)
  replace x0 := kcb hb x0
  replace x1 := kcb hb x1
  replace y0 := kcb hb y0
  replace y1 := kcb hb y1
  replace y2 := kcb hb y2
  replace y3 := kcb hb y3
  replace y4 := kcb hb y4
  replace z0 := kcb hb z0
  replace z1 := kcb hb z1
  replace z2 := kcb hb z2
  replace p0 := kcb hb p0
  replace p1 := kcb hb p1
  have HB4 := Lib.hid (HB3.out.tr hb)
  have lz0 := ltb x0
  have lz1 := ltb y0
  have lz2 := ltb z0
  have lz3 := ltb p0
  have HS1 := Lib.hid (And.intro (HS1.out.1.below hb) (HS1.out.2.below hb))
  have HS2 := Lib.hid (And.intro hs3 hs4)
  clear hs3 hs4 hn1 hm1 hb
  go_wp2_with fail
  have ls4_0 := ltb x0
  have ls4_1 := ltb y0
  have ls4_2 := ltb z0
  have ls4_3 := ltb p0
  obtain ⟨Z5, hZ⟩ : ∃ Z, Z = (wb1.alloc (Obj.cells #[.slice A2 n1 d3, .slice B2 m1 d4] 25)) := ⟨_, rfl⟩
  have bz : Bl wb1 Z5 := by rw [hZ]; exact bl_alS _ _
  replace fp0 := fzb bz fp0 (ltb p0)
  replace fp1 := fzb bz fp1 (ltb p0)
  replace x0 := kcb bz x0
  replace x1 := kcb bz x1
  replace y0 := kcb bz y0
  replace y1 := kcb bz y1
  replace y2 := kcb bz y2
  replace y3 := kcb bz y3
  replace y4 := kcb bz y4
  replace z0 := kcb bz z0
  replace z1 := kcb bz z1
  replace z2 := kcb bz z2
  replace p0 := kcb bz p0
  replace p1 := kcb bz p1
  have q0 : Z5.cell? ⟨wb1.heap.size, 0, none⟩ = some (.slice A2 n1 d3) := by rw [hZ]; go_cell
  have fq0 : Z5.frozen? ⟨wb1.heap.size, 0, none⟩ = false := by rw [hZ]; go_cell
  have q1 : Z5.cell? ⟨wb1.heap.size, 1, none⟩ = some (.slice B2 m1 d4) := by rw [hZ]; go_cell
  have fq1 : Z5.frozen? ⟨wb1.heap.size, 1, none⟩ = false := by rw [hZ]; go_cell
  have HS1 := Lib.hid (And.intro (HS1.out.1.below bz) (HS1.out.2.below bz))
  have HS2 := Lib.hid (And.intro (HS2.out.1.below bz) (HS2.out.2.below bz))
  rw [← hZ]
  have HB5 := Lib.hid (HB4.out.tr bz)
  clear hZ bz
  refine (same_yes A1 n1 d1 R1 B1 m1 d2 S1 A2 d3 B2 d4 Z5 HS1.out.1 HS1.out.2 HS2.out.1 HS2.out.2 HN1.out.1 HN1.out.2).mono ?_
  rintro e wc1 ⟨rfl, hb⟩
  replace fp0 := fzb hb fp0 (ltb p0)
  replace fp1 := fzb hb fp1 (ltb p0)
  replace fq0 := fzb hb fq0 (ltb q0)
  replace fq1 := fzb hb fq1 (ltb q0)
  replace x0 := kcb hb x0
  replace x1 := kcb hb x1
  replace y0 := kcb hb y0
  replace y1 := kcb hb y1
  replace y2 := kcb hb y2
  replace y3 := kcb hb y3
  replace y4 := kcb hb y4
  replace z0 := kcb hb z0
  replace z1 := kcb hb z1
  replace z2 := kcb hb z2
  replace p0 := kcb hb p0
  replace p1 := kcb hb p1
  replace q0 := kcb hb q0
  replace q1 := kcb hb q1
  have HB6 := Lib.hid (HB5.out.tr hb)
  have ls6_0 := ltb x0
  have ls6_1 := ltb y0
  have ls6_2 := ltb z0
  have ls6_3 := ltb p0
  have ls6_4 := ltb q0
  have lz0 := ltb x0
  have lz1 := ltb y0
  have lz2 := ltb z0
  have lz3 := ltb p0
  have lz4 := ltb q0
  clear hb HS1 HS2 HN1
  go_wp2_with fail
  refine (P2.out _ HB6.out).mono ?_
  rintro e wa2 ⟨A1, d1, B1, d2, rfl, hn1, hm1, hs3, hs4, hb⟩
  dsimp only at hn1 hm1 hs3 hs4 ⊢
  replace fp0 := fzb hb fp0 (ltb p0)
  replace fp1 := fzb hb fp1 (ltb p0)
  replace fq0 := fzb hb fq0 (ltb q0)
  replace fq1 := fzb hb fq1 (ltb q0)
  replace x0 := kcb hb x0
  replace x1 := kcb hb x1
  replace y0 := kcb hb y0
  replace y1 := kcb hb y1
  replace y2 := kcb hb y2
  replace y3 := kcb hb y3
  replace y4 := kcb hb y4
  replace z0 := kcb hb z0
  replace z1 := kcb hb z1
  replace z2 := kcb hb z2
  replace p0 := kcb hb p0
  replace p1 := kcb hb p1
  replace q0 := kcb hb q0
  replace q1 := kcb hb q1
  have HB7 := Lib.hid (HB6.out.tr hb)
  have lz0 := ltb x0
  have lz1 := ltb y0
  have lz2 := ltb z0
  have lz3 := ltb p0
  have lz4 := ltb q0
  have HS1 := Lib.hid (And.intro hs3 hs4)
  have HN1 := Lib.hid (And.intro hn1 hm1)
  clear hs3 hs4 hn1 hm1 hb
  go_wp2_with fail
  have HS1 := Lib.hid (And.intro (sl_put2 (u := .slice A1 n2 d1) (v := .slice B1 m2 d2) HS1.out.1 p0 p1) (sgl_put2 (u := .slice A1 n2 d1) (v := .slice B1 m2 d2) HS1.out.2 p0 p1))
  obtain ⟨Z8, hZ⟩ : ∃ Z, Z = (wa2.setCell ⟨wa1.heap.size, 0, none⟩ (.slice A1 n2 d1)).setCell ⟨wa1.heap.size, 1, none⟩ (.slice B1 m2 d2) := ⟨_, rfl⟩
  rw [← hZ] at HS1
  rw [← hZ]
  replace fp0 : Z8.frozen? ⟨wa1.heap.size, 0, none⟩ = false := by rw [hZ]; simpa using fp0
  replace fp1 : Z8.frozen? ⟨wa1.heap.size, 1, none⟩ = false := by rw [hZ]; simpa using fp1
  replace fq0 : Z8.frozen? ⟨wb1.heap.size, 0, none⟩ = false := by rw [hZ]; simpa using fq0
  replace fq1 : Z8.frozen? ⟨wb1.heap.size, 1, none⟩ = false := by rw [hZ]; simpa using fq1
  replace x0 : Z8.cell? ⟨w.heap.size, 0, none⟩ = some (.slice A n c) := by rw [hZ]; exact cell_setO (cell_setO x0 (by omega)) (by omega)
  replace x1 : Z8.cell? ⟨w.heap.size, 1, none⟩ = some (.slice B m d) := by rw [hZ]; exact cell_setO (cell_setO x1 (by omega)) (by omega)
  replace y0 : Z8.cell? ⟨w.heap.size + 1, 0, none⟩ = some (.int .i64 s.tm) := by rw [hZ]; exact cell_setO (cell_setO y0 (by omega)) (by omega)
  replace y1 : Z8.cell? ⟨w.heap.size + 1, 1, none⟩ = some (.int .i64 s.ca) := by rw [hZ]; exact cell_setO (cell_setO y1 (by omega)) (by omega)
  replace y2 : Z8.cell? ⟨w.heap.size + 1, 2, none⟩ = some (.int .i64 s.cb) := by rw [hZ]; exact cell_setO (cell_setO y2 (by omega)) (by omega)
  replace y3 : Z8.cell? ⟨w.heap.size + 1, 3, none⟩ = some (.int .i64 s.lo) := by rw [hZ]; exact cell_setO (cell_setO y3 (by omega)) (by omega)
  replace y4 : Z8.cell? ⟨w.heap.size + 1, 4, none⟩ = some (.int .i64 s.hi) := by rw [hZ]; exact cell_setO (cell_setO y4 (by omega)) (by omega)
  replace z0 : Z8.cell? ⟨w.heap.size + 1 + 1, 0, none⟩ = some (.int .i64 c0) := by rw [hZ]; exact cell_setO (cell_setO z0 (by omega)) (by omega)
  replace z1 : Z8.cell? ⟨w.heap.size + 1 + 1, 1, none⟩ = some (.int .i64 c1) := by rw [hZ]; exact cell_setO (cell_setO z1 (by omega)) (by omega)
  replace z2 : Z8.cell? ⟨w.heap.size + 1 + 1, 2, none⟩ = some (.int .i64 c2) := by rw [hZ]; exact cell_setO (cell_setO z2 (by omega)) (by omega)
  replace q0 : Z8.cell? ⟨wb1.heap.size, 0, none⟩ = some (.slice A2 n1 d3) := by rw [hZ]; exact cell_setO (cell_setO q0 (by omega)) (by omega)
  replace q1 : Z8.cell? ⟨wb1.heap.size, 1, none⟩ = some (.slice B2 m1 d4) := by rw [hZ]; exact cell_setO (cell_setO q1 (by omega)) (by omega)
  have p1N : Z8.cell? ⟨wa1.heap.size, 1, none⟩ = some (.slice B1 m2 d2) := by rw [hZ]; exact put_1U p0 p1 _ _
  replace p0 : Z8.cell? ⟨wa1.heap.size, 0, none⟩ = some (.slice A1 n2 d1) := by rw [hZ]; exact put_0U p0 _ _
  clear p1
  have p1 := p1N
  clear p1N
  have HB8 := Lib.hid (show Bl w Z8 by rw [hZ]; exact bl_set (bl_set HB7.out (by omega)) (by omega))
  clear hZ
  refine (Q2.out _ HB8.out).mono ?_
  rintro e wb2 ⟨A2, d3, B2, d4, rfl, hn1, hm1, hs3, hs4, hb⟩
  dsimp only at hn1 hm1 hs3 hs4 ⊢
  replace fp0 := fzb hb fp0 (ltb p0)
  replace fp1 := fzb hb fp1 (ltb p0)
  replace fq0 := fzb hb fq0 (ltb q0)
  replace fq1 := fzb hb fq1 (ltb q0)
  replace x0 := kcb hb x0
  replace x1 := kcb hb x1
  replace y0 := kcb hb y0
  replace y1 := kcb hb y1
  replace y2 := kcb hb y2
  replace y3 := kcb hb y3
  replace y4 := kcb hb y4
  replace z0 := kcb hb z0
  replace z1 := kcb hb z1
  replace z2 := kcb hb z2
  replace q0 := kcb hb q0
  replace q1 := kcb hb q1
  replace p0 := kcb hb p0
  replace p1 := kcb hb p1
  have HB9 := Lib.hid (HB8.out.tr hb)
  have lz0 := ltb x0
  have lz1 := ltb y0
  have lz2 := ltb z0
  have lz3 := ltb q0
  have lz4 := ltb p0
  have HS1 := Lib.hid (And.intro (HS1.out.1.below hb) (HS1.out.2.below hb))
  have HS2 := Lib.hid (And.intro hs3 hs4)
  clear hs3 hs4 hn1 hm1 hb
  go_wp2_with fail
  have HS1 := Lib.hid (And.intro (sl_put2 (u := .slice A2 n2 d3) (v := .slice B2 m2 d4) HS1.out.1 q0 q1) (sgl_put2 (u := .slice A2 n2 d3) (v := .slice B2 m2 d4) HS1.out.2 q0 q1))
  have HS2 := Lib.hid (And.intro (sl_put2 (u := .slice A2 n2 d3) (v := .slice B2 m2 d4) HS2.out.1 q0 q1) (sgl_put2 (u := .slice A2 n2 d3) (v := .slice B2 m2 d4) HS2.out.2 q0 q1))
  obtain ⟨Z10, hZ⟩ : ∃ Z, Z = (wb2.setCell ⟨wb1.heap.size, 0, none⟩ (.slice A2 n2 d3)).setCell ⟨wb1.heap.size, 1, none⟩ (.slice B2 m2 d4) := ⟨_, rfl⟩
  rw [← hZ] at HS1 HS2
  rw [← hZ]
  replace fp0 : Z10.frozen? ⟨wa1.heap.size, 0, none⟩ = false := by rw [hZ]; simpa using fp0
  replace fp1 : Z10.frozen? ⟨wa1.heap.size, 1, none⟩ = false := by rw [hZ]; simpa using fp1
  replace fq0 : Z10.frozen? ⟨wb1.heap.size, 0, none⟩ = false := by rw [hZ]; simpa using fq0
  replace fq1 : Z10.frozen? ⟨wb1.heap.size, 1, none⟩ = false := by rw [hZ]; simpa using fq1
  replace x0 : Z10.cell? ⟨w.heap.size, 0, none⟩ = some (.slice A n c) := by rw [hZ]; exact cell_setO (cell_setO x0 (by omega)) (by omega)
  replace x1 : Z10.cell? ⟨w.heap.size, 1, none⟩ = some (.slice B m d) := by rw [hZ]; exact cell_setO (cell_setO x1 (by omega)) (by omega)
  replace y0 : Z10.cell? ⟨w.heap.size + 1, 0, none⟩ = some (.int .i64 s.tm) := by rw [hZ]; exact cell_setO (cell_setO y0 (by omega)) (by omega)
  replace y1 : Z10.cell? ⟨w.heap.size + 1, 1, none⟩ = some (.int .i64 s.ca) := by rw [hZ]; exact cell_setO (cell_setO y1 (by omega)) (by omega)
  replace y2 : Z10.cell? ⟨w.heap.size + 1, 2, none⟩ = some (.int .i64 s.cb) := by rw [hZ]; exact cell_setO (cell_setO y2 (by omega)) (by omega)
  replace y3 : Z10.cell? ⟨w.heap.size + 1, 3, none⟩ = some (.int .i64 s.lo) := by rw [hZ]; exact cell_setO (cell_setO y3 (by omega)) (by omega)
  replace y4 : Z10.cell? ⟨w.heap.size + 1, 4, none⟩ = some (.int .i64 s.hi) := by rw [hZ]; exact cell_setO (cell_setO y4 (by omega)) (by omega)
  replace z0 : Z10.cell? ⟨w.heap.size + 1 + 1, 0, none⟩ = some (.int .i64 c0) := by rw [hZ]; exact cell_setO (cell_setO z0 (by omega)) (by omega)
  replace z1 : Z10.cell? ⟨w.heap.size + 1 + 1, 1, none⟩ = some (.int .i64 c1) := by rw [hZ]; exact cell_setO (cell_setO z1 (by omega)) (by omega)
  replace z2 : Z10.cell? ⟨w.heap.size + 1 + 1, 2, none⟩ = some (.int .i64 c2) := by rw [hZ]; exact cell_setO (cell_setO z2 (by omega)) (by omega)
  replace p0 : Z10.cell? ⟨wa1.heap.size, 0, none⟩ = some (.slice A1 n2 d1) := by rw [hZ]; exact cell_setO (cell_setO p0 (by omega)) (by omega)
  replace p1 : Z10.cell? ⟨wa1.heap.size, 1, none⟩ = some (.slice B1 m2 d2) := by rw [hZ]; exact cell_setO (cell_setO p1 (by omega)) (by omega)
  have q1N : Z10.cell? ⟨wb1.heap.size, 1, none⟩ = some (.slice B2 m2 d4) := by rw [hZ]; exact put_1U q0 q1 _ _
  replace q0 : Z10.cell? ⟨wb1.heap.size, 0, none⟩ = some (.slice A2 n2 d3) := by rw [hZ]; exact put_0U q0 _ _
  clear q1
  have q1 := q1N
  clear q1N
  have HB10 := Lib.hid (show Bl w Z10 by rw [hZ]; exact bl_set (bl_set HB9.out (by omega)) (by omega))
  clear hZ
  refine (same_yes A1 n2 d1 R2 B1 m2 d2 S2 A2 d3 B2 d4 Z10 HS1.out.1 HS1.out.2 HS2.out.1 HS2.out.2 HN1.out.1 HN1.out.2).mono ?_
  rintro e wc2 ⟨rfl, hb⟩
  replace fp0 := fzb hb fp0 (ltb p0)
  replace fp1 := fzb hb fp1 (ltb p0)
  replace fq0 := fzb hb fq0 (ltb q0)
  replace fq1 := fzb hb fq1 (ltb q0)
  replace x0 := kcb hb x0
  replace x1 := kcb hb x1
  replace y0 := kcb hb y0
  replace y1 := kcb hb y1
  replace y2 := kcb hb y2
  replace y3 := kcb hb y3
  replace y4 := kcb hb y4
  replace z0 := kcb hb z0
  replace z1 := kcb hb z1
  replace z2 := kcb hb z2
  replace p0 := kcb hb p0
  replace p1 := kcb hb p1
  replace q0 := kcb hb q0
  replace q1 := kcb hb q1
  have HB11 := Lib.hid (HB10.out.tr hb)
  have ls11_0 := ltb x0
  have ls11_1 := ltb y0
  have ls11_2 := ltb z0
  have ls11_3 := ltb p0
  have ls11_4 := ltb q0
  have lz0 := ltb x0
  have lz1 := ltb y0
  have lz2 := ltb z0
  have lz3 := ltb p0
  have lz4 := ltb q0
  clear hb HS1 HS2 HN1
  go_wp2_with fail
  refine (P3.out _ HB11.out).mono ?_
  rintro e wa3 ⟨A1, d1, B1, d2, rfl, hn1, hm1, hs3, hs4, hb⟩
  dsimp only at hn1 hm1 hs3 hs4 ⊢
  replace fp0 := fzb hb fp0 (ltb p0)
  replace fp1 := fzb hb fp1 (ltb p0)
  replace fq0 := fzb hb fq0 (ltb q0)
  replace fq1 := fzb hb fq1 (ltb q0)
  replace x0 := kcb hb x0
  replace x1 := kcb hb x1
  replace y0 := kcb hb y0
  replace y1 := kcb hb y1
  replace y2 := kcb hb y2
  replace y3 := kcb hb y3
  replace y4 := kcb hb y4
  replace z0 := kcb hb z0
  replace z1 := kcb hb z1
  replace z2 := kcb hb z2
  replace p0 := kcb hb p0
  replace p1 := kcb hb p1
  replace q0 := kcb hb q0
  replace q1 := kcb hb q1
  have HB12 := Lib.hid (HB11.out.tr hb)
  have lz0 := ltb x0
  have lz1 := ltb y0
  have lz2 := ltb z0
  have lz3 := ltb p0
  have lz4 := ltb q0
  have HS1 := Lib.hid (And.intro hs3 hs4)
  have HN1 := Lib.hid (And.intro hn1 hm1)
  clear hs3 hs4 hn1 hm1 hb
  go_wp2_with fail
  have HS1 := Lib.hid (And.intro (sl_put2 (u := .slice A1 n3 d1) (v := .slice B1 m3 d2) HS1.out.1 p0 p1) (sgl_put2 (u := .slice A1 n3 d1) (v := .slice B1 m3 d2) HS1.out.2 p0 p1))
  obtain ⟨Z13, hZ⟩ : ∃ Z, Z = (wa3.setCell ⟨wa1.heap.size, 0, none⟩ (.slice A1 n3 d1)).setCell ⟨wa1.heap.size, 1, none⟩ (.slice B1 m3 d2) := ⟨_, rfl⟩
  rw [← hZ] at HS1
  rw [← hZ]
  replace fp0 : Z13.frozen? ⟨wa1.heap.size, 0, none⟩ = false := by rw [hZ]; simpa using fp0
  replace fp1 : Z13.frozen? ⟨wa1.heap.size, 1, none⟩ = false := by rw [hZ]; simpa using fp1
  replace fq0 : Z13.frozen? ⟨wb1.heap.size, 0, none⟩ = false := by rw [hZ]; simpa using fq0
  replace fq1 : Z13.frozen? ⟨wb1.heap.size, 1, none⟩ = false := by rw [hZ]; simpa using fq1
  replace x0 : Z13.cell? ⟨w.heap.size, 0, none⟩ = some (.slice A n c) := by rw [hZ]; exact cell_setO (cell_setO x0 (by omega)) (by omega)
  replace x1 : Z13.cell? ⟨w.heap.size, 1, none⟩ = some (.slice B m d) := by rw [hZ]; exact cell_setO (cell_setO x1 (by omega)) (by omega)
  replace y0 : Z13.cell? ⟨w.heap.size + 1, 0, none⟩ = some (.int .i64 s.tm) := by rw [hZ]; exact cell_setO (cell_setO y0 (by omega)) (by omega)
  replace y1 : Z13.cell? ⟨w.heap.size + 1, 1, none⟩ = some (.int .i64 s.ca) := by rw [hZ]; exact cell_setO (cell_setO y1 (by omega)) (by omega)
  replace y2 : Z13.cell? ⟨w.heap.size + 1, 2, none⟩ = some (.int .i64 s.cb) := by rw [hZ]; exact cell_setO (cell_setO y2 (by omega)) (by omega)
  replace y3 : Z13.cell? ⟨w.heap.size + 1, 3, none⟩ = some (.int .i64 s.lo) := by rw [hZ]; exact cell_setO (cell_setO y3 (by omega)) (by omega)
  replace y4 : Z13.cell? ⟨w.heap.size + 1, 4, none⟩ = some (.int .i64 s.hi) := by rw [hZ]; exact cell_setO (cell_setO y4 (by omega)) (by omega)
  replace z0 : Z13.cell? ⟨w.heap.size + 1 + 1, 0, none⟩ = some (.int .i64 c0) := by rw [hZ]; exact cell_setO (cell_setO z0 (by omega)) (by omega)
  replace z1 : Z13.cell? ⟨w.heap.size + 1 + 1, 1, none⟩ = some (.int .i64 c1) := by rw [hZ]; exact cell_setO (cell_setO z1 (by omega)) (by omega)
  replace z2 : Z13.cell? ⟨w.heap.size + 1 + 1, 2, none⟩ = some (.int .i64 c2) := by rw [hZ]; exact cell_setO (cell_setO z2 (by omega)) (by omega)
  replace q0 : Z13.cell? ⟨wb1.heap.size, 0, none⟩ = some (.slice A2 n2 d3) := by rw [hZ]; exact cell_setO (cell_setO q0 (by omega)) (by omega)
  replace q1 : Z13.cell? ⟨wb1.heap.size, 1, none⟩ = some (.slice B2 m2 d4) := by rw [hZ]; exact cell_setO (cell_setO q1 (by omega)) (by omega)
  have p1N : Z13.cell? ⟨wa1.heap.size, 1, none⟩ = some (.slice B1 m3 d2) := by rw [hZ]; exact put_1U p0 p1 _ _
  replace p0 : Z13.cell? ⟨wa1.heap.size, 0, none⟩ = some (.slice A1 n3 d1) := by rw [hZ]; exact put_0U p0 _ _
  clear p1
  have p1 := p1N
  clear p1N
  have HB13 := Lib.hid (show Bl w Z13 by rw [hZ]; exact bl_set (bl_set HB12.out (by omega)) (by omega))
  clear hZ
  refine (Q3.out _ HB13.out).mono ?_
  rintro e wb3 ⟨A2, d3, B2, d4, rfl, hn1, hm1, hs3, hs4, hb⟩
  dsimp only at hn1 hm1 hs3 hs4 ⊢
  replace fp0 := fzb hb fp0 (ltb p0)
  replace fp1 := fzb hb fp1 (ltb p0)
  replace fq0 := fzb hb fq0 (ltb q0)
  replace fq1 := fzb hb fq1 (ltb q0)
  replace x0 := kcb hb x0
  replace x1 := kcb hb x1
  replace y0 := kcb hb y0
  replace y1 := kcb hb y1
  replace y2 := kcb hb y2
  replace y3 := kcb hb y3
  replace y4 := kcb hb y4
  replace z0 := kcb hb z0
  replace z1 := kcb hb z1
  replace z2 := kcb hb z2
  replace q0 := kcb hb q0
  replace q1 := kcb hb q1
  replace p0 := kcb hb p0
  replace p1 := kcb hb p1
  have HB14 := Lib.hid (HB13.out.tr hb)
  have lz0 := ltb x0
  have lz1 := ltb y0
  have lz2 := ltb z0
  have lz3 := ltb q0
  have lz4 := ltb p0
  have HS1 := Lib.hid (And.intro (HS1.out.1.below hb) (HS1.out.2.below hb))
  have HS2 := Lib.hid (And.intro hs3 hs4)
  clear hs3 hs4 hn1 hm1 hb
  go_wp2_with fail
  have HS1 := Lib.hid (And.intro (sl_put2 (u := .slice A2 n3 d3) (v := .slice B2 m3 d4) HS1.out.1 q0 q1) (sgl_put2 (u := .slice A2 n3 d3) (v := .slice B2 m3 d4) HS1.out.2 q0 q1))
  have HS2 := Lib.hid (And.intro (sl_put2 (u := .slice A2 n3 d3) (v := .slice B2 m3 d4) HS2.out.1 q0 q1) (sgl_put2 (u := .slice A2 n3 d3) (v := .slice B2 m3 d4) HS2.out.2 q0 q1))
  obtain ⟨Z15, hZ⟩ : ∃ Z, Z = (wb3.setCell ⟨wb1.heap.size, 0, none⟩ (.slice A2 n3 d3)).setCell ⟨wb1.heap.size, 1, none⟩ (.slice B2 m3 d4) := ⟨_, rfl⟩
  rw [← hZ] at HS1 HS2
  rw [← hZ]
  replace fp0 : Z15.frozen? ⟨wa1.heap.size, 0, none⟩ = false := by rw [hZ]; simpa using fp0
  replace fp1 : Z15.frozen? ⟨wa1.heap.size, 1, none⟩ = false := by rw [hZ]; simpa using fp1
  replace fq0 : Z15.frozen? ⟨wb1.heap.size, 0, none⟩ = false := by rw [hZ]; simpa using fq0
  replace fq1 : Z15.frozen? ⟨wb1.heap.size, 1, none⟩ = false := by rw [hZ]; simpa using fq1
  replace x0 : Z15.cell? ⟨w.heap.size, 0, none⟩ = some (.slice A n c) := by rw [hZ]; exact cell_setO (cell_setO x0 (by omega)) (by omega)
  replace x1 : Z15.cell? ⟨w.heap.size, 1, none⟩ = some (.slice B m d) := by rw [hZ]; exact cell_setO (cell_setO x1 (by omega)) (by omega)
  replace y0 : Z15.cell? ⟨w.heap.size + 1, 0, none⟩ = some (.int .i64 s.tm) := by rw [hZ]; exact cell_setO (cell_setO y0 (by omega)) (by omega)
  replace y1 : Z15.cell? ⟨w.heap.size + 1, 1, none⟩ = some (.int .i64 s.ca) := by rw [hZ]; exact cell_setO (cell_setO y1 (by omega)) (by omega)
  replace y2 : Z15.cell? ⟨w.heap.size + 1, 2, none⟩ = some (.int .i64 s.cb) := by rw [hZ]; exact cell_setO (cell_setO y2 (by omega)) (by omega)
  replace y3 : Z15.cell? ⟨w.heap.size + 1, 3, none⟩ = some (.int .i64 s.lo) := by rw [hZ]; exact cell_setO (cell_setO y3 (by omega)) (by omega)
  replace y4 : Z15.cell? ⟨w.heap.size + 1, 4, none⟩ = some (.int .i64 s.hi) := by rw [hZ]; exact cell_setO (cell_setO y4 (by omega)) (by omega)
  replace z0 : Z15.cell? ⟨w.heap.size + 1 + 1, 0, none⟩ = some (.int .i64 c0) := by rw [hZ]; exact cell_setO (cell_setO z0 (by omega)) (by omega)
  replace z1 : Z15.cell? ⟨w.heap.size + 1 + 1, 1, none⟩ = some (.int .i64 c1) := by rw [hZ]; exact cell_setO (cell_setO z1 (by omega)) (by omega)
  replace z2 : Z15.cell? ⟨w.heap.size + 1 + 1, 2, none⟩ = some (.int .i64 c2) := by rw [hZ]; exact cell_setO (cell_setO z2 (by omega)) (by omega)
  replace p0 : Z15.cell? ⟨wa1.heap.size, 0, none⟩ = some (.slice A1 n3 d1) := by rw [hZ]; exact cell_setO (cell_setO p0 (by omega)) (by omega)
  replace p1 : Z15.cell? ⟨wa1.heap.size, 1, none⟩ = some (.slice B1 m3 d2) := by rw [hZ]; exact cell_setO (cell_setO p1 (by omega)) (by omega)
  have q1N : Z15.cell? ⟨wb1.heap.size, 1, none⟩ = some (.slice B2 m3 d4) := by rw [hZ]; exact put_1U q0 q1 _ _
  replace q0 : Z15.cell? ⟨wb1.heap.size, 0, none⟩ = some (.slice A2 n3 d3) := by rw [hZ]; exact put_0U q0 _ _
  clear q1
  have q1 := q1N
  clear q1N
  have HB15 := Lib.hid (show Bl w Z15 by rw [hZ]; exact bl_set (bl_set HB14.out (by omega)) (by omega))
  clear hZ
  refine (same_yes A1 n3 d1 R3 B1 m3 d2 S3 A2 d3 B2 d4 Z15 HS1.out.1 HS1.out.2 HS2.out.1 HS2.out.2 HN1.out.1 HN1.out.2).mono ?_
  rintro e wc3 ⟨rfl, hb⟩
  replace fp0 := fzb hb fp0 (ltb p0)
  replace fp1 := fzb hb fp1 (ltb p0)
  replace fq0 := fzb hb fq0 (ltb q0)
  replace fq1 := fzb hb fq1 (ltb q0)
  replace x0 := kcb hb x0
  replace x1 := kcb hb x1
  replace y0 := kcb hb y0
  replace y1 := kcb hb y1
  replace y2 := kcb hb y2
  replace y3 := kcb hb y3
  replace y4 := kcb hb y4
  replace z0 := kcb hb z0
  replace z1 := kcb hb z1
  replace z2 := kcb hb z2
  replace p0 := kcb hb p0
  replace p1 := kcb hb p1
  replace q0 := kcb hb q0
  replace q1 := kcb hb q1
  have HB16 := Lib.hid (HB15.out.tr hb)
  have ls16_0 := ltb x0
  have ls16_1 := ltb y0
  have ls16_2 := ltb z0
  have ls16_3 := ltb p0
  have ls16_4 := ltb q0
  have lz0 := ltb x0
  have lz1 := ltb y0
  have lz2 := ltb z0
  have lz3 := ltb p0
  have lz4 := ltb q0
  clear hb HS1 HS2 HN1
  go_wp2_with fail
  refine (awakeS_any _).mono ?_
  rintro ea wa ⟨rfl, ha⟩
  go_wp2_with fail
  go_ret
  exact ⟨rfl, HB16.out.tr ha⟩
end Go.Proofs.Ytennmdlajealpaa
