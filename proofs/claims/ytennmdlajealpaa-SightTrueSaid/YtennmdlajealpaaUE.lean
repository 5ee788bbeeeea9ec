/-
  Package sight: the laws' Light and inside; the walk of SightOrders.
-/
import Derived.Test.YtennmdlajealpaaUC
import Derived.Test.YtennmdlajealpaaUP
namespace Go.Proofs.Ytennmdlajealpaa
open Go.RowKit Go.Maps
set_option linter.unusedSimpArgs false
set_option linter.unusedVariables false

/-- Whether a net is small enough. -/
def ligB (n m : Nat) : Bool := decide (n ≤ 100) && (decide (m ≤ 8) || decide (30 < m) && decide (m ≤ 100))
set_option maxRecDepth 100000 in
set_option maxHeartbeats 1600000 in
theorem light_any (A : Option Addr) (n c : Nat) (B : Option Addr) (m d : Nat) (w : World) :
    Calls Try.prog 19 #[encN A n c B m d] w fun e w' => e = .returned (.bool (ligB n m)) ∧ Bl w w' := by
  by_cases h1 : (n : Int) ≤ 100
  · by_cases h2 : (m : Int) ≤ 8
    · have HF := Lib.hid (show ligB n m = true by simp [ligB]; omega)
      go_enter Try.func19, Try.ntmps19
      go_wp2_with fail
      go_ret
      exact ⟨ret_bool HF.out.symm, by go_grown⟩
    · by_cases h3 : (30 : Int) < (m : Int)
      · by_cases h4 : (m : Int) ≤ 100
        · have HF := Lib.hid (show ligB n m = true by simp [ligB]; omega)
          go_enter Try.func19, Try.ntmps19
          go_wp2_with fail
          go_ret
          exact ⟨ret_bool HF.out.symm, by go_grown⟩
        · have HF := Lib.hid (show ligB n m = false by simp [ligB]; omega)
          go_enter Try.func19, Try.ntmps19
          go_wp2_with fail
          go_ret
          exact ⟨ret_bool HF.out.symm, by go_grown⟩
      · have HF := Lib.hid (show ligB n m = false by simp [ligB]; omega)
        go_enter Try.func19, Try.ntmps19
        go_wp2_with fail
        go_ret
        exact ⟨ret_bool HF.out.symm, by go_grown⟩
  · have HF := Lib.hid (show ligB n m = false by simp [ligB]; omega)
    go_enter Try.func19, Try.ntmps19
    go_wp2_with fail
    go_ret
    exact ⟨ret_bool HF.out.symm, by go_grown⟩
set_option maxHeartbeats 800000 in
theorem inside_yes (a b x y : Int) (w : World) (h1 : x ≤ a) (h2 : b ≤ y) :
    Calls Try.prog 51 #[.agg #[.int .i64 a, .int .i64 b], .agg #[.int .i64 x, .int .i64 y]] w fun e w' => e = .returned (.bool true) ∧ Bl w w' := by
  go_enter Try.func51, Try.ntmps51
  go_wp2_with fail
  go_ret
  exact ⟨rfl, by go_grown⟩
set_option maxRecDepth 100000 in
set_option maxHeartbeats 12800000 in
theorem orders_walk (A : Option Addr) (n c : Nat) (R : Nat → Int) (B : Option Addr) (m d : Nat) (S : Nat → Sgt) (c0 c1 c2 t : Int) (w : World) (hA : Sl w A n R) (hB : Sgl w B m S) (hn : n ≤ c ∧ c ≤ maxLen) (hm : m ≤ d ∧ d ≤ maxLen) :
    Calls Try.prog 11 #[encN A n c B m d, .agg #[.int .i64 c0, .int .i64 c1, .int .i64 c2], .int .i64 t] w fun e w' => e = .returned (.bool true) ∧ Bl w w' := by
  have hn := Nat.le_trans hn.1 hn.2
  have hm := Nat.le_trans hm.1 hm.2
  have HBT := Lib.hid (fun (a b : Int) (W : World) (hW : Bl w W) => between_any A n c R B m d S a b t W (hA.below hW) (hB.below hW) hn hm)
  clear hA hB hn hm
  go_enter Try.func11, Try.ntmps11
  go_wp2_with fail
  obtain ⟨Z1, hZ⟩ : ∃ Z, Z = ((w.alloc (Obj.cells #[.slice A n c, .slice B m d] 25)).alloc (Obj.cells #[.int .i64 c0, .int .i64 c1, .int .i64 c2] 53)) := ⟨_, rfl⟩
  have bz : Bl w Z1 := by rw [hZ]; exact Bl.tr (bl_alS _ _) (bl_alS _ _)
  have x0 : Z1.cell? ⟨w.heap.size, 0, none⟩ = some (.slice A n c) := by rw [hZ]; go_cell
  have x1 : Z1.cell? ⟨w.heap.size, 1, none⟩ = some (.slice B m d) := by rw [hZ]; go_cell
  have y0 : Z1.cell? ⟨w.heap.size + 1, 0, none⟩ = some (.int .i64 c0) := by rw [hZ]; go_cell
  have y1 : Z1.cell? ⟨w.heap.size + 1, 1, none⟩ = some (.int .i64 c1) := by rw [hZ]; go_cell
  have y2 : Z1.cell? ⟨w.heap.size + 1, 2, none⟩ = some (.int .i64 c2) := by rw [hZ]; go_cell
  rw [← hZ]
  have HB1 := Lib.hid (bz)
  clear hZ bz
  have HLI := light_any A n c B m d Z1
  cases hq : ligB n m with
  | false =>
    rw [hq] at HLI
    refine (HLI).mono ?_
    rintro e w2 ⟨rfl, hb⟩
    replace x0 := kcb hb x0
    replace x1 := kcb hb x1
    replace y0 := kcb hb y0
    replace y1 := kcb hb y1
    replace y2 := kcb hb y2
    have HB2 := Lib.hid (HB1.out.tr hb)
    clear hb
    have lz0 := ltb x0
    have lz1 := ltb y0
    go_wp2_with fail
    refine (awakeS_any _).mono ?_
    rintro ea wa ⟨rfl, ha⟩
    go_wp2_with fail
    go_ret
    exact ⟨rfl, HB2.out.tr ha⟩
  | true =>
    rw [hq] at HLI
    refine (HLI).mono ?_
    rintro e w2 ⟨rfl, hb⟩
    replace x0 := kcb hb x0
    replace x1 := kcb hb x1
    replace y0 := kcb hb y0
    replace y1 := kcb hb y1
    replace y2 := kcb hb y2
    have HB2 := Lib.hid (HB1.out.tr hb)
    clear HLI hq
    clear hb
    have lz0 := ltb x0
    have lz1 := ltb y0
    go_wp2_with fail
    refine (HBT.out c0 c1 _ HB2.out).mono ?_
    rintro e w3 ⟨xv1, yv1, kv1, rfl, hr1, hb⟩
    replace x0 := kcb hb x0
    replace x1 := kcb hb x1
    replace y0 := kcb hb y0
    replace y1 := kcb hb y1
    replace y2 := kcb hb y2
    have HB3 := Lib.hid (HB2.out.tr hb)
    have HR1 := Lib.hid hr1
    clear hr1
    rw [show spnV xv1 yv1 kv1 = .tuple #[.agg #[.int .i64 xv1, .int .i64 yv1], .int .i64 kv1] from rfl]
    clear hb
    have lz0 := ltb x0
    have lz1 := ltb y0
    go_wp2_with fail
    obtain ⟨Z4, hZ⟩ : ∃ Z, Z = (w3.alloc (Obj.cells #[.int .i64 xv1, .int .i64 yv1] 39)) := ⟨_, rfl⟩
    have bz : Bl w3 Z4 := by rw [hZ]; exact bl_alS _ _
    replace x0 := kcb bz x0
    replace x1 := kcb bz x1
    replace y0 := kcb bz y0
    replace y1 := kcb bz y1
    replace y2 := kcb bz y2
    have p0 : Z4.cell? ⟨w3.heap.size, 0, none⟩ = some (.int .i64 xv1) := by rw [hZ]; go_cell
    have p1 : Z4.cell? ⟨w3.heap.size, 1, none⟩ = some (.int .i64 yv1) := by rw [hZ]; go_cell
    rw [← hZ]
    have HB4 := Lib.hid (HB3.out.tr bz)
    clear hZ bz
    refine (HBT.out c1 c0 _ HB4.out).mono ?_
    rintro e w9 ⟨xv2, yv2, kv2, rfl, hr2, hb⟩
    replace x0 := kcb hb x0
    replace x1 := kcb hb x1
    replace y0 := kcb hb y0
    replace y1 := kcb hb y1
    replace y2 := kcb hb y2
    replace p0 := kcb hb p0
    replace p1 := kcb hb p1
    have HB5 := Lib.hid (HB4.out.tr hb)
    obtain ⟨hk, hxy⟩ := btr_turn HR1.out hr2
    subst hk
    clear hb hr2
    have lz0 := ltb x0
    have lz1 := ltb y0
    have lz2 := ltb p0
    rw [show spnV xv2 yv2 kv2 = .tuple #[.agg #[.int .i64 xv2, .int .i64 yv2], .int .i64 kv2] from rfl]
    by_cases hk0 : kv2 = 0
    rotate_left
    · have hk1 : (kv2 != 0) = true := by simp [hk0]
      clear hk0 hxy
      go_wp2_with fail
      obtain ⟨Z6, hZ⟩ : ∃ Z, Z = (w9.alloc (Obj.cells #[.int .i64 xv2, .int .i64 yv2] 39)) := ⟨_, rfl⟩
      have bz : Bl w9 Z6 := by rw [hZ]; exact bl_alS _ _
      replace x0 := kcb bz x0
      replace x1 := kcb bz x1
      replace y0 := kcb bz y0
      replace y1 := kcb bz y1
      replace y2 := kcb bz y2
      replace p0 := kcb bz p0
      replace p1 := kcb bz p1
      have q0 : Z6.cell? ⟨w9.heap.size, 0, none⟩ = some (.int .i64 xv2) := by rw [hZ]; go_cell
      have q1 : Z6.cell? ⟨w9.heap.size, 1, none⟩ = some (.int .i64 yv2) := by rw [hZ]; go_cell
      rw [← hZ]
      have HB6 := Lib.hid (HB5.out.tr bz)
      clear hZ bz
      refine (awakeS_any _).mono ?_
      rintro ea wa ⟨rfl, ha⟩
      go_wp2_with fail
      go_ret
      exact ⟨rfl, HB6.out.tr ha⟩
    · subst hk0
      obtain ⟨rfl, rfl⟩ := hxy rfl
      have hbd := btr_ok HR1.out
      have v1 : IntKind.i64.wrap (-yv1) = -yv1 := IntWalk.i64_in _ (by omega)
      have v2 : IntKind.i64.wrap (-xv1) = -xv1 := IntWalk.i64_in _ (by omega)
      clear hbd
      have lw1 : w9.heap.size < w9.heap.size + 1 := by omega
      go_wp2_with fail
      obtain ⟨Z6, hZ⟩ : ∃ Z, Z = (w9.alloc (Obj.cells #[.int .i64 (-yv1), .int .i64 (-xv1)] 39)) := ⟨_, rfl⟩
      have bz : Bl w9 Z6 := by rw [hZ]; exact bl_alS _ _
      replace x0 := kcb bz x0
      replace x1 := kcb bz x1
      replace y0 := kcb bz y0
      replace y1 := kcb bz y1
      replace y2 := kcb bz y2
      replace p0 := kcb bz p0
      replace p1 := kcb bz p1
      have q0 : Z6.cell? ⟨w9.heap.size, 0, none⟩ = some (.int .i64 (-yv1)) := by rw [hZ]; go_cell
      have q1 : Z6.cell? ⟨w9.heap.size, 1, none⟩ = some (.int .i64 (-xv1)) := by rw [hZ]; go_cell
      rw [← hZ]
      have HB6 := Lib.hid (HB5.out.tr bz)
      clear hZ bz
      refine (HBT.out c0 c2 _ HB6.out).mono ?_
      rintro e w7 ⟨xv3, yv3, kv3, rfl, hr3, hb⟩
      replace x0 := kcb hb x0
      replace x1 := kcb hb x1
      replace y0 := kcb hb y0
      replace y1 := kcb hb y1
      replace y2 := kcb hb y2
      replace p0 := kcb hb p0
      replace p1 := kcb hb p1
      replace q0 := kcb hb q0
      replace q1 := kcb hb q1
      have HB7 := Lib.hid (HB6.out.tr hb)
      have HR3 := Lib.hid hr3
      clear hr3
      rw [show spnV xv3 yv3 kv3 = .tuple #[.agg #[.int .i64 xv3, .int .i64 yv3], .int .i64 kv3] from rfl]
      clear hb
      have lz0 := ltb x0
      have lz1 := ltb y0
      have lz2 := ltb p0
      have lz3 := ltb q0
      go_wp2_with fail
      obtain ⟨Z8, hZ⟩ : ∃ Z, Z = (w7.alloc (Obj.cells #[.int .i64 xv3, .int .i64 yv3] 39)) := ⟨_, rfl⟩
      have bz : Bl w7 Z8 := by rw [hZ]; exact bl_alS _ _
      replace x0 := kcb bz x0
      replace x1 := kcb bz x1
      replace y0 := kcb bz y0
      replace y1 := kcb bz y1
      replace y2 := kcb bz y2
      replace p0 := kcb bz p0
      replace p1 := kcb bz p1
      replace q0 := kcb bz q0
      replace q1 := kcb bz q1
      have r0 : Z8.cell? ⟨w7.heap.size, 0, none⟩ = some (.int .i64 xv3) := by rw [hZ]; go_cell
      have r1 : Z8.cell? ⟨w7.heap.size, 1, none⟩ = some (.int .i64 yv3) := by rw [hZ]; go_cell
      rw [← hZ]
      have HB8 := Lib.hid (HB7.out.tr bz)
      clear hZ bz
      refine (HBT.out c2 c1 _ HB8.out).mono ?_
      rintro e w8 ⟨xv4, yv4, kv4, rfl, hr4, hb⟩
      replace x0 := kcb hb x0
      replace x1 := kcb hb x1
      replace y0 := kcb hb y0
      replace y1 := kcb hb y1
      replace y2 := kcb hb y2
      replace p0 := kcb hb p0
      replace p1 := kcb hb p1
      replace q0 := kcb hb q0
      replace q1 := kcb hb q1
      replace r0 := kcb hb r0
      replace r1 := kcb hb r1
      have HB9 := Lib.hid (HB8.out.tr hb)
      have HR4 := Lib.hid hr4
      clear hb hr4
      have lz0 := ltb x0
      have lz1 := ltb p0
      have lz2 := ltb r0
      rw [show spnV xv4 yv4 kv4 = .tuple #[.agg #[.int .i64 xv4, .int .i64 yv4], .int .i64 kv4] from rfl]
      by_cases hk3 : kv3 = 0
      rotate_left
      · have hk1 : (kv3 != 0) = true := by simp [hk3]
        clear hk3
        go_wp2_with fail
        obtain ⟨Z10, hZ⟩ : ∃ Z, Z = (w8.alloc (Obj.cells #[.int .i64 xv4, .int .i64 yv4] 39)) := ⟨_, rfl⟩
        have bz : Bl w8 Z10 := by rw [hZ]; exact bl_alS _ _
        replace x0 := kcb bz x0
        replace x1 := kcb bz x1
        replace y0 := kcb bz y0
        replace y1 := kcb bz y1
        replace y2 := kcb bz y2
        replace p0 := kcb bz p0
        replace p1 := kcb bz p1
        replace q0 := kcb bz q0
        replace q1 := kcb bz q1
        replace r0 := kcb bz r0
        replace r1 := kcb bz r1
        have s0 : Z10.cell? ⟨w8.heap.size, 0, none⟩ = some (.int .i64 xv4) := by rw [hZ]; go_cell
        have s1 : Z10.cell? ⟨w8.heap.size, 1, none⟩ = some (.int .i64 yv4) := by rw [hZ]; go_cell
        rw [← hZ]
        have HB10 := Lib.hid (HB9.out.tr bz)
        clear hZ bz
        refine (awakeS_any _).mono ?_
        rintro ea wa ⟨rfl, ha⟩
        go_wp2_with fail
        go_ret
        exact ⟨rfl, HB10.out.tr ha⟩
      subst hk3
      by_cases hk4 : kv4 = 0
      rotate_left
      · have hk1 : (kv4 != 0) = true := by simp [hk4]
        clear hk4
        go_wp2_with fail
        obtain ⟨Z10, hZ⟩ : ∃ Z, Z = (w8.alloc (Obj.cells #[.int .i64 xv4, .int .i64 yv4] 39)) := ⟨_, rfl⟩
        have bz : Bl w8 Z10 := by rw [hZ]; exact bl_alS _ _
        replace x0 := kcb bz x0
        replace x1 := kcb bz x1
        replace y0 := kcb bz y0
        replace y1 := kcb bz y1
        replace y2 := kcb bz y2
        replace p0 := kcb bz p0
        replace p1 := kcb bz p1
        replace q0 := kcb bz q0
        replace q1 := kcb bz q1
        replace r0 := kcb bz r0
        replace r1 := kcb bz r1
        have s0 : Z10.cell? ⟨w8.heap.size, 0, none⟩ = some (.int .i64 xv4) := by rw [hZ]; go_cell
        have s1 : Z10.cell? ⟨w8.heap.size, 1, none⟩ = some (.int .i64 yv4) := by rw [hZ]; go_cell
        rw [← hZ]
        have HB10 := Lib.hid (HB9.out.tr bz)
        clear hZ bz
        refine (awakeS_any _).mono ?_
        rintro ea wa ⟨rfl, ha⟩
        go_wp2_with fail
        go_ret
        exact ⟨rfl, HB10.out.tr ha⟩
      · subst hk4
        have hb3 := btr_ok HR3.out
        have hb4 := btr_ok HR4.out
        have hov := btr_over HR1.out HR3.out HR4.out
        have v3 : IntKind.i64.wrap (xv3 + xv4) = xv3 + xv4 := IntWalk.i64_in _ (by omega)
        have v4 : IntKind.i64.wrap (yv3 + yv4) = yv3 + yv4 := IntWalk.i64_in _ (by omega)
        have HIN := Lib.hid (fun W => inside_yes xv1 yv1 (xv3 + xv4) (yv3 + yv4) W hov.1 hov.2)
        clear hb3 hb4 hov
        have lp1 := Nat.lt_succ_of_lt lz1
        have lr1 := Nat.lt_succ_of_lt lz2
        go_wp2_with fail
        obtain ⟨Z10, hZ⟩ : ∃ Z, Z = (w8.alloc (Obj.cells #[.int .i64 xv4, .int .i64 yv4] 39)) := ⟨_, rfl⟩
        have bz : Bl w8 Z10 := by rw [hZ]; exact bl_alS _ _
        replace x0 := kcb bz x0
        replace x1 := kcb bz x1
        replace y0 := kcb bz y0
        replace y1 := kcb bz y1
        replace y2 := kcb bz y2
        replace p0 := kcb bz p0
        replace p1 := kcb bz p1
        replace q0 := kcb bz q0
        replace q1 := kcb bz q1
        replace r0 := kcb bz r0
        replace r1 := kcb bz r1
        have s0 : Z10.cell? ⟨w8.heap.size, 0, none⟩ = some (.int .i64 xv4) := by rw [hZ]; go_cell
        have s1 : Z10.cell? ⟨w8.heap.size, 1, none⟩ = some (.int .i64 yv4) := by rw [hZ]; go_cell
        rw [← hZ]
        have HB10 := Lib.hid (HB9.out.tr bz)
        clear hZ bz
        refine (HIN.out _).mono ?_
        rintro e w11 ⟨rfl, hb⟩
        replace x0 := kcb hb x0
        replace x1 := kcb hb x1
        replace y0 := kcb hb y0
        replace y1 := kcb hb y1
        replace y2 := kcb hb y2
        replace p0 := kcb hb p0
        replace p1 := kcb hb p1
        replace q0 := kcb hb q0
        replace q1 := kcb hb q1
        replace r0 := kcb hb r0
        replace r1 := kcb hb r1
        replace s0 := kcb hb s0
        replace s1 := kcb hb s1
        have HB11 := Lib.hid (HB10.out.tr hb)
        clear hb
        have lz0 := ltb x0
        have lz1 := ltb y0
        have lz2 := ltb p0
        have lz3 := ltb q0
        have lz4 := ltb r0
        have lz5 := ltb s0
        go_wp2_with fail
        refine (awakeS_any _).mono ?_
        rintro ea wa ⟨rfl, ha⟩
        go_wp2_with fail
        go_ret
        exact ⟨rfl, HB11.out.tr ha⟩
end Go.Proofs.Ytennmdlajealpaa
