/-
  Package sight: the walk of SightTrue.
-/
import Derived.Test.YtennmdlajealpaaULA
import Derived.BigQuiet
import Derived.Deep.QuietTactic
import Derived.Deep.RegionHeld3
namespace Go.Proofs.Ytennmdlajealpaa
open Go.RowKit Go.Maps
set_option linter.unusedSimpArgs false
set_option linter.unusedVariables false

set_option maxRecDepth 100000 in
set_option maxHeartbeats 51200000 in
theorem true_walk (A : Option Addr) (n c : Nat) (R : Nat → Int) (B : Option Addr) (m d : Nat) (S : Nat → Sgt) (AE : Option Addr) (ne ce : Nat) (E : Nat → Int) (AQ : Option Addr) (nq cq : Nat) (Q : Nat → Int) (t : Int) (w : World) (hA : Sl w A n R) (hB : Sgl w B m S) (hn : n ≤ c ∧ c ≤ maxLen) (hm : m ≤ d ∧ d ≤ maxLen) (hne : ne ≤ ce ∧ ce ≤ maxLen) (hE : Sl w AE ne E) (rE : ∀ j, rngS (E j)) (hnq : nq ≤ cq ∧ cq ≤ maxLen) (hQ : Sl w AQ nq Q) (rQ : ∀ j, rngS (Q j)) :
    Calls Try.prog 13 #[encN A n c B m d, .agg #[.slice AE ne ce, .slice AQ nq cq], .int .i64 t] w fun e w' => e = .returned (.bool true) ∧ Bl w w' := by
  have hn := Nat.le_trans hn.1 hn.2
  have hm := Nat.le_trans hm.1 hm.2
  have hne := Nat.le_trans hne.1 hne.2
  have hnq := Nat.le_trans hnq.1 hnq.2
  have HV := Lib.hid (fun (W : World) (hW : Bl w W) => rvalidN_any A n c R B m d S W (hA.below hW) (hB.below hW) hn hm)
  have HCO := Lib.hid (fun (W : World) (hW : Bl w W) => consistent_any A n c R B m d S W (hA.below hW) (hB.below hW) hn hm)
  have HER := Lib.hid (fun (a : Int) (W : World) (hW : Bl w W) => error_any A n c R B m d S a t W (hA.below hW) (hB.below hW) hn hm)
  have HA := Lib.hid hA
  have HB := Lib.hid hB
  have HE := Lib.hid hE
  have HQ := Lib.hid hQ
  clear hA hB hE hQ hn hm rE rQ
  unfold maxLen at hne hnq
  have HLI := Lib.hid (fun W => light_any A n c B m d W)
  cases hq : ligB n m with
  | false =>
    rw [hq] at HLI
    clear hq
    go_enter Try.func13, Try.ntmps13
    go_wp2_with fail
    obtain ⟨Z1, hZ⟩ : ∃ Z, Z = ((w.alloc (Obj.cells #[.slice A n c, .slice B m d] 25)).alloc (Obj.cells #[.slice AE ne ce, .slice AQ nq cq] 63)) := ⟨_, rfl⟩
    have bz : Bl w Z1 := by rw [hZ]; exact Bl.tr (bl_alS _ _) (bl_alS _ _)
    have x0 : Z1.cell? ⟨w.heap.size, 0, none⟩ = some (.slice A n c) := by rw [hZ]; go_cell
    have x1 : Z1.cell? ⟨w.heap.size, 1, none⟩ = some (.slice B m d) := by rw [hZ]; go_cell
    have y0 : Z1.cell? ⟨w.heap.size + 1, 0, none⟩ = some (.slice AE ne ce) := by rw [hZ]; go_cell
    have y1 : Z1.cell? ⟨w.heap.size + 1, 1, none⟩ = some (.slice AQ nq cq) := by rw [hZ]; go_cell
    rw [← hZ]
    have HB1 := Lib.hid (bz)
    clear hZ bz
    refine (HLI.out _).mono ?_
    rintro e w2 ⟨rfl, hb⟩
    replace x0 := kcb hb x0
    replace x1 := kcb hb x1
    replace y0 := kcb hb y0
    replace y1 := kcb hb y1
    have HB2 := Lib.hid (HB1.out.tr hb)
    clear hb
    have lz0 := ltb x0
    have lz1 := ltb y0
    go_wp2_with fail
    refine (awakeS_any _).mono ?_
    rintro ea wa ⟨rfl, ha⟩
    go_wp2_with fail
    go_ret
    exact ⟨rfl, HB2.out.tr ha⟩
  | true =>
    rw [hq] at HLI
    clear hq
    cases hv : vnB R n S m with
    | false =>
      rw [hv] at HV
      clear hv
      go_enter Try.func13, Try.ntmps13
      go_wp2_with fail
      obtain ⟨Z1, hZ⟩ : ∃ Z, Z = ((w.alloc (Obj.cells #[.slice A n c, .slice B m d] 25)).alloc (Obj.cells #[.slice AE ne ce, .slice AQ nq cq] 63)) := ⟨_, rfl⟩
      have bz : Bl w Z1 := by rw [hZ]; exact Bl.tr (bl_alS _ _) (bl_alS _ _)
      have x0 : Z1.cell? ⟨w.heap.size, 0, none⟩ = some (.slice A n c) := by rw [hZ]; go_cell
      have x1 : Z1.cell? ⟨w.heap.size, 1, none⟩ = some (.slice B m d) := by rw [hZ]; go_cell
      have y0 : Z1.cell? ⟨w.heap.size + 1, 0, none⟩ = some (.slice AE ne ce) := by rw [hZ]; go_cell
      have y1 : Z1.cell? ⟨w.heap.size + 1, 1, none⟩ = some (.slice AQ nq cq) := by rw [hZ]; go_cell
      rw [← hZ]
      have HB1 := Lib.hid (bz)
      clear hZ bz
      refine (HLI.out _).mono ?_
      rintro e w2 ⟨rfl, hb⟩
      replace x0 := kcb hb x0
      replace x1 := kcb hb x1
      replace y0 := kcb hb y0
      replace y1 := kcb hb y1
      have HB2 := Lib.hid (HB1.out.tr hb)
      clear hb
      have lz0 := ltb x0
      have lz1 := ltb y0
      go_wp2_with fail
      refine (HV.out _ HB2.out).mono ?_
      rintro e w3 ⟨rfl, hb⟩
      replace x0 := kcb hb x0
      replace x1 := kcb hb x1
      replace y0 := kcb hb y0
      replace y1 := kcb hb y1
      have HB3 := Lib.hid (HB2.out.tr hb)
      clear hb
      have lz0 := ltb x0
      have lz1 := ltb y0
      go_wp2_with fail
      refine (awakeS_any _).mono ?_
      rintro ea wa ⟨rfl, ha⟩
      go_wp2_with fail
      go_ret
      exact ⟨rfl, HB3.out.tr ha⟩
    | true =>
      have HVB := Lib.hid hv
      have HVN := Lib.hid (vn_iff.1 hv)
      rw [hv] at HV
      clear hv
      by_cases t1 : t < 0
      · skip
        go_enter Try.func13, Try.ntmps13
        go_wp2_with fail
        obtain ⟨Z1, hZ⟩ : ∃ Z, Z = ((w.alloc (Obj.cells #[.slice A n c, .slice B m d] 25)).alloc (Obj.cells #[.slice AE ne ce, .slice AQ nq cq] 63)) := ⟨_, rfl⟩
        have bz : Bl w Z1 := by rw [hZ]; exact Bl.tr (bl_alS _ _) (bl_alS _ _)
        have x0 : Z1.cell? ⟨w.heap.size, 0, none⟩ = some (.slice A n c) := by rw [hZ]; go_cell
        have x1 : Z1.cell? ⟨w.heap.size, 1, none⟩ = some (.slice B m d) := by rw [hZ]; go_cell
        have y0 : Z1.cell? ⟨w.heap.size + 1, 0, none⟩ = some (.slice AE ne ce) := by rw [hZ]; go_cell
        have y1 : Z1.cell? ⟨w.heap.size + 1, 1, none⟩ = some (.slice AQ nq cq) := by rw [hZ]; go_cell
        rw [← hZ]
        have HB1 := Lib.hid (bz)
        clear hZ bz
        refine (HLI.out _).mono ?_
        rintro e w2 ⟨rfl, hb⟩
        replace x0 := kcb hb x0
        replace x1 := kcb hb x1
        replace y0 := kcb hb y0
        replace y1 := kcb hb y1
        have HB2 := Lib.hid (HB1.out.tr hb)
        clear hb
        have lz0 := ltb x0
        have lz1 := ltb y0
        go_wp2_with fail
        refine (HV.out _ HB2.out).mono ?_
        rintro e w3 ⟨rfl, hb⟩
        replace x0 := kcb hb x0
        replace x1 := kcb hb x1
        replace y0 := kcb hb y0
        replace y1 := kcb hb y1
        have HB3 := Lib.hid (HB2.out.tr hb)
        clear hb
        have lz0 := ltb x0
        have lz1 := ltb y0
        go_wp2_with fail
        refine (awakeS_any _).mono ?_
        rintro ea wa ⟨rfl, ha⟩
        go_wp2_with fail
        go_ret
        exact ⟨rfl, HB3.out.tr ha⟩
      by_cases t2 : 1000000000000 < t
      · skip
        go_enter Try.func13, Try.ntmps13
        go_wp2_with fail
        obtain ⟨Z1, hZ⟩ : ∃ Z, Z = ((w.alloc (Obj.cells #[.slice A n c, .slice B m d] 25)).alloc (Obj.cells #[.slice AE ne ce, .slice AQ nq cq] 63)) := ⟨_, rfl⟩
        have bz : Bl w Z1 := by rw [hZ]; exact Bl.tr (bl_alS _ _) (bl_alS _ _)
        have x0 : Z1.cell? ⟨w.heap.size, 0, none⟩ = some (.slice A n c) := by rw [hZ]; go_cell
        have x1 : Z1.cell? ⟨w.heap.size, 1, none⟩ = some (.slice B m d) := by rw [hZ]; go_cell
        have y0 : Z1.cell? ⟨w.heap.size + 1, 0, none⟩ = some (.slice AE ne ce) := by rw [hZ]; go_cell
        have y1 : Z1.cell? ⟨w.heap.size + 1, 1, none⟩ = some (.slice AQ nq cq) := by rw [hZ]; go_cell
        rw [← hZ]
        have HB1 := Lib.hid (bz)
        clear hZ bz
        refine (HLI.out _).mono ?_
        rintro e w2 ⟨rfl, hb⟩
        replace x0 := kcb hb x0
        replace x1 := kcb hb x1
        replace y0 := kcb hb y0
        replace y1 := kcb hb y1
        have HB2 := Lib.hid (HB1.out.tr hb)
        clear hb
        have lz0 := ltb x0
        have lz1 := ltb y0
        go_wp2_with fail
        refine (HV.out _ HB2.out).mono ?_
        rintro e w3 ⟨rfl, hb⟩
        replace x0 := kcb hb x0
        replace x1 := kcb hb x1
        replace y0 := kcb hb y0
        replace y1 := kcb hb y1
        have HB3 := Lib.hid (HB2.out.tr hb)
        clear hb
        have lz0 := ltb x0
        have lz1 := ltb y0
        go_wp2_with fail
        refine (awakeS_any _).mono ?_
        rintro ea wa ⟨rfl, ha⟩
        go_wp2_with fail
        go_ret
        exact ⟨rfl, HB3.out.tr ha⟩
      by_cases t3 : (ne : Int) ≠ (n : Int)
      · have t3' : ((ne : Int) != (n : Int)) = true := by simpa using t3
        clear t3
        go_enter Try.func13, Try.ntmps13
        go_wp2_with fail
        obtain ⟨Z1, hZ⟩ : ∃ Z, Z = ((w.alloc (Obj.cells #[.slice A n c, .slice B m d] 25)).alloc (Obj.cells #[.slice AE ne ce, .slice AQ nq cq] 63)) := ⟨_, rfl⟩
        have bz : Bl w Z1 := by rw [hZ]; exact Bl.tr (bl_alS _ _) (bl_alS _ _)
        have x0 : Z1.cell? ⟨w.heap.size, 0, none⟩ = some (.slice A n c) := by rw [hZ]; go_cell
        have x1 : Z1.cell? ⟨w.heap.size, 1, none⟩ = some (.slice B m d) := by rw [hZ]; go_cell
        have y0 : Z1.cell? ⟨w.heap.size + 1, 0, none⟩ = some (.slice AE ne ce) := by rw [hZ]; go_cell
        have y1 : Z1.cell? ⟨w.heap.size + 1, 1, none⟩ = some (.slice AQ nq cq) := by rw [hZ]; go_cell
        rw [← hZ]
        have HB1 := Lib.hid (bz)
        clear hZ bz
        refine (HLI.out _).mono ?_
        rintro e w2 ⟨rfl, hb⟩
        replace x0 := kcb hb x0
        replace x1 := kcb hb x1
        replace y0 := kcb hb y0
        replace y1 := kcb hb y1
        have HB2 := Lib.hid (HB1.out.tr hb)
        clear hb
        have lz0 := ltb x0
        have lz1 := ltb y0
        go_wp2_with fail
        refine (HV.out _ HB2.out).mono ?_
        rintro e w3 ⟨rfl, hb⟩
        replace x0 := kcb hb x0
        replace x1 := kcb hb x1
        replace y0 := kcb hb y0
        replace y1 := kcb hb y1
        have HB3 := Lib.hid (HB2.out.tr hb)
        clear hb
        have lz0 := ltb x0
        have lz1 := ltb y0
        go_wp2_with fail
        refine (awakeS_any _).mono ?_
        rintro ea wa ⟨rfl, ha⟩
        go_wp2_with fail
        go_ret
        exact ⟨rfl, HB3.out.tr ha⟩
      have t3' : ((ne : Int) != (n : Int)) = false := by simpa using t3
      by_cases t4 : (nq : Int) ≠ (n : Int)
      · have t4' : ((nq : Int) != (n : Int)) = true := by simpa using t4
        clear t4
        go_enter Try.func13, Try.ntmps13
        go_wp2_with fail
        obtain ⟨Z1, hZ⟩ : ∃ Z, Z = ((w.alloc (Obj.cells #[.slice A n c, .slice B m d] 25)).alloc (Obj.cells #[.slice AE ne ce, .slice AQ nq cq] 63)) := ⟨_, rfl⟩
        have bz : Bl w Z1 := by rw [hZ]; exact Bl.tr (bl_alS _ _) (bl_alS _ _)
        have x0 : Z1.cell? ⟨w.heap.size, 0, none⟩ = some (.slice A n c) := by rw [hZ]; go_cell
        have x1 : Z1.cell? ⟨w.heap.size, 1, none⟩ = some (.slice B m d) := by rw [hZ]; go_cell
        have y0 : Z1.cell? ⟨w.heap.size + 1, 0, none⟩ = some (.slice AE ne ce) := by rw [hZ]; go_cell
        have y1 : Z1.cell? ⟨w.heap.size + 1, 1, none⟩ = some (.slice AQ nq cq) := by rw [hZ]; go_cell
        rw [← hZ]
        have HB1 := Lib.hid (bz)
        clear hZ bz
        refine (HLI.out _).mono ?_
        rintro e w2 ⟨rfl, hb⟩
        replace x0 := kcb hb x0
        replace x1 := kcb hb x1
        replace y0 := kcb hb y0
        replace y1 := kcb hb y1
        have HB2 := Lib.hid (HB1.out.tr hb)
        clear hb
        have lz0 := ltb x0
        have lz1 := ltb y0
        go_wp2_with fail
        refine (HV.out _ HB2.out).mono ?_
        rintro e w3 ⟨rfl, hb⟩
        replace x0 := kcb hb x0
        replace x1 := kcb hb x1
        replace y0 := kcb hb y0
        replace y1 := kcb hb y1
        have HB3 := Lib.hid (HB2.out.tr hb)
        clear hb
        have lz0 := ltb x0
        have lz1 := ltb y0
        go_wp2_with fail
        refine (awakeS_any _).mono ?_
        rintro ea wa ⟨rfl, ha⟩
        go_wp2_with fail
        go_ret
        exact ⟨rfl, HB3.out.tr ha⟩
      have t4' : ((nq : Int) != (n : Int)) = false := by simpa using t4
      have e3 : ne = n := by omega
      have e4 : nq = n := by omega
      have HT := Lib.hid (show 0 ≤ t ∧ t ≤ 1000000000000 from ⟨by omega, by omega⟩)
      clear t3 t4
      subst ne nq
      clear hne hnq
      go_enter Try.func13, Try.ntmps13
      go_wp2_with fail
      obtain ⟨Z1, hZ⟩ : ∃ Z, Z = ((w.alloc (Obj.cells #[.slice A n c, .slice B m d] 25)).alloc (Obj.cells #[.slice AE n ce, .slice AQ n cq] 63)) := ⟨_, rfl⟩
      have bz : Bl w Z1 := by rw [hZ]; exact Bl.tr (bl_alS _ _) (bl_alS _ _)
      have x0 : Z1.cell? ⟨w.heap.size, 0, none⟩ = some (.slice A n c) := by rw [hZ]; go_cell
      have x1 : Z1.cell? ⟨w.heap.size, 1, none⟩ = some (.slice B m d) := by rw [hZ]; go_cell
      have y0 : Z1.cell? ⟨w.heap.size + 1, 0, none⟩ = some (.slice AE n ce) := by rw [hZ]; go_cell
      have y1 : Z1.cell? ⟨w.heap.size + 1, 1, none⟩ = some (.slice AQ n cq) := by rw [hZ]; go_cell
      rw [← hZ]
      have HB1 := Lib.hid (bz)
      clear hZ bz
      refine (HLI.out _).mono ?_
      rintro e w2 ⟨rfl, hb⟩
      replace x0 := kcb hb x0
      replace x1 := kcb hb x1
      replace y0 := kcb hb y0
      replace y1 := kcb hb y1
      have HB2 := Lib.hid (HB1.out.tr hb)
      clear hb
      have lz0 := ltb x0
      have lz1 := ltb y0
      go_wp2_with fail
      refine (HV.out _ HB2.out).mono ?_
      rintro e w3 ⟨rfl, hb⟩
      replace x0 := kcb hb x0
      replace x1 := kcb hb x1
      replace y0 := kcb hb y0
      replace y1 := kcb hb y1
      have HB3 := Lib.hid (HB2.out.tr hb)
      clear hb
      have lz0 := ltb x0
      have lz1 := ltb y0
      go_wp2_with fail
      have HST := Lib.hid (show Bl w w3 ∧ w3.cell? ⟨w.heap.size, 0, none⟩ = some (.slice A n c) ∧ w3.cell? ⟨w.heap.size, 1, none⟩ = some (.slice B m d) ∧ w3.cell? ⟨w.heap.size + 1, 0, none⟩ = some (.slice AE n ce) ∧ w3.cell? ⟨w.heap.size + 1, 1, none⟩ = some (.slice AQ n cq) from ⟨HB3.out, x0, x1, y0, y1⟩)
      clear x0 x1 y0 y1
      have n8 := HVN.out.n8
      have n2 := HVN.out.n2
      go_loopw [55] (fun i wr => ∃ k : Nat, k ≤ n ∧ i = .int .i64 k ∧ Hid (∀ j, j < k → (j = 0 → E 0 = 0 ∧ Q 0 = 0) ∧ (-R j ≤ Q j ∧ Q j ≤ R j) ∧ (-86400000 ≤ E j ∧ E j ≤ 86400000)) ∧ Bl w wr ∧ wr.cell? ⟨w.heap.size, 0, none⟩ = some (.slice A n c) ∧ wr.cell? ⟨w.heap.size, 1, none⟩ = some (.slice B m d) ∧ wr.cell? ⟨w.heap.size + 1, 0, none⟩ = some (.slice AE n ce) ∧ wr.cell? ⟨w.heap.size + 1, 1, none⟩ = some (.slice AQ n cq)) (fun i _ => n - (intOf i).toNat)
      case atStart => exact ⟨0, Nat.zero_le _, rfl, fun j hj => absurd hj (by omega), HST.out⟩
      case round =>
        obtain ⟨k, hk, rfl, HO, hZ, x0, x1, y0, y1⟩ := hrel
        have HZ := Lib.hid hZ
        have lx := ltb x0
        have ly := ltb y0
        by_cases hlt : k < n
        · obtain ⟨a1, o1, rfl, la1, hc1⟩ := HE.out.below hZ (by omega)
          obtain ⟨a2, o2, rfl, la2, hc2⟩ := HQ.out.below hZ (by omega)
          obtain ⟨a3, o3, rfl, la3, hc3⟩ := HA.out.below hZ (by omega)
          have z1 := hc1 k hlt
          have z2 := hc2 k hlt
          have z3 := hc3 k hlt
          have hra := HVN.out.ra k hlt
          have hr0 := HVN.out.r0
          have HNX := Lib.hid (fun (h : (k = 0 → E 0 = 0 ∧ Q 0 = 0) ∧ (-R k ≤ Q k ∧ Q k ≤ R k) ∧ (-86400000 ≤ E k ∧ E k ≤ 86400000)) => (show ∀ j, j < k + 1 → (j = 0 → E 0 = 0 ∧ Q 0 = 0) ∧ (-R j ≤ Q j ∧ Q j ≤ R j) ∧ (-86400000 ≤ E j ∧ E j ≤ 86400000) from fun j hj => by
            by_cases e : j = k
            · subst e; exact h
            · exact HO.out j (by omega)))
          have HK0 := Lib.hid (fun (h : k = 0) => (show E 0 = E k ∧ Q 0 = Q k ∧ R k = 0 from by subst h; exact ⟨rfl, rfl, hr0⟩))
          obtain ⟨e, he⟩ : ∃ e, e = E k := ⟨_, rfl⟩
          obtain ⟨q, hq⟩ : ∃ q, q = Q k := ⟨_, rfl⟩
          obtain ⟨r, hr⟩ : ∃ r, r = R k := ⟨_, rfl⟩
          rw [← he] at z1 HNX HK0
          rw [← hq] at z2 HNX HK0
          rw [← hr] at z3 HNX HK0 hra
          have v1 : IntKind.i64.wrap (-r) = -r := IntWalk.i64_in _ (by omega)
          clear he hq hr hc1 hc2 hc3 hZ hr0
          have hk0 : k = 0 ∨ 0 < k := by omega
          have hb0 : ((k : Int) == 0) = decide (k = 0) := by
            rcases hk0 with h | h
            · rw [decide_eq_true h]; simp [h]
            · rw [decide_eq_false (by omega)]; simp; omega
          obtain ⟨b0, hb1⟩ : ∃ b0, b0 = decide (k = 0) := ⟨_, rfl⟩
          rw [← hb1] at hb0
          have HB0 := Lib.hid hb1
          clear hb1 hk0
          cases b0 with
          | true =>
            have hk0 := Lib.hid (of_decide_eq_true HB0.out.symm)
            by_cases p1 : q = 0
            · have p1' : (q != 0) = false := by simp [p1]
              by_cases p2 : e = 0
              · have p2' : (e != 0) = false := by simp [p2]
                have hr0 := (HK0.out hk0.out).2.2
                have HN := Lib.hid (HNX.out ⟨fun _ => by have := HK0.out hk0.out; omega, by omega, by omega⟩)
                have g1 : ¬ q < -r := by omega
                have g2 : ¬ r < q := by omega
                have g3 : ¬ e < -86400000 := by omega
                have g4 : ¬ 86400000 < e := by omega
                clear p1 p2 hr0 hra
                go_wp2_with fail
                go_roundw
                case rel => exact ⟨k + 1, by omega, by go_num, HN.out, HZ.out, x0, x1, y0, y1⟩
                case measure => simp [RowKit.intOf]; omega
              · have p2' : (e != 0) = true := by simp [p2]
                clear p1 p2
                go_wp2_with fail
                refine (awakeS_any _).mono ?_
                rintro ea wa ⟨rfl, ha⟩
                go_wp2_with fail
                go_ret
                exact ⟨rfl, HZ.out.tr ha⟩
            · have p1' : (q != 0) = true := by simp [p1]
              clear p1
              go_wp2_with fail
              refine (awakeS_any _).mono ?_
              rintro ea wa ⟨rfl, ha⟩
              go_wp2_with fail
              go_ret
              exact ⟨rfl, HZ.out.tr ha⟩
          | false =>
            have hk0 := Lib.hid (of_decide_eq_false HB0.out.symm)
            by_cases g1 : q < -r
            · clear hra
              go_wp2_with fail
              refine (awakeS_any _).mono ?_
              rintro ea wa ⟨rfl, ha⟩
              go_wp2_with fail
              go_ret
              exact ⟨rfl, HZ.out.tr ha⟩
            by_cases g2 : r < q
            · clear hra
              go_wp2_with fail
              refine (awakeS_any _).mono ?_
              rintro ea wa ⟨rfl, ha⟩
              go_wp2_with fail
              go_ret
              exact ⟨rfl, HZ.out.tr ha⟩
            by_cases g3 : e < -86400000
            · clear hra
              go_wp2_with fail
              refine (awakeS_any _).mono ?_
              rintro ea wa ⟨rfl, ha⟩
              go_wp2_with fail
              go_ret
              exact ⟨rfl, HZ.out.tr ha⟩
            by_cases g4 : 86400000 < e
            · clear hra
              go_wp2_with fail
              refine (awakeS_any _).mono ?_
              rintro ea wa ⟨rfl, ha⟩
              go_wp2_with fail
              go_ret
              exact ⟨rfl, HZ.out.tr ha⟩
            have HN := Lib.hid (HNX.out ⟨fun h => absurd h hk0.out, by omega, by omega⟩)
            clear hra
            go_wp2_with fail
            go_roundw
            case rel => exact ⟨k + 1, by omega, by go_num, HN.out, HZ.out, x0, x1, y0, y1⟩
            case measure => simp [RowKit.intOf]; omega
        · have hkn : k = n := by omega
          subst k
          have HO1 := Lib.hid HO.out
          have HQB := Lib.hid (fun (j : Nat) (hj : j < n) => (show (-1000000 ≤ Q j ∧ Q j ≤ 1000000) ∧ (-86400000 ≤ E j ∧ E j ≤ 86400000) from by
            obtain ⟨_, h1, h2⟩ := HO1.out j hj
            have := HVN.out.ra j hj
            exact ⟨⟨by omega, by omega⟩, h2⟩))
          have HIS := Lib.hid (fun (c0 : Int) (hc : 0 ≤ c0 ∧ c0 < (n : Int)) (t0 : Int) (ht : 0 ≤ t0 ∧ t0 ≤ 1000000000000) (W : World) (hW : Bl w W) => (show Calls Try.prog 52 #[.agg #[.slice AE n ce, .slice AQ n cq], .int .i64 c0, .int .i64 t0] W fun e w' => e = .returned (.int .i64 (isF E Q c0.toNat t0)) ∧ Bl W w' from by
            have h := is_any AE n ce E AQ n cq Q c0.toNat t0 W (HE.out.below hW) (HQ.out.below hW) (by omega) (by omega) (HQB.out c0.toNat (by omega)).1 (HQB.out c0.toNat (by omega)).2 ht
            rw [show ((c0.toNat : Nat) : Int) = c0 by omega] at h
            exact h))
          have HISB := Lib.hid (fun (c0 : Int) (hc : 0 ≤ c0 ∧ c0 < (n : Int)) (t0 : Int) (ht : 0 ≤ t0 ∧ t0 ≤ 1000000000000) => (show -1100000000 ≤ isF E Q c0.toNat t0 ∧ isF E Q c0.toNat t0 ≤ 1100000000 from (isF_bd (HQB.out c0.toNat (by omega)).1 (HQB.out c0.toNat (by omega)).2 ht).2.2))
          have m30 := HVN.out.m30
          have HSX := Lib.hid (show Bl w wr ∧ wr.cell? ⟨w.heap.size, 0, none⟩ = some (.slice A n c) ∧ wr.cell? ⟨w.heap.size, 1, none⟩ = some (.slice B m d) ∧ wr.cell? ⟨w.heap.size + 1, 0, none⟩ = some (.slice AE n ce) ∧ wr.cell? ⟨w.heap.size + 1, 1, none⟩ = some (.slice AQ n cq) from ⟨HZ.out, x0, x1, y0, y1⟩)
          clear hlt hk hZ HST
          go_wp2_with fail
          clear x0 x1 y0 y1
          go_loopw [114] (fun i ws => ∃ k : Nat, k ≤ m ∧ i = .int .i64 k ∧ Hid (∀ j, j < k → (S j).lo ≤ isF E Q (S j).ca.toNat (S j).tm - isF E Q (S j).cb.toNat (S j).tm ∧ isF E Q (S j).ca.toNat (S j).tm - isF E Q (S j).cb.toNat (S j).tm ≤ (S j).hi) ∧ Bl w ws ∧ ws.cell? ⟨w.heap.size, 0, none⟩ = some (.slice A n c) ∧ ws.cell? ⟨w.heap.size, 1, none⟩ = some (.slice B m d) ∧ ws.cell? ⟨w.heap.size + 1, 0, none⟩ = some (.slice AE n ce) ∧ ws.cell? ⟨w.heap.size + 1, 1, none⟩ = some (.slice AQ n cq)) (fun i _ => m - (intOf i).toNat)
          case atStart => exact ⟨0, Nat.zero_le _, rfl, fun j hj => absurd hj (by omega), HSX.out⟩
          case round =>
            obtain ⟨ws, hws⟩ : ∃ ws, ws = wr := ⟨_, rfl⟩
            subst hws
            obtain ⟨k, hk, rfl, HP, hZ, x0, x1, y0, y1⟩ := hrel
            have HZ := Lib.hid hZ
            have lx := ltb x0
            have ly := ltb y0
            by_cases hlt : k < m
            · obtain ⟨b3, o3, rfl, lb3, hc3⟩ := HB.out.below hZ (by omega)
              obtain ⟨s0, s1, s2, s3, s4⟩ := hc3 k hlt
              have hsg := sgB_iff.1 (HVN.out.sg k hlt)
              have HNX := Lib.hid (fun (h : (S k).lo ≤ isF E Q (S k).ca.toNat (S k).tm - isF E Q (S k).cb.toNat (S k).tm ∧ isF E Q (S k).ca.toNat (S k).tm - isF E Q (S k).cb.toNat (S k).tm ≤ (S k).hi) => (show ∀ j, j < k + 1 → (S j).lo ≤ isF E Q (S j).ca.toNat (S j).tm - isF E Q (S j).cb.toNat (S j).tm ∧ isF E Q (S j).ca.toNat (S j).tm - isF E Q (S j).cb.toNat (S j).tm ≤ (S j).hi from fun j hj => by
                by_cases e : j = k
                · subst e; exact h
                · exact HP.out j (by omega)))
              obtain ⟨x, hx⟩ : ∃ x, x = S k := ⟨_, rfl⟩
              rw [← hx] at s0 s1 s2 s3 s4 hsg HNX
              have HIA := Lib.hid (HIS.out x.ca hsg.2.1 x.tm hsg.1)
              have HIB := Lib.hid (HIS.out x.cb hsg.2.2.1 x.tm hsg.1)
              have ba := HISB.out x.ca hsg.2.1 x.tm hsg.1
              have bb := HISB.out x.cb hsg.2.2.1 x.tm hsg.1
              obtain ⟨ua, hua⟩ : ∃ u, u = isF E Q x.ca.toNat x.tm := ⟨_, rfl⟩
              obtain ⟨ub, hub⟩ : ∃ u, u = isF E Q x.cb.toNat x.tm := ⟨_, rfl⟩
              rw [← hua] at HIA ba HNX
              rw [← hub] at HIB bb HNX
              have v1 : IntKind.i64.wrap (ua - ub) = ua - ub := IntWalk.i64_in _ (by omega)
              clear hx hsg hua hub ba bb hc3 hZ
              go_wp2_with fail
              obtain ⟨Y, hY⟩ : ∃ Y, Y = ws.alloc (Obj.cells #[.int .i64 x.tm, .int .i64 x.ca, .int .i64 x.cb, .int .i64 x.lo, .int .i64 x.hi] 52) := ⟨_, rfl⟩
              have BY : Bl ws Y := by rw [hY]; exact bl_alS _ _
              have t0 : Y.cell? ⟨ws.heap.size, 0, none⟩ = some (.int .i64 x.tm) := by rw [hY]; go_cell
              have t1 : Y.cell? ⟨ws.heap.size, 1, none⟩ = some (.int .i64 x.ca) := by rw [hY]; go_cell
              have t2 : Y.cell? ⟨ws.heap.size, 2, none⟩ = some (.int .i64 x.cb) := by rw [hY]; go_cell
              have t3 : Y.cell? ⟨ws.heap.size, 3, none⟩ = some (.int .i64 x.lo) := by rw [hY]; go_cell
              have t4 : Y.cell? ⟨ws.heap.size, 4, none⟩ = some (.int .i64 x.hi) := by rw [hY]; go_cell
              have x0 := kcb BY x0
              have x1 := kcb BY x1
              have y0 := kcb BY y0
              have y1 := kcb BY y1
              have HBY := Lib.hid (HZ.out.tr BY)
              rw [← hY]
              clear hY BY s0 s1 s2 s3 s4 lx ly
              refine wp_region_noPanic ?_
              refine wp_region_held_drew (S := fun w' => Bl w w' ∧ w'.cell? ⟨w.heap.size, 0, none⟩ = some (.slice A n c) ∧ w'.cell? ⟨w.heap.size, 1, none⟩ = some (.slice (some ⟨b3, o3, none⟩) m d) ∧ w'.cell? ⟨w.heap.size + 1, 0, none⟩ = some (.slice AE n ce) ∧ w'.cell? ⟨w.heap.size + 1, 1, none⟩ = some (.slice AQ n cq) ∧ w'.cell? ⟨ws.heap.size, 0, none⟩ = some (.int .i64 x.tm) ∧ w'.cell? ⟨ws.heap.size, 1, none⟩ = some (.int .i64 x.ca) ∧ w'.cell? ⟨ws.heap.size, 2, none⟩ = some (.int .i64 x.cb) ∧ w'.cell? ⟨ws.heap.size, 3, none⟩ = some (.int .i64 x.lo) ∧ w'.cell? ⟨ws.heap.size, 4, none⟩ = some (.int .i64 x.hi)) (by kernel_rfl) (⟨HBY.out.tr (bl_drS _), kcb (bl_drS _) x0, kcb (bl_drS _) x1, kcb (bl_drS _) y0, kcb (bl_drS _) y1, kcb (bl_drS _) t0, kcb (bl_drS _) t1, kcb (bl_drS _) t2, kcb (bl_drS _) t3, kcb (bl_drS _) t4⟩) (fun hH => ?_)
              refine wpAnyH_take (i := 0) (oi := ({ dst := some 118, op := Go.Op.load 63 (Go.Operand.tmp 4), type := 63, pos := "law.go:244", after := #[], guard := none } : Oper)) (v := ?_) rfl (by kernel_rfl) (by kernel_rfl) (by kernel_rfl) (fun _ _ _ h => h) (Or.inl ⟨by rfl, ?_⟩) hH ?_
              rotate_left
              · intro w hSw; (try dsimp only at hSw); go_simp; try with_reducible rfl
              try simp only [Act.put, List.setIfInBounds_toArray, List.set_cons_zero, List.set_cons_succ]
              refine wpAnyH_take (i := 1) (oi := ({ dst := some 119, op := Go.Op.fieldAddr 52 (Go.Operand.tmp 10) 1, type := 0, pos := "law.go:244", after := #[], guard := none } : Oper)) (v := ?_) rfl (by kernel_rfl) (by kernel_rfl) (by kernel_rfl) (fun _ _ _ h => h) (Or.inl ⟨by rfl, ?_⟩) hH ?_
              rotate_left
              · intro w hSw; (try dsimp only at hSw); go_simp; try with_reducible rfl
              try simp only [Act.put, List.setIfInBounds_toArray, List.set_cons_zero, List.set_cons_succ]
              refine wpAnyH_take (i := 2) (oi := ({ dst := some 120, op := Go.Op.load 3 (Go.Operand.tmp 119), type := 3, pos := "law.go:244", after := #[{ on := 1, ground := Go.Ground.data }], guard := none } : Oper)) (v := ?_) rfl (by kernel_rfl) (by kernel_rfl) (by kernel_rfl) (fun _ _ _ h => h) (Or.inl ⟨by rfl, ?_⟩) hH ?_
              rotate_left
              · intro w hSw; (try dsimp only at hSw); go_simp; try with_reducible rfl
              try simp only [Act.put, List.setIfInBounds_toArray, List.set_cons_zero, List.set_cons_succ]
              refine wpAnyH_take (i := 3) (oi := ({ dst := some 121, op := Go.Op.fieldAddr 52 (Go.Operand.tmp 10) 0, type := 0, pos := "law.go:244", after := #[], guard := none } : Oper)) (v := ?_) rfl (by kernel_rfl) (by kernel_rfl) (by kernel_rfl) (fun _ _ _ h => h) (Or.inl ⟨by rfl, ?_⟩) hH ?_
              rotate_left
              · intro w hSw; (try dsimp only at hSw); go_simp; try with_reducible rfl
              try simp only [Act.put, List.setIfInBounds_toArray, List.set_cons_zero, List.set_cons_succ]
              refine wpAnyH_take (i := 4) (oi := ({ dst := some 122, op := Go.Op.load 3 (Go.Operand.tmp 121), type := 3, pos := "law.go:244", after := #[{ on := 3, ground := Go.Ground.data }], guard := none } : Oper)) (v := ?_) rfl (by kernel_rfl) (by kernel_rfl) (by kernel_rfl) (fun _ _ _ h => h) (Or.inl ⟨by rfl, ?_⟩) hH ?_
              rotate_left
              · intro w hSw; (try dsimp only at hSw); go_simp; try with_reducible rfl
              try simp only [Act.put, List.setIfInBounds_toArray, List.set_cons_zero, List.set_cons_succ]
              refine wpAnyH_take (i := 6) (oi := ({ dst := some 124, op := Go.Op.load 63 (Go.Operand.tmp 4), type := 63, pos := "law.go:244", after := #[], guard := none } : Oper)) (v := ?_) rfl (by kernel_rfl) (by kernel_rfl) (by kernel_rfl) (fun _ _ _ h => h) (Or.inl ⟨by rfl, ?_⟩) hH ?_
              rotate_left
              · intro w hSw; (try dsimp only at hSw); go_simp; try with_reducible rfl
              try simp only [Act.put, List.setIfInBounds_toArray, List.set_cons_zero, List.set_cons_succ]
              refine wpAnyH_take (i := 7) (oi := ({ dst := some 125, op := Go.Op.fieldAddr 52 (Go.Operand.tmp 10) 2, type := 0, pos := "law.go:244", after := #[], guard := none } : Oper)) (v := ?_) rfl (by kernel_rfl) (by kernel_rfl) (by kernel_rfl) (fun _ _ _ h => h) (Or.inl ⟨by rfl, ?_⟩) hH ?_
              rotate_left
              · intro w hSw; (try dsimp only at hSw); go_simp; try with_reducible rfl
              try simp only [Act.put, List.setIfInBounds_toArray, List.set_cons_zero, List.set_cons_succ]
              refine wpAnyH_take (i := 8) (oi := ({ dst := some 126, op := Go.Op.load 3 (Go.Operand.tmp 125), type := 3, pos := "law.go:244", after := #[{ on := 7, ground := Go.Ground.data }], guard := none } : Oper)) (v := ?_) rfl (by kernel_rfl) (by kernel_rfl) (by kernel_rfl) (fun _ _ _ h => h) (Or.inl ⟨by rfl, ?_⟩) hH ?_
              rotate_left
              · intro w hSw; (try dsimp only at hSw); go_simp; try with_reducible rfl
              try simp only [Act.put, List.setIfInBounds_toArray, List.set_cons_zero, List.set_cons_succ]
              refine wpAnyH_take (i := 9) (oi := ({ dst := some 127, op := Go.Op.fieldAddr 52 (Go.Operand.tmp 10) 0, type := 0, pos := "law.go:244", after := #[], guard := none } : Oper)) (v := ?_) rfl (by kernel_rfl) (by kernel_rfl) (by kernel_rfl) (fun _ _ _ h => h) (Or.inl ⟨by rfl, ?_⟩) hH ?_
              rotate_left
              · intro w hSw; (try dsimp only at hSw); go_simp; try with_reducible rfl
              try simp only [Act.put, List.setIfInBounds_toArray, List.set_cons_zero, List.set_cons_succ]
              refine wpAnyH_take (i := 10) (oi := ({ dst := some 128, op := Go.Op.load 3 (Go.Operand.tmp 127), type := 3, pos := "law.go:244", after := #[{ on := 9, ground := Go.Ground.data }], guard := none } : Oper)) (v := ?_) rfl (by kernel_rfl) (by kernel_rfl) (by kernel_rfl) (fun _ _ _ h => h) (Or.inl ⟨by rfl, ?_⟩) hH ?_
              rotate_left
              · intro w hSw; (try dsimp only at hSw); go_simp; try with_reducible rfl
              try simp only [Act.put, List.setIfInBounds_toArray, List.set_cons_zero, List.set_cons_succ]
              refine wpAnyH_ready (rs := [5]) (by kernel_rfl) (by simp) ?_
              refine AllReadyH.cons (o := ({ dst := some 123, op := Go.Op.call { callee := Go.Callee.value (Go.Operand.func 52), args := #[Go.Operand.tmp 118, Go.Operand.tmp 120, Go.Operand.tmp 122], argTypes := #[63, 3, 3] }, type := 3, pos := "law.go:244", after := #[{ on := 0, ground := Go.Ground.data }, { on := 2, ground := Go.Ground.data }, { on := 4, ground := Go.Ground.data }], guard := none } : Oper)) rfl (fun K hK => ?_) AllReadyH.nil
              go_simp
              go_at_call 52
              refine (HIA.out _ hH.1).mono ?_
              rintro e9 w9 ⟨rfl, hb⟩
              refine hK.out _ _ ⟨hH.1.tr hb, kcb hb hH.2.1, kcb hb hH.2.2.1, kcb hb hH.2.2.2.1, kcb hb hH.2.2.2.2.1, kcb hb hH.2.2.2.2.2.1, kcb hb hH.2.2.2.2.2.2.1, kcb hb hH.2.2.2.2.2.2.2.1, kcb hb hH.2.2.2.2.2.2.2.2.1, kcb hb hH.2.2.2.2.2.2.2.2.2⟩ (fun hH' => ?_)
              clear hH
              have hH := hH'
              clear hH' hK K
              try simp only [Act.put, List.setIfInBounds_toArray, List.set_cons_zero, List.set_cons_succ]
              refine wpAnyH_ready (rs := [11]) (by kernel_rfl) (by simp) ?_
              refine AllReadyH.cons (o := ({ dst := some 129, op := Go.Op.call { callee := Go.Callee.value (Go.Operand.func 52), args := #[Go.Operand.tmp 124, Go.Operand.tmp 126, Go.Operand.tmp 128], argTypes := #[63, 3, 3] }, type := 3, pos := "law.go:244", after := #[{ on := 6, ground := Go.Ground.data }, { on := 8, ground := Go.Ground.data }, { on := 10, ground := Go.Ground.data }, { on := 5, ground := Go.Ground.chain }], guard := none } : Oper)) rfl (fun K hK => ?_) AllReadyH.nil
              go_simp
              go_at_call 52
              refine (HIB.out _ hH.1).mono ?_
              rintro e9 w9 ⟨rfl, hb⟩
              refine hK.out _ _ ⟨hH.1.tr hb, kcb hb hH.2.1, kcb hb hH.2.2.1, kcb hb hH.2.2.2.1, kcb hb hH.2.2.2.2.1, kcb hb hH.2.2.2.2.2.1, kcb hb hH.2.2.2.2.2.2.1, kcb hb hH.2.2.2.2.2.2.2.1, kcb hb hH.2.2.2.2.2.2.2.2.1, kcb hb hH.2.2.2.2.2.2.2.2.2⟩ (fun hH' => ?_)
              clear hH
              have hH := hH'
              clear hH' hK K
              try simp only [Act.put, List.setIfInBounds_toArray, List.set_cons_zero, List.set_cons_succ]
              refine wpAnyH_take (i := 12) (oi := ({ dst := some 130, op := Go.Op.binOp Go.BinOp.sub 3 (Go.Operand.tmp 123) (Go.Operand.tmp 129) 3, type := 3, pos := "law.go:244", after := #[{ on := 5, ground := Go.Ground.data }, { on := 11, ground := Go.Ground.data }], guard := none } : Oper)) (v := ?_) rfl (by kernel_rfl) (by kernel_rfl) (by kernel_rfl) (fun _ _ _ h => h) (Or.inl ⟨by rfl, ?_⟩) hH ?_
              rotate_left
              · intro w hSw; (try dsimp only at hSw); go_simp; try with_reducible rfl
              try simp only [Act.put, List.setIfInBounds_toArray, List.set_cons_zero, List.set_cons_succ]
              refine wpAnyH_take (i := 13) (oi := ({ dst := some 11, op := Go.Op.assign (Go.Operand.tmp 130), type := 3, pos := "law.go:244", after := #[{ on := 12, ground := Go.Ground.data }, { on := 11, ground := Go.Ground.chain }, { on := 0, ground := Go.Ground.phase }, { on := 1, ground := Go.Ground.phase }, { on := 2, ground := Go.Ground.phase }, { on := 3, ground := Go.Ground.phase }, { on := 4, ground := Go.Ground.phase }, { on := 5, ground := Go.Ground.phase }, { on := 6, ground := Go.Ground.phase }, { on := 7, ground := Go.Ground.phase }, { on := 8, ground := Go.Ground.phase }, { on := 9, ground := Go.Ground.phase }, { on := 10, ground := Go.Ground.phase }, { on := 11, ground := Go.Ground.phase }, { on := 12, ground := Go.Ground.phase }], guard := none } : Oper)) (v := ?_) rfl (by kernel_rfl) (by kernel_rfl) (by kernel_rfl) (fun _ _ _ h => h) (Or.inl ⟨by rfl, ?_⟩) hH ?_
              rotate_left
              · intro w hSw; (try dsimp only at hSw); go_simp; try with_reducible rfl
              try simp only [Act.put, List.setIfInBounds_toArray, List.set_cons_zero, List.set_cons_succ]
              refine wpAnyH_done (by kernel_rfl) ?_ _
              refine NoPanic.normal ?_
              clear x0 x1 y0 y1 t0 t1 t2 t3 t4
              obtain ⟨BH, x0, x1, y0, y1, t0, t1, t2, t3, t4⟩ := hH
              have HBH := Lib.hid BH
              have lt9 := ltb t0
              clear BH
              by_cases g1 : ua - ub < x.lo
              · go_wp2_with fail
                refine (awakeS_any _).mono ?_
                rintro ea wa ⟨rfl, ha⟩
                go_wp2_with fail
                go_ret
                exact ⟨rfl, HBH.out.tr ha⟩
              by_cases g2 : x.hi < ua - ub
              · go_wp2_with fail
                refine (awakeS_any _).mono ?_
                rintro ea wa ⟨rfl, ha⟩
                go_wp2_with fail
                go_ret
                exact ⟨rfl, HBH.out.tr ha⟩
              have HN := Lib.hid (HNX.out ⟨by omega, by omega⟩)
              go_wp2_with fail
              go_roundw
              case rel => exact ⟨k + 1, by omega, by go_num, HN.out, HBH.out, x0, x1, y0, y1⟩
              case measure => simp [RowKit.intOf]; omega
            · have hkm : k = m := by omega
              subst k
              have HTR := Lib.hid (show TrOk E Q R n S m from ⟨((HO1.out 0 (by omega)).1 rfl).1, ((HO1.out 0 (by omega)).1 rfl).2, fun c0 hc0 => (HO1.out c0 hc0).2.1, HP.out⟩)
              have hco := HCO.out ws hZ
              rw [if_pos HVB.out, noB_true (tr_noC HVN.out HTR.out)] at hco
              go_wp2_with fail
              refine hco.mono ?_
              rintro e w5 ⟨rfl, hb⟩
              have HSY := Lib.hid (show Bl w w5 ∧ w5.cell? ⟨w.heap.size, 0, none⟩ = some (.slice A n c) ∧ w5.cell? ⟨w.heap.size, 1, none⟩ = some (.slice B m d) ∧ w5.cell? ⟨w.heap.size + 1, 0, none⟩ = some (.slice AE n ce) ∧ w5.cell? ⟨w.heap.size + 1, 1, none⟩ = some (.slice AQ n cq) from ⟨HZ.out.tr hb, kcb hb x0, kcb hb x1, kcb hb y0, kcb hb y1⟩)
              have lx5 := ltb (kcb hb x0)
              have x05 := kcb hb x0
              clear x0 x1 y0 y1 hZ hb hco hlt hk lx ly
              go_wp2_with fail
              clear x05 lx5
              go_loopw [157] (fun i wu => ∃ k : Nat, k ≤ n ∧ i = .int .i64 k ∧ Bl w wu ∧ wu.cell? ⟨w.heap.size, 0, none⟩ = some (.slice A n c) ∧ wu.cell? ⟨w.heap.size, 1, none⟩ = some (.slice B m d) ∧ wu.cell? ⟨w.heap.size + 1, 0, none⟩ = some (.slice AE n ce) ∧ wu.cell? ⟨w.heap.size + 1, 1, none⟩ = some (.slice AQ n cq)) (fun i _ => n - (intOf i).toNat)
              case atStart => exact ⟨0, Nat.zero_le _, rfl, HSY.out⟩
              case round =>
                obtain ⟨wu, hws⟩ : ∃ wu, wu = wr := ⟨_, rfl⟩
                subst hws
                obtain ⟨k, hk, rfl, hZ, x0, x1, y0, y1⟩ := hrel
                have HZ := Lib.hid hZ
                have lx := ltb x0
                have ly := ltb y0
                clear hZ
                by_cases hlt : k < n
                · go_wp2_with fail
                  refine (HER.out (k : Int) wu HZ.out).mono ?_
                  rintro e w6 ⟨xv, yv, kv, rfl, hr, hb⟩
                  have hin := tr_in HTR.out HVN.out hlt HT.out hr
                  have HIK := Lib.hid (HIS.out (k : Int) ⟨by omega, by omega⟩ t HT.out)
                  rw [Int.toNat_natCast] at HIK
                  obtain ⟨ui, hui⟩ : ∃ u, u = isF E Q k t := ⟨_, rfl⟩
                  rw [← hui] at hin HIK
                  have HB6 := Lib.hid (HZ.out.tr hb)
                  have x0 := kcb hb x0
                  have x1 := kcb hb x1
                  have y0 := kcb hb y0
                  have y1 := kcb hb y1
                  clear hr hb hui lx ly
                  rw [show spnV xv yv kv = .tuple #[.agg #[.int .i64 xv, .int .i64 yv], .int .i64 kv] from rfl]
                  go_wp2_with fail
                  obtain ⟨Y, hY⟩ : ∃ Y, Y = w6.alloc (Obj.cells #[.int .i64 xv, .int .i64 yv] 39) := ⟨_, rfl⟩
                  have BY : Bl w6 Y := by rw [hY]; exact bl_alS _ _
                  have t0 : Y.cell? ⟨w6.heap.size, 0, none⟩ = some (.int .i64 xv) := by rw [hY]; go_cell
                  have t1 : Y.cell? ⟨w6.heap.size, 1, none⟩ = some (.int .i64 yv) := by rw [hY]; go_cell
                  have x0 := kcb BY x0
                  have x1 := kcb BY x1
                  have y0 := kcb BY y0
                  have y1 := kcb BY y1
                  have HBY := Lib.hid (HB6.out.tr BY)
                  rw [← hY]
                  clear hY BY
                  rcases hin with rfl | ⟨rfl, i1, i2⟩
                  · skip
                    refine wp_region_noPanic ?_
                    refine wp_region_held_drew (S := fun w' => Bl w w' ∧ w'.cell? ⟨w.heap.size, 0, none⟩ = some (.slice A n c) ∧ w'.cell? ⟨w.heap.size, 1, none⟩ = some (.slice B m d) ∧ w'.cell? ⟨w.heap.size + 1, 0, none⟩ = some (.slice AE n ce) ∧ w'.cell? ⟨w.heap.size + 1, 1, none⟩ = some (.slice AQ n cq) ∧ w'.cell? ⟨w6.heap.size, 0, none⟩ = some (.int .i64 xv) ∧ w'.cell? ⟨w6.heap.size, 1, none⟩ = some (.int .i64 yv)) (by kernel_rfl) (⟨HBY.out.tr (bl_drS _), kcb (bl_drS _) x0, kcb (bl_drS _) x1, kcb (bl_drS _) y0, kcb (bl_drS _) y1, kcb (bl_drS _) t0, kcb (bl_drS _) t1⟩) (fun hH => ?_)
                    refine wpAnyH_take (i := 0) (oi := ({ dst := some 167, op := Go.Op.move (Go.Operand.tmp 16), type := 27, pos := "law.go:254", after := #[], guard := none } : Oper)) (v := ?_) rfl (by kernel_rfl) (by kernel_rfl) (by kernel_rfl) (fun _ _ _ h => h) (Or.inl ⟨by rfl, ?_⟩) hH ?_
                    rotate_left
                    · intro w hSw; (try dsimp only at hSw); go_simp; try with_reducible rfl
                    try simp only [Act.put, List.setIfInBounds_toArray, List.set_cons_zero, List.set_cons_succ]
                    refine wpAnyH_take (i := 1) (oi := ({ dst := some 168, op := Go.Op.binOp Go.BinOp.neq 27 (Go.Operand.tmp 167) (Go.Operand.const (Go.Value.int Go.IntKind.i64 0)) 27, type := 4, pos := "law.go:254", after := #[{ on := 0, ground := Go.Ground.data }], guard := none } : Oper)) (v := ?_) rfl (by kernel_rfl) (by kernel_rfl) (by kernel_rfl) (fun _ _ _ h => h) (Or.inl ⟨by rfl, ?_⟩) hH ?_
                    rotate_left
                    · intro w hSw; (try dsimp only at hSw); go_simp; try with_reducible rfl
                    try simp only [Act.put, List.setIfInBounds_toArray, List.set_cons_zero, List.set_cons_succ]
                    refine wpAnyH_take (i := 2) (oi := ({ dst := some 169, op := Go.Op.move (Go.Operand.tmp 168), type := 4, pos := "law.go:254", after := #[{ on := 1, ground := Go.Ground.data }], guard := none } : Oper)) (v := ?_) rfl (by kernel_rfl) (by kernel_rfl) (by kernel_rfl) (fun _ _ _ h => h) (Or.inl ⟨by rfl, ?_⟩) hH ?_
                    rotate_left
                    · intro w hSw; (try dsimp only at hSw); go_simp; try with_reducible rfl
                    try simp only [Act.put, List.setIfInBounds_toArray, List.set_cons_zero, List.set_cons_succ]
                    refine wpAnyH_take (i := 3) (oi := ({ dst := some 170, op := Go.Op.move (Go.Operand.tmp 16), type := 27, pos := "law.go:254", after := #[{ on := 2, ground := Go.Ground.guard }], guard := some (2, true) } : Oper)) (v := ?_) rfl (by kernel_rfl) (by kernel_rfl) (by kernel_rfl) (fun _ _ _ h => h) (Or.inl ⟨by rfl, ?_⟩) hH ?_
                    rotate_left
                    · intro w hSw; (try dsimp only at hSw); go_simp; try with_reducible rfl
                    try simp only [Act.put, List.setIfInBounds_toArray, List.set_cons_zero, List.set_cons_succ]
                    refine wpAnyH_take (i := 4) (oi := ({ dst := some 171, op := Go.Op.binOp Go.BinOp.neq 27 (Go.Operand.tmp 170) (Go.Operand.const (Go.Value.int Go.IntKind.i64 8)) 27, type := 4, pos := "law.go:254", after := #[{ on := 3, ground := Go.Ground.data }, { on := 2, ground := Go.Ground.guard }], guard := some (2, true) } : Oper)) (v := ?_) rfl (by kernel_rfl) (by kernel_rfl) (by kernel_rfl) (fun _ _ _ h => h) (Or.inl ⟨by rfl, ?_⟩) hH ?_
                    rotate_left
                    · intro w hSw; (try dsimp only at hSw); go_simp; try with_reducible rfl
                    try simp only [Act.put, List.setIfInBounds_toArray, List.set_cons_zero, List.set_cons_succ]
                    refine wpAnyH_take (i := 5) (oi := ({ dst := some 172, op := Go.Op.pick (Go.Operand.tmp 169) (Go.Operand.tmp 171) (Go.Operand.const (Go.Value.bool false)), type := 4, pos := "law.go:254", after := #[{ on := 2, ground := Go.Ground.data }, { on := 4, ground := Go.Ground.data }], guard := none } : Oper)) (v := ?_) rfl (by kernel_rfl) (by kernel_rfl) (by kernel_rfl) (fun _ _ _ h => h) (Or.inl ⟨by rfl, ?_⟩) hH ?_
                    rotate_left
                    · intro w hSw; (try dsimp only at hSw); go_simp; try with_reducible rfl
                    try simp only [Act.put, List.setIfInBounds_toArray, List.set_cons_zero, List.set_cons_succ]
                    refine wpAnyH_take (i := 6) (oi := ({ dst := some 173, op := Go.Op.move (Go.Operand.tmp 172), type := 4, pos := "law.go:254", after := #[{ on := 5, ground := Go.Ground.data }, { on := 2, ground := Go.Ground.chain }], guard := none } : Oper)) (v := ?_) rfl (by kernel_rfl) (by kernel_rfl) (by kernel_rfl) (fun _ _ _ h => h) (Or.inl ⟨by rfl, ?_⟩) hH ?_
                    rotate_left
                    · intro w hSw; (try dsimp only at hSw); go_simp; try with_reducible rfl
                    try simp only [Act.put, List.setIfInBounds_toArray, List.set_cons_zero, List.set_cons_succ]
                    refine wpAnyH_take (i := 7) (oi := ({ dst := some 174, op := Go.Op.move (Go.Operand.tmp 16), type := 27, pos := "law.go:254", after := #[{ on := 6, ground := Go.Ground.guard }], guard := some (6, false) } : Oper)) (v := ?_) rfl (by kernel_rfl) (by kernel_rfl) (by kernel_rfl) (fun _ _ _ h => h) (Or.inl ⟨by rfl, ?_⟩) hH ?_
                    rotate_left
                    · intro w hSw; (try dsimp only at hSw); go_simp; try with_reducible rfl
                    try simp only [Act.put, List.setIfInBounds_toArray, List.set_cons_zero, List.set_cons_succ]
                    refine wpAnyH_take (i := 8) (oi := ({ dst := some 175, op := Go.Op.binOp Go.BinOp.eql 27 (Go.Operand.tmp 174) (Go.Operand.const (Go.Value.int Go.IntKind.i64 0)) 27, type := 4, pos := "law.go:254", after := #[{ on := 7, ground := Go.Ground.data }, { on := 6, ground := Go.Ground.guard }], guard := some (6, false) } : Oper)) (v := ?_) rfl (by kernel_rfl) (by kernel_rfl) (by kernel_rfl) (fun _ _ _ h => h) (Or.inl ⟨by rfl, ?_⟩) hH ?_
                    rotate_left
                    · intro w hSw; (try dsimp only at hSw); go_simp; try with_reducible rfl
                    try simp only [Act.put, List.setIfInBounds_toArray, List.set_cons_zero, List.set_cons_succ]
                    refine wpAnyH_take (i := 9) (oi := ({ dst := some 176, op := Go.Op.move (Go.Operand.tmp 175), type := 4, pos := "law.go:254", after := #[{ on := 8, ground := Go.Ground.data }, { on := 6, ground := Go.Ground.chain }, { on := 6, ground := Go.Ground.guard }], guard := some (6, false) } : Oper)) (v := ?_) rfl (by kernel_rfl) (by kernel_rfl) (by kernel_rfl) (fun _ _ _ h => h) (Or.inl ⟨by rfl, ?_⟩) hH ?_
                    rotate_left
                    · intro w hSw; (try dsimp only at hSw); go_simp; try with_reducible rfl
                    try simp only [Act.put, List.setIfInBounds_toArray, List.set_cons_zero, List.set_cons_succ]
                    refine wpAnyH_take (i := 10) (oi := ({ dst := some 177, op := Go.Op.load 63 (Go.Operand.tmp 4), type := 63, pos := "law.go:254", after := #[{ on := 9, ground := Go.Ground.guard }], guard := some (9, true) } : Oper)) (v := undef) rfl (by kernel_rfl) (by kernel_rfl) (by kernel_rfl) (fun _ _ _ h => h) (Or.inr ⟨by rfl, rfl⟩) hH ?_
                    try simp only [Act.put, List.setIfInBounds_toArray, List.set_cons_zero, List.set_cons_succ]
                    refine wpAnyH_take (i := 11) (oi := ({ dst := some 178, op := Go.Op.move (Go.Operand.tmp 14), type := 3, pos := "law.go:254", after := #[{ on := 9, ground := Go.Ground.guard }], guard := some (9, true) } : Oper)) (v := undef) rfl (by kernel_rfl) (by kernel_rfl) (by kernel_rfl) (fun _ _ _ h => h) (Or.inr ⟨by rfl, rfl⟩) hH ?_
                    try simp only [Act.put, List.setIfInBounds_toArray, List.set_cons_zero, List.set_cons_succ]
                    refine wpAnyH_take (i := 12) (oi := ({ dst := some 179, op := Go.Op.move (Go.Operand.tmp 2), type := 3, pos := "law.go:254", after := #[{ on := 9, ground := Go.Ground.guard }], guard := some (9, true) } : Oper)) (v := undef) rfl (by kernel_rfl) (by kernel_rfl) (by kernel_rfl) (fun _ _ _ h => h) (Or.inr ⟨by rfl, rfl⟩) hH ?_
                    try simp only [Act.put, List.setIfInBounds_toArray, List.set_cons_zero, List.set_cons_succ]
                    refine wpAnyH_take (i := 14) (oi := ({ dst := some 181, op := Go.Op.fieldAddr 39 (Go.Operand.tmp 15) 0, type := 0, pos := "law.go:254", after := #[{ on := 9, ground := Go.Ground.guard }], guard := some (9, true) } : Oper)) (v := undef) rfl (by kernel_rfl) (by kernel_rfl) (by kernel_rfl) (fun _ _ _ h => h) (Or.inr ⟨by rfl, rfl⟩) hH ?_
                    try simp only [Act.put, List.setIfInBounds_toArray, List.set_cons_zero, List.set_cons_succ]
                    refine wpAnyH_take (i := 15) (oi := ({ dst := some 182, op := Go.Op.load 3 (Go.Operand.tmp 181), type := 3, pos := "law.go:254", after := #[{ on := 14, ground := Go.Ground.data }, { on := 9, ground := Go.Ground.guard }], guard := some (9, true) } : Oper)) (v := undef) rfl (by kernel_rfl) (by kernel_rfl) (by kernel_rfl) (fun _ _ _ h => h) (Or.inr ⟨by rfl, rfl⟩) hH ?_
                    try simp only [Act.put, List.setIfInBounds_toArray, List.set_cons_zero, List.set_cons_succ]
                    refine wpAnyH_ready (rs := [13]) (by kernel_rfl) (by simp) ?_
                    refine AllReadyH.cons (o := ({ dst := some 180, op := Go.Op.call { callee := Go.Callee.value (Go.Operand.func 52), args := #[Go.Operand.tmp 177, Go.Operand.tmp 178, Go.Operand.tmp 179], argTypes := #[63, 3, 3] }, type := 3, pos := "law.go:254", after := #[{ on := 10, ground := Go.Ground.data }, { on := 11, ground := Go.Ground.data }, { on := 12, ground := Go.Ground.data }, { on := 9, ground := Go.Ground.chain }, { on := 9, ground := Go.Ground.guard }], guard := some (9, true) } : Oper)) rfl (fun K hK => ?_) AllReadyH.nil
                    refine iteInduction (motive := fun p => p) (fun h => absurd (show false = true from h) Bool.false_ne_true) (fun _ => ?_)
                    refine hK.out _ _ hH (fun hH' => ?_)
                    clear hH' hK K
                    try simp only [Act.put, List.setIfInBounds_toArray, List.set_cons_zero, List.set_cons_succ]
                    refine wpAnyH_take (i := 16) (oi := ({ dst := some 183, op := Go.Op.binOp Go.BinOp.lss 3 (Go.Operand.tmp 180) (Go.Operand.tmp 182) 3, type := 4, pos := "law.go:254", after := #[{ on := 13, ground := Go.Ground.data }, { on := 15, ground := Go.Ground.data }, { on := 9, ground := Go.Ground.guard }], guard := some (9, true) } : Oper)) (v := undef) rfl (by kernel_rfl) (by kernel_rfl) (by kernel_rfl) (fun _ _ _ h => h) (Or.inr ⟨by rfl, rfl⟩) hH ?_
                    try simp only [Act.put, List.setIfInBounds_toArray, List.set_cons_zero, List.set_cons_succ]
                    refine wpAnyH_take (i := 17) (oi := ({ dst := some 184, op := Go.Op.move (Go.Operand.tmp 183), type := 4, pos := "law.go:254", after := #[{ on := 16, ground := Go.Ground.data }, { on := 13, ground := Go.Ground.chain }, { on := 9, ground := Go.Ground.guard }], guard := some (9, true) } : Oper)) (v := undef) rfl (by kernel_rfl) (by kernel_rfl) (by kernel_rfl) (fun _ _ _ h => h) (Or.inr ⟨by rfl, rfl⟩) hH ?_
                    try simp only [Act.put, List.setIfInBounds_toArray, List.set_cons_zero, List.set_cons_succ]
                    refine wpAnyH_take (i := 18) (oi := ({ dst := some 185, op := Go.Op.load 63 (Go.Operand.tmp 4), type := 63, pos := "law.go:254", after := #[{ on := 17, ground := Go.Ground.guard }], guard := some (17, false) } : Oper)) (v := undef) rfl (by kernel_rfl) (by kernel_rfl) (by kernel_rfl) (fun _ _ _ h => h) (Or.inr ⟨by rfl, rfl⟩) hH ?_
                    try simp only [Act.put, List.setIfInBounds_toArray, List.set_cons_zero, List.set_cons_succ]
                    refine wpAnyH_take (i := 19) (oi := ({ dst := some 186, op := Go.Op.move (Go.Operand.tmp 14), type := 3, pos := "law.go:254", after := #[{ on := 17, ground := Go.Ground.guard }], guard := some (17, false) } : Oper)) (v := undef) rfl (by kernel_rfl) (by kernel_rfl) (by kernel_rfl) (fun _ _ _ h => h) (Or.inr ⟨by rfl, rfl⟩) hH ?_
                    try simp only [Act.put, List.setIfInBounds_toArray, List.set_cons_zero, List.set_cons_succ]
                    refine wpAnyH_take (i := 20) (oi := ({ dst := some 187, op := Go.Op.move (Go.Operand.tmp 2), type := 3, pos := "law.go:254", after := #[{ on := 17, ground := Go.Ground.guard }], guard := some (17, false) } : Oper)) (v := undef) rfl (by kernel_rfl) (by kernel_rfl) (by kernel_rfl) (fun _ _ _ h => h) (Or.inr ⟨by rfl, rfl⟩) hH ?_
                    try simp only [Act.put, List.setIfInBounds_toArray, List.set_cons_zero, List.set_cons_succ]
                    refine wpAnyH_take (i := 22) (oi := ({ dst := some 189, op := Go.Op.fieldAddr 39 (Go.Operand.tmp 15) 1, type := 0, pos := "law.go:254", after := #[{ on := 17, ground := Go.Ground.guard }], guard := some (17, false) } : Oper)) (v := undef) rfl (by kernel_rfl) (by kernel_rfl) (by kernel_rfl) (fun _ _ _ h => h) (Or.inr ⟨by rfl, rfl⟩) hH ?_
                    try simp only [Act.put, List.setIfInBounds_toArray, List.set_cons_zero, List.set_cons_succ]
                    refine wpAnyH_take (i := 23) (oi := ({ dst := some 190, op := Go.Op.load 3 (Go.Operand.tmp 189), type := 3, pos := "law.go:254", after := #[{ on := 22, ground := Go.Ground.data }, { on := 17, ground := Go.Ground.guard }], guard := some (17, false) } : Oper)) (v := undef) rfl (by kernel_rfl) (by kernel_rfl) (by kernel_rfl) (fun _ _ _ h => h) (Or.inr ⟨by rfl, rfl⟩) hH ?_
                    try simp only [Act.put, List.setIfInBounds_toArray, List.set_cons_zero, List.set_cons_succ]
                    refine wpAnyH_ready (rs := [21]) (by kernel_rfl) (by simp) ?_
                    refine AllReadyH.cons (o := ({ dst := some 188, op := Go.Op.call { callee := Go.Callee.value (Go.Operand.func 52), args := #[Go.Operand.tmp 185, Go.Operand.tmp 186, Go.Operand.tmp 187], argTypes := #[63, 3, 3] }, type := 3, pos := "law.go:254", after := #[{ on := 18, ground := Go.Ground.data }, { on := 19, ground := Go.Ground.data }, { on := 20, ground := Go.Ground.data }, { on := 17, ground := Go.Ground.chain }, { on := 17, ground := Go.Ground.guard }], guard := some (17, false) } : Oper)) rfl (fun K hK => ?_) AllReadyH.nil
                    refine iteInduction (motive := fun p => p) (fun h => absurd (show false = true from h) Bool.false_ne_true) (fun _ => ?_)
                    refine hK.out _ _ hH (fun hH' => ?_)
                    clear hH' hK K
                    try simp only [Act.put, List.setIfInBounds_toArray, List.set_cons_zero, List.set_cons_succ]
                    refine wpAnyH_take (i := 24) (oi := ({ dst := some 191, op := Go.Op.binOp Go.BinOp.gtr 3 (Go.Operand.tmp 188) (Go.Operand.tmp 190) 3, type := 4, pos := "law.go:254", after := #[{ on := 21, ground := Go.Ground.data }, { on := 23, ground := Go.Ground.data }, { on := 17, ground := Go.Ground.guard }], guard := some (17, false) } : Oper)) (v := undef) rfl (by kernel_rfl) (by kernel_rfl) (by kernel_rfl) (fun _ _ _ h => h) (Or.inr ⟨by rfl, rfl⟩) hH ?_
                    try simp only [Act.put, List.setIfInBounds_toArray, List.set_cons_zero, List.set_cons_succ]
                    refine wpAnyH_take (i := 25) (oi := ({ dst := some 192, op := Go.Op.pick (Go.Operand.tmp 184) (Go.Operand.const (Go.Value.bool true)) (Go.Operand.tmp 191), type := 4, pos := "law.go:254", after := #[{ on := 17, ground := Go.Ground.data }, { on := 24, ground := Go.Ground.data }, { on := 9, ground := Go.Ground.guard }], guard := some (9, true) } : Oper)) (v := undef) rfl (by kernel_rfl) (by kernel_rfl) (by kernel_rfl) (fun _ _ _ h => h) (Or.inr ⟨by rfl, rfl⟩) hH ?_
                    try simp only [Act.put, List.setIfInBounds_toArray, List.set_cons_zero, List.set_cons_succ]
                    refine wpAnyH_take (i := 26) (oi := ({ dst := some 193, op := Go.Op.pick (Go.Operand.tmp 176) (Go.Operand.tmp 192) (Go.Operand.const (Go.Value.bool false)), type := 4, pos := "law.go:254", after := #[{ on := 9, ground := Go.Ground.data }, { on := 25, ground := Go.Ground.data }, { on := 6, ground := Go.Ground.guard }], guard := some (6, false) } : Oper)) (v := ?_) rfl (by kernel_rfl) (by kernel_rfl) (by kernel_rfl) (fun _ _ _ h => h) (Or.inl ⟨by rfl, ?_⟩) hH ?_
                    rotate_left
                    · intro w hSw; (try dsimp only at hSw); go_simp; try with_reducible rfl
                    try simp only [Act.put, List.setIfInBounds_toArray, List.set_cons_zero, List.set_cons_succ]
                    refine wpAnyH_take (i := 27) (oi := ({ dst := some 194, op := Go.Op.pick (Go.Operand.tmp 173) (Go.Operand.const (Go.Value.bool true)) (Go.Operand.tmp 193), type := 4, pos := "law.go:254", after := #[{ on := 6, ground := Go.Ground.data }, { on := 26, ground := Go.Ground.data }], guard := none } : Oper)) (v := ?_) rfl (by kernel_rfl) (by kernel_rfl) (by kernel_rfl) (fun _ _ _ h => h) (Or.inl ⟨by rfl, ?_⟩) hH ?_
                    rotate_left
                    · intro w hSw; (try dsimp only at hSw); go_simp; try with_reducible rfl
                    try simp only [Act.put, List.setIfInBounds_toArray, List.set_cons_zero, List.set_cons_succ]
                    refine wpAnyH_done (by kernel_rfl) ?_ _
                    refine NoPanic.normal ?_
                    go_wp2_with fail
                    go_roundw
                    case rel => exact ⟨k + 1, by omega, by go_num, hH.1, hH.2.1, hH.2.2.1, hH.2.2.2.1, hH.2.2.2.2.1⟩
                    case measure => simp [RowKit.intOf]; omega
                  · have i1' : ¬ ui < xv := by omega
                    have i2' : ¬ yv < ui := by omega
                    refine wp_region_noPanic ?_
                    refine wp_region_held_drew (S := fun w' => Bl w w' ∧ w'.cell? ⟨w.heap.size, 0, none⟩ = some (.slice A n c) ∧ w'.cell? ⟨w.heap.size, 1, none⟩ = some (.slice B m d) ∧ w'.cell? ⟨w.heap.size + 1, 0, none⟩ = some (.slice AE n ce) ∧ w'.cell? ⟨w.heap.size + 1, 1, none⟩ = some (.slice AQ n cq) ∧ w'.cell? ⟨w6.heap.size, 0, none⟩ = some (.int .i64 xv) ∧ w'.cell? ⟨w6.heap.size, 1, none⟩ = some (.int .i64 yv)) (by kernel_rfl) (⟨HBY.out.tr (bl_drS _), kcb (bl_drS _) x0, kcb (bl_drS _) x1, kcb (bl_drS _) y0, kcb (bl_drS _) y1, kcb (bl_drS _) t0, kcb (bl_drS _) t1⟩) (fun hH => ?_)
                    refine wpAnyH_take (i := 0) (oi := ({ dst := some 167, op := Go.Op.move (Go.Operand.tmp 16), type := 27, pos := "law.go:254", after := #[], guard := none } : Oper)) (v := ?_) rfl (by kernel_rfl) (by kernel_rfl) (by kernel_rfl) (fun _ _ _ h => h) (Or.inl ⟨by rfl, ?_⟩) hH ?_
                    rotate_left
                    · intro w hSw; (try dsimp only at hSw); go_simp; try with_reducible rfl
                    try simp only [Act.put, List.setIfInBounds_toArray, List.set_cons_zero, List.set_cons_succ]
                    refine wpAnyH_take (i := 1) (oi := ({ dst := some 168, op := Go.Op.binOp Go.BinOp.neq 27 (Go.Operand.tmp 167) (Go.Operand.const (Go.Value.int Go.IntKind.i64 0)) 27, type := 4, pos := "law.go:254", after := #[{ on := 0, ground := Go.Ground.data }], guard := none } : Oper)) (v := ?_) rfl (by kernel_rfl) (by kernel_rfl) (by kernel_rfl) (fun _ _ _ h => h) (Or.inl ⟨by rfl, ?_⟩) hH ?_
                    rotate_left
                    · intro w hSw; (try dsimp only at hSw); go_simp; try with_reducible rfl
                    try simp only [Act.put, List.setIfInBounds_toArray, List.set_cons_zero, List.set_cons_succ]
                    refine wpAnyH_take (i := 2) (oi := ({ dst := some 169, op := Go.Op.move (Go.Operand.tmp 168), type := 4, pos := "law.go:254", after := #[{ on := 1, ground := Go.Ground.data }], guard := none } : Oper)) (v := ?_) rfl (by kernel_rfl) (by kernel_rfl) (by kernel_rfl) (fun _ _ _ h => h) (Or.inl ⟨by rfl, ?_⟩) hH ?_
                    rotate_left
                    · intro w hSw; (try dsimp only at hSw); go_simp; try with_reducible rfl
                    try simp only [Act.put, List.setIfInBounds_toArray, List.set_cons_zero, List.set_cons_succ]
                    refine wpAnyH_take (i := 3) (oi := ({ dst := some 170, op := Go.Op.move (Go.Operand.tmp 16), type := 27, pos := "law.go:254", after := #[{ on := 2, ground := Go.Ground.guard }], guard := some (2, true) } : Oper)) (v := undef) rfl (by kernel_rfl) (by kernel_rfl) (by kernel_rfl) (fun _ _ _ h => h) (Or.inr ⟨by rfl, rfl⟩) hH ?_
                    try simp only [Act.put, List.setIfInBounds_toArray, List.set_cons_zero, List.set_cons_succ]
                    refine wpAnyH_take (i := 4) (oi := ({ dst := some 171, op := Go.Op.binOp Go.BinOp.neq 27 (Go.Operand.tmp 170) (Go.Operand.const (Go.Value.int Go.IntKind.i64 8)) 27, type := 4, pos := "law.go:254", after := #[{ on := 3, ground := Go.Ground.data }, { on := 2, ground := Go.Ground.guard }], guard := some (2, true) } : Oper)) (v := undef) rfl (by kernel_rfl) (by kernel_rfl) (by kernel_rfl) (fun _ _ _ h => h) (Or.inr ⟨by rfl, rfl⟩) hH ?_
                    try simp only [Act.put, List.setIfInBounds_toArray, List.set_cons_zero, List.set_cons_succ]
                    refine wpAnyH_take (i := 5) (oi := ({ dst := some 172, op := Go.Op.pick (Go.Operand.tmp 169) (Go.Operand.tmp 171) (Go.Operand.const (Go.Value.bool false)), type := 4, pos := "law.go:254", after := #[{ on := 2, ground := Go.Ground.data }, { on := 4, ground := Go.Ground.data }], guard := none } : Oper)) (v := ?_) rfl (by kernel_rfl) (by kernel_rfl) (by kernel_rfl) (fun _ _ _ h => h) (Or.inl ⟨by rfl, ?_⟩) hH ?_
                    rotate_left
                    · intro w hSw; (try dsimp only at hSw); go_simp; try with_reducible rfl
                    try simp only [Act.put, List.setIfInBounds_toArray, List.set_cons_zero, List.set_cons_succ]
                    refine wpAnyH_take (i := 6) (oi := ({ dst := some 173, op := Go.Op.move (Go.Operand.tmp 172), type := 4, pos := "law.go:254", after := #[{ on := 5, ground := Go.Ground.data }, { on := 2, ground := Go.Ground.chain }], guard := none } : Oper)) (v := ?_) rfl (by kernel_rfl) (by kernel_rfl) (by kernel_rfl) (fun _ _ _ h => h) (Or.inl ⟨by rfl, ?_⟩) hH ?_
                    rotate_left
                    · intro w hSw; (try dsimp only at hSw); go_simp; try with_reducible rfl
                    try simp only [Act.put, List.setIfInBounds_toArray, List.set_cons_zero, List.set_cons_succ]
                    refine wpAnyH_take (i := 7) (oi := ({ dst := some 174, op := Go.Op.move (Go.Operand.tmp 16), type := 27, pos := "law.go:254", after := #[{ on := 6, ground := Go.Ground.guard }], guard := some (6, false) } : Oper)) (v := ?_) rfl (by kernel_rfl) (by kernel_rfl) (by kernel_rfl) (fun _ _ _ h => h) (Or.inl ⟨by rfl, ?_⟩) hH ?_
                    rotate_left
                    · intro w hSw; (try dsimp only at hSw); go_simp; try with_reducible rfl
                    try simp only [Act.put, List.setIfInBounds_toArray, List.set_cons_zero, List.set_cons_succ]
                    refine wpAnyH_take (i := 8) (oi := ({ dst := some 175, op := Go.Op.binOp Go.BinOp.eql 27 (Go.Operand.tmp 174) (Go.Operand.const (Go.Value.int Go.IntKind.i64 0)) 27, type := 4, pos := "law.go:254", after := #[{ on := 7, ground := Go.Ground.data }, { on := 6, ground := Go.Ground.guard }], guard := some (6, false) } : Oper)) (v := ?_) rfl (by kernel_rfl) (by kernel_rfl) (by kernel_rfl) (fun _ _ _ h => h) (Or.inl ⟨by rfl, ?_⟩) hH ?_
                    rotate_left
                    · intro w hSw; (try dsimp only at hSw); go_simp; try with_reducible rfl
                    try simp only [Act.put, List.setIfInBounds_toArray, List.set_cons_zero, List.set_cons_succ]
                    refine wpAnyH_take (i := 9) (oi := ({ dst := some 176, op := Go.Op.move (Go.Operand.tmp 175), type := 4, pos := "law.go:254", after := #[{ on := 8, ground := Go.Ground.data }, { on := 6, ground := Go.Ground.chain }, { on := 6, ground := Go.Ground.guard }], guard := some (6, false) } : Oper)) (v := ?_) rfl (by kernel_rfl) (by kernel_rfl) (by kernel_rfl) (fun _ _ _ h => h) (Or.inl ⟨by rfl, ?_⟩) hH ?_
                    rotate_left
                    · intro w hSw; (try dsimp only at hSw); go_simp; try with_reducible rfl
                    try simp only [Act.put, List.setIfInBounds_toArray, List.set_cons_zero, List.set_cons_succ]
                    refine wpAnyH_take (i := 10) (oi := ({ dst := some 177, op := Go.Op.load 63 (Go.Operand.tmp 4), type := 63, pos := "law.go:254", after := #[{ on := 9, ground := Go.Ground.guard }], guard := some (9, true) } : Oper)) (v := ?_) rfl (by kernel_rfl) (by kernel_rfl) (by kernel_rfl) (fun _ _ _ h => h) (Or.inl ⟨by rfl, ?_⟩) hH ?_
                    rotate_left
                    · intro w hSw; (try dsimp only at hSw); go_simp; try with_reducible rfl
                    try simp only [Act.put, List.setIfInBounds_toArray, List.set_cons_zero, List.set_cons_succ]
                    refine wpAnyH_take (i := 11) (oi := ({ dst := some 178, op := Go.Op.move (Go.Operand.tmp 14), type := 3, pos := "law.go:254", after := #[{ on := 9, ground := Go.Ground.guard }], guard := some (9, true) } : Oper)) (v := ?_) rfl (by kernel_rfl) (by kernel_rfl) (by kernel_rfl) (fun _ _ _ h => h) (Or.inl ⟨by rfl, ?_⟩) hH ?_
                    rotate_left
                    · intro w hSw; (try dsimp only at hSw); go_simp; try with_reducible rfl
                    try simp only [Act.put, List.setIfInBounds_toArray, List.set_cons_zero, List.set_cons_succ]
                    refine wpAnyH_take (i := 12) (oi := ({ dst := some 179, op := Go.Op.move (Go.Operand.tmp 2), type := 3, pos := "law.go:254", after := #[{ on := 9, ground := Go.Ground.guard }], guard := some (9, true) } : Oper)) (v := ?_) rfl (by kernel_rfl) (by kernel_rfl) (by kernel_rfl) (fun _ _ _ h => h) (Or.inl ⟨by rfl, ?_⟩) hH ?_
                    rotate_left
                    · intro w hSw; (try dsimp only at hSw); go_simp; try with_reducible rfl
                    try simp only [Act.put, List.setIfInBounds_toArray, List.set_cons_zero, List.set_cons_succ]
                    refine wpAnyH_take (i := 14) (oi := ({ dst := some 181, op := Go.Op.fieldAddr 39 (Go.Operand.tmp 15) 0, type := 0, pos := "law.go:254", after := #[{ on := 9, ground := Go.Ground.guard }], guard := some (9, true) } : Oper)) (v := ?_) rfl (by kernel_rfl) (by kernel_rfl) (by kernel_rfl) (fun _ _ _ h => h) (Or.inl ⟨by rfl, ?_⟩) hH ?_
                    rotate_left
                    · intro w hSw; (try dsimp only at hSw); go_simp; try with_reducible rfl
                    try simp only [Act.put, List.setIfInBounds_toArray, List.set_cons_zero, List.set_cons_succ]
                    refine wpAnyH_take (i := 15) (oi := ({ dst := some 182, op := Go.Op.load 3 (Go.Operand.tmp 181), type := 3, pos := "law.go:254", after := #[{ on := 14, ground := Go.Ground.data }, { on := 9, ground := Go.Ground.guard }], guard := some (9, true) } : Oper)) (v := ?_) rfl (by kernel_rfl) (by kernel_rfl) (by kernel_rfl) (fun _ _ _ h => h) (Or.inl ⟨by rfl, ?_⟩) hH ?_
                    rotate_left
                    · intro w hSw; (try dsimp only at hSw); go_simp; try with_reducible rfl
                    try simp only [Act.put, List.setIfInBounds_toArray, List.set_cons_zero, List.set_cons_succ]
                    refine wpAnyH_ready (rs := [13]) (by kernel_rfl) (by simp) ?_
                    refine AllReadyH.cons (o := ({ dst := some 180, op := Go.Op.call { callee := Go.Callee.value (Go.Operand.func 52), args := #[Go.Operand.tmp 177, Go.Operand.tmp 178, Go.Operand.tmp 179], argTypes := #[63, 3, 3] }, type := 3, pos := "law.go:254", after := #[{ on := 10, ground := Go.Ground.data }, { on := 11, ground := Go.Ground.data }, { on := 12, ground := Go.Ground.data }, { on := 9, ground := Go.Ground.chain }, { on := 9, ground := Go.Ground.guard }], guard := some (9, true) } : Oper)) rfl (fun K hK => ?_) AllReadyH.nil
                    go_simp
                    go_at_call 52
                    refine (HIK.out _ hH.1).mono ?_
                    rintro e9 w9 ⟨rfl, hb⟩
                    refine hK.out _ _ ⟨hH.1.tr hb, kcb hb hH.2.1, kcb hb hH.2.2.1, kcb hb hH.2.2.2.1, kcb hb hH.2.2.2.2.1, kcb hb hH.2.2.2.2.2.1, kcb hb hH.2.2.2.2.2.2⟩ (fun hH' => ?_)
                    clear hH
                    have hH := hH'
                    clear hH' hK K
                    try simp only [Act.put, List.setIfInBounds_toArray, List.set_cons_zero, List.set_cons_succ]
                    refine wpAnyH_take (i := 16) (oi := ({ dst := some 183, op := Go.Op.binOp Go.BinOp.lss 3 (Go.Operand.tmp 180) (Go.Operand.tmp 182) 3, type := 4, pos := "law.go:254", after := #[{ on := 13, ground := Go.Ground.data }, { on := 15, ground := Go.Ground.data }, { on := 9, ground := Go.Ground.guard }], guard := some (9, true) } : Oper)) (v := ?_) rfl (by kernel_rfl) (by kernel_rfl) (by kernel_rfl) (fun _ _ _ h => h) (Or.inl ⟨by rfl, ?_⟩) hH ?_
                    rotate_left
                    · intro w hSw; (try dsimp only at hSw); go_simp; try with_reducible rfl
                    try simp only [Act.put, List.setIfInBounds_toArray, List.set_cons_zero, List.set_cons_succ]
                    refine wpAnyH_take (i := 17) (oi := ({ dst := some 184, op := Go.Op.move (Go.Operand.tmp 183), type := 4, pos := "law.go:254", after := #[{ on := 16, ground := Go.Ground.data }, { on := 13, ground := Go.Ground.chain }, { on := 9, ground := Go.Ground.guard }], guard := some (9, true) } : Oper)) (v := ?_) rfl (by kernel_rfl) (by kernel_rfl) (by kernel_rfl) (fun _ _ _ h => h) (Or.inl ⟨by rfl, ?_⟩) hH ?_
                    rotate_left
                    · intro w hSw; (try dsimp only at hSw); go_simp; try with_reducible rfl
                    try simp only [Act.put, List.setIfInBounds_toArray, List.set_cons_zero, List.set_cons_succ]
                    refine wpAnyH_take (i := 18) (oi := ({ dst := some 185, op := Go.Op.load 63 (Go.Operand.tmp 4), type := 63, pos := "law.go:254", after := #[{ on := 17, ground := Go.Ground.guard }], guard := some (17, false) } : Oper)) (v := ?_) rfl (by kernel_rfl) (by kernel_rfl) (by kernel_rfl) (fun _ _ _ h => h) (Or.inl ⟨by rfl, ?_⟩) hH ?_
                    rotate_left
                    · intro w hSw; (try dsimp only at hSw); go_simp; try with_reducible rfl
                    try simp only [Act.put, List.setIfInBounds_toArray, List.set_cons_zero, List.set_cons_succ]
                    refine wpAnyH_take (i := 19) (oi := ({ dst := some 186, op := Go.Op.move (Go.Operand.tmp 14), type := 3, pos := "law.go:254", after := #[{ on := 17, ground := Go.Ground.guard }], guard := some (17, false) } : Oper)) (v := ?_) rfl (by kernel_rfl) (by kernel_rfl) (by kernel_rfl) (fun _ _ _ h => h) (Or.inl ⟨by rfl, ?_⟩) hH ?_
                    rotate_left
                    · intro w hSw; (try dsimp only at hSw); go_simp; try with_reducible rfl
                    try simp only [Act.put, List.setIfInBounds_toArray, List.set_cons_zero, List.set_cons_succ]
                    refine wpAnyH_take (i := 20) (oi := ({ dst := some 187, op := Go.Op.move (Go.Operand.tmp 2), type := 3, pos := "law.go:254", after := #[{ on := 17, ground := Go.Ground.guard }], guard := some (17, false) } : Oper)) (v := ?_) rfl (by kernel_rfl) (by kernel_rfl) (by kernel_rfl) (fun _ _ _ h => h) (Or.inl ⟨by rfl, ?_⟩) hH ?_
                    rotate_left
                    · intro w hSw; (try dsimp only at hSw); go_simp; try with_reducible rfl
                    try simp only [Act.put, List.setIfInBounds_toArray, List.set_cons_zero, List.set_cons_succ]
                    refine wpAnyH_take (i := 22) (oi := ({ dst := some 189, op := Go.Op.fieldAddr 39 (Go.Operand.tmp 15) 1, type := 0, pos := "law.go:254", after := #[{ on := 17, ground := Go.Ground.guard }], guard := some (17, false) } : Oper)) (v := ?_) rfl (by kernel_rfl) (by kernel_rfl) (by kernel_rfl) (fun _ _ _ h => h) (Or.inl ⟨by rfl, ?_⟩) hH ?_
                    rotate_left
                    · intro w hSw; (try dsimp only at hSw); go_simp; try with_reducible rfl
                    try simp only [Act.put, List.setIfInBounds_toArray, List.set_cons_zero, List.set_cons_succ]
                    refine wpAnyH_take (i := 23) (oi := ({ dst := some 190, op := Go.Op.load 3 (Go.Operand.tmp 189), type := 3, pos := "law.go:254", after := #[{ on := 22, ground := Go.Ground.data }, { on := 17, ground := Go.Ground.guard }], guard := some (17, false) } : Oper)) (v := ?_) rfl (by kernel_rfl) (by kernel_rfl) (by kernel_rfl) (fun _ _ _ h => h) (Or.inl ⟨by rfl, ?_⟩) hH ?_
                    rotate_left
                    · intro w hSw; (try dsimp only at hSw); go_simp; try with_reducible rfl
                    try simp only [Act.put, List.setIfInBounds_toArray, List.set_cons_zero, List.set_cons_succ]
                    refine wpAnyH_ready (rs := [21]) (by kernel_rfl) (by simp) ?_
                    refine AllReadyH.cons (o := ({ dst := some 188, op := Go.Op.call { callee := Go.Callee.value (Go.Operand.func 52), args := #[Go.Operand.tmp 185, Go.Operand.tmp 186, Go.Operand.tmp 187], argTypes := #[63, 3, 3] }, type := 3, pos := "law.go:254", after := #[{ on := 18, ground := Go.Ground.data }, { on := 19, ground := Go.Ground.data }, { on := 20, ground := Go.Ground.data }, { on := 17, ground := Go.Ground.chain }, { on := 17, ground := Go.Ground.guard }], guard := some (17, false) } : Oper)) rfl (fun K hK => ?_) AllReadyH.nil
                    go_simp
                    go_at_call 52
                    refine (HIK.out _ hH.1).mono ?_
                    rintro e9 w9 ⟨rfl, hb⟩
                    refine hK.out _ _ ⟨hH.1.tr hb, kcb hb hH.2.1, kcb hb hH.2.2.1, kcb hb hH.2.2.2.1, kcb hb hH.2.2.2.2.1, kcb hb hH.2.2.2.2.2.1, kcb hb hH.2.2.2.2.2.2⟩ (fun hH' => ?_)
                    clear hH
                    have hH := hH'
                    clear hH' hK K
                    try simp only [Act.put, List.setIfInBounds_toArray, List.set_cons_zero, List.set_cons_succ]
                    refine wpAnyH_take (i := 24) (oi := ({ dst := some 191, op := Go.Op.binOp Go.BinOp.gtr 3 (Go.Operand.tmp 188) (Go.Operand.tmp 190) 3, type := 4, pos := "law.go:254", after := #[{ on := 21, ground := Go.Ground.data }, { on := 23, ground := Go.Ground.data }, { on := 17, ground := Go.Ground.guard }], guard := some (17, false) } : Oper)) (v := ?_) rfl (by kernel_rfl) (by kernel_rfl) (by kernel_rfl) (fun _ _ _ h => h) (Or.inl ⟨by rfl, ?_⟩) hH ?_
                    rotate_left
                    · intro w hSw; (try dsimp only at hSw); go_simp; try with_reducible rfl
                    try simp only [Act.put, List.setIfInBounds_toArray, List.set_cons_zero, List.set_cons_succ]
                    refine wpAnyH_take (i := 25) (oi := ({ dst := some 192, op := Go.Op.pick (Go.Operand.tmp 184) (Go.Operand.const (Go.Value.bool true)) (Go.Operand.tmp 191), type := 4, pos := "law.go:254", after := #[{ on := 17, ground := Go.Ground.data }, { on := 24, ground := Go.Ground.data }, { on := 9, ground := Go.Ground.guard }], guard := some (9, true) } : Oper)) (v := ?_) rfl (by kernel_rfl) (by kernel_rfl) (by kernel_rfl) (fun _ _ _ h => h) (Or.inl ⟨by rfl, ?_⟩) hH ?_
                    rotate_left
                    · intro w hSw; (try dsimp only at hSw); go_simp; try with_reducible rfl
                    try simp only [Act.put, List.setIfInBounds_toArray, List.set_cons_zero, List.set_cons_succ]
                    refine wpAnyH_take (i := 26) (oi := ({ dst := some 193, op := Go.Op.pick (Go.Operand.tmp 176) (Go.Operand.tmp 192) (Go.Operand.const (Go.Value.bool false)), type := 4, pos := "law.go:254", after := #[{ on := 9, ground := Go.Ground.data }, { on := 25, ground := Go.Ground.data }, { on := 6, ground := Go.Ground.guard }], guard := some (6, false) } : Oper)) (v := ?_) rfl (by kernel_rfl) (by kernel_rfl) (by kernel_rfl) (fun _ _ _ h => h) (Or.inl ⟨by rfl, ?_⟩) hH ?_
                    rotate_left
                    · intro w hSw; (try dsimp only at hSw); go_simp; try with_reducible rfl
                    try simp only [Act.put, List.setIfInBounds_toArray, List.set_cons_zero, List.set_cons_succ]
                    refine wpAnyH_take (i := 27) (oi := ({ dst := some 194, op := Go.Op.pick (Go.Operand.tmp 173) (Go.Operand.const (Go.Value.bool true)) (Go.Operand.tmp 193), type := 4, pos := "law.go:254", after := #[{ on := 6, ground := Go.Ground.data }, { on := 26, ground := Go.Ground.data }], guard := none } : Oper)) (v := ?_) rfl (by kernel_rfl) (by kernel_rfl) (by kernel_rfl) (fun _ _ _ h => h) (Or.inl ⟨by rfl, ?_⟩) hH ?_
                    rotate_left
                    · intro w hSw; (try dsimp only at hSw); go_simp; try with_reducible rfl
                    try simp only [Act.put, List.setIfInBounds_toArray, List.set_cons_zero, List.set_cons_succ]
                    refine wpAnyH_done (by kernel_rfl) ?_ _
                    refine NoPanic.normal ?_
                    go_wp2_with fail
                    go_roundw
                    case rel => exact ⟨k + 1, by omega, by go_num, hH.1, hH.2.1, hH.2.2.1, hH.2.2.2.1, hH.2.2.2.2.1⟩
                    case measure => simp [RowKit.intOf]; omega
                · have hkn : k = n := by omega
                  subst k
                  go_wp2_with fail
                  refine (awakeS_any _).mono ?_
                  rintro ea wa ⟨rfl, ha⟩
                  go_wp2_with fail
                  go_ret
                  exact ⟨rfl, HZ.out.tr ha⟩
end Go.Proofs.Ytennmdlajealpaa
