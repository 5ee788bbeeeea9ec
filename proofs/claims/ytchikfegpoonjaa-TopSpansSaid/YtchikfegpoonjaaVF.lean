/-
  TopSpans: the walk.
-/
import Derived.Test.YtchikfegpoonjaaVB
import Derived.Test.YtchikfegpoonjaaVE
import Derived.Test.YtchikfegpoonjaaUF
import Derived.Test.YtchikfegpoonjaaPEB
import Derived.Test.YtchikfegpoonjaaD
import Derived.Lib.MinMax
namespace Go.Proofs.Ytchikfegpoonjaa
open Go.RowKit Go.Maps
set_option linter.unusedSimpArgs false
set_option linter.unusedVariables false

def spR (r : Int) (k : Nat) : Int := if k = 1 then r else 0
def spS (a b : Sgt) (k : Nat) : Sgt := if k = 0 then a else b
/-- How far the clock may go between a sight and a time. -/
def spD (s : Sgt) (t : Int) : Int := max (t - s.tm) (s.tm - t)
def spW (r t : Int) (s : Sgt) : Int × Int := (loH s - crr r (spD s t), upH s + crr r (spD s t))
theorem spD_crb (r t : Int) (s : Sgt) : crb (spR r) (1, s.tm) (1, t) = crr r (spD s t) := by
  unfold crb spD
  simp only
  have e : (spR r (Int.toNat 1)) = r := rfl
  rw [e]
  congr 1
  omega
def spC (F : Nat → Int × Int) : Nat → List Value
  | 0 => []
  | k + 1 => spC F k ++ [.int .i64 (F k).1, .int .i64 (F k).2]
theorem spn_one {p q : Int} : ∀ u ∈ ([.int .i64 p, .int .i64 q] : List Value), u.oneCell' = true := fun u hu => by
  simp only [List.mem_cons, List.not_mem_nil, or_false] at hu
  rcases hu with rfl | rfl <;> rfl
theorem spn_news {w : World} {b : Nat} {p q : Int} (c0 : w.cell? ⟨b, 0, none⟩ = some (.int .i64 p)) (c1 : w.cell? ⟨b, 1, none⟩ = some (.int .i64 q)) : ∀ j u, ([.int .i64 p, .int .i64 q] : List Value)[j]? = some u → w.cell? ((⟨b, 0, none⟩ : Addr).add j) = some u := fun j u hu => by
  match j, hu with
  | 0, hu => simp at hu; subst hu; simpa [Addr.add] using c0
  | 1, hu => simp at hu; subst hu; simpa [Addr.add] using c1
  | j + 2, hu => simp at hu
theorem spn_two {w : World} {base : Nat} {v : Value} {F : Nat → Int × Int} (h : w.ownsRow base 35 2 v 2 (spC F 2)) : ∃ g cap, v = .slice (some ⟨g, 0, none⟩) 2 cap ∧ g < w.heap.size ∧ w.cell? ⟨g, 0, none⟩ = some (.int .i64 (F 0).1) ∧ w.cell? ⟨g, 1, none⟩ = some (.int .i64 (F 0).2) ∧ w.cell? ⟨g, 2, none⟩ = some (.int .i64 (F 1).1) ∧ w.cell? ⟨g, 3, none⟩ = some (.int .i64 (F 1).2) := by
  rcases h.2 with ⟨rfl, h0⟩ | ⟨g, cap, cur, rfl, hb, hg, hnc, hcm, _⟩
  · exact absurd h0 (by simp [spC])
  · exact ⟨g, cap, rfl, (Array.getElem?_eq_some_iff.1 hg).1, h.cellAt 0 (by omega), h.cellAt 1 (by omega), h.cellAt 2 (by omega), h.cellAt 3 (by omega)⟩
theorem spn_info : (Try.prog.info? 35).map (fun i => (i.zero, i.size, i.bytes)) = some (some (.agg #[.int .i64 0, .int .i64 0]), 2, 16) := by kernel_rfl
theorem sp_wid {r t : Int} {s : Sgt} (hr : 0 ≤ r ∧ r ≤ 1000000) (ht : 0 ≤ t ∧ t ≤ 1000000000000) (hs : sgB 2 s = true) : widF (loH s) (upH s) (crr r (spD s t)) = ((spW r t s).1, (spW r t s).2, 0) ∧ vS (spW r t s).1 (spW r t s).2 = true ∧ 0 ≤ spD s t ∧ spD s t ≤ 1000000000000 := by
  obtain ⟨t1, _, _, _, l1, l2, l3⟩ := sgB_iff.1 hs
  have hd : 0 ≤ spD s t ∧ spD s t ≤ 1000000000000 := by unfold spD; omega
  obtain ⟨_, _, c0, c1⟩ := crr_bd hr hd
  have hlu : loH s ≤ upH s ∧ -86400000 ≤ loH s ∧ upH s ≤ 86400000 := by unfold loH upH; split <;> omega
  refine ⟨?_, ?_, hd.1, hd.2⟩
  · unfold widF spW limF
    rw [if_pos (vS_iff.2 ⟨by omega, by omega, by omega⟩), if_neg (by omega), if_neg (by omega), if_neg (by omega)]
  · unfold spW
    exact vS_iff.2 ⟨by simp only; omega, by simp only; omega, by simp only; omega⟩
set_option maxRecDepth 100000 in
set_option maxHeartbeats 12800000 in
theorem tspans_walk (r : Int) (a b : Sgt) (t : Int) (w : World) :
    Calls Try.prog 3 #[.int .i64 r, encG a, encG b, .int .i64 t] w fun e w' => e = .returned (.bool true) ∧ Bl w w' := by
  go_enter Try.func3, Try.ntmps3
  go_wp2_with fail
  obtain ⟨Z1, hZ⟩ : ∃ Z, Z = (((((w.alloc (Obj.cells #[.int .i64 a.tm, .int .i64 a.ca, .int .i64 a.cb, .int .i64 a.lo, .int .i64 a.hi] 23)).alloc (Obj.cells #[.int .i64 b.tm, .int .i64 b.ca, .int .i64 b.cb, .int .i64 b.lo, .int .i64 b.hi] 23)).alloc (Obj.cells #[.int .i64 0, .int .i64 r] 3)).alloc (Obj.cells #[.int .i64 a.tm, .int .i64 a.ca, .int .i64 a.cb, .int .i64 a.lo, .int .i64 a.hi, .int .i64 b.tm, .int .i64 b.ca, .int .i64 b.cb, .int .i64 b.lo, .int .i64 b.hi] 23)).alloc (Obj.cells #[.slice (some ⟨w.heap.size + 1 + 1, 0, none⟩) 2 2, .slice (some ⟨w.heap.size + 1 + 1 + 1, 0, none⟩) 2 2] 27)) := ⟨_, rfl⟩
  have bz : Bl w Z1 := by rw [hZ]; exact Bl.tr (Bl.tr (Bl.tr (Bl.tr (bl_alS _ _) (bl_alS _ _)) (bl_alS _ _)) (bl_alS _ _)) (bl_alS _ _)
  have a0 : Z1.cell? ⟨w.heap.size, 0, none⟩ = some (.int .i64 a.tm) := by rw [hZ]; go_cell
  have a1 : Z1.cell? ⟨w.heap.size, 1, none⟩ = some (.int .i64 a.ca) := by rw [hZ]; go_cell
  have a2 : Z1.cell? ⟨w.heap.size, 2, none⟩ = some (.int .i64 a.cb) := by rw [hZ]; go_cell
  have a3 : Z1.cell? ⟨w.heap.size, 3, none⟩ = some (.int .i64 a.lo) := by rw [hZ]; go_cell
  have a4 : Z1.cell? ⟨w.heap.size, 4, none⟩ = some (.int .i64 a.hi) := by rw [hZ]; go_cell
  have b0 : Z1.cell? ⟨w.heap.size + 1, 0, none⟩ = some (.int .i64 b.tm) := by rw [hZ]; go_cell
  have b1 : Z1.cell? ⟨w.heap.size + 1, 1, none⟩ = some (.int .i64 b.ca) := by rw [hZ]; go_cell
  have b2 : Z1.cell? ⟨w.heap.size + 1, 2, none⟩ = some (.int .i64 b.cb) := by rw [hZ]; go_cell
  have b3 : Z1.cell? ⟨w.heap.size + 1, 3, none⟩ = some (.int .i64 b.lo) := by rw [hZ]; go_cell
  have b4 : Z1.cell? ⟨w.heap.size + 1, 4, none⟩ = some (.int .i64 b.hi) := by rw [hZ]; go_cell
  have q0 : Z1.cell? ⟨w.heap.size + 1 + 1, 0, none⟩ = some (.int .i64 0) := by rw [hZ]; go_cell
  have q1 : Z1.cell? ⟨w.heap.size + 1 + 1, 1, none⟩ = some (.int .i64 r) := by rw [hZ]; go_cell
  have s0 : Z1.cell? ⟨w.heap.size + 1 + 1 + 1, 0, none⟩ = some (.int .i64 a.tm) := by rw [hZ]; go_cell
  have s1 : Z1.cell? ⟨w.heap.size + 1 + 1 + 1, 1, none⟩ = some (.int .i64 a.ca) := by rw [hZ]; go_cell
  have s2 : Z1.cell? ⟨w.heap.size + 1 + 1 + 1, 2, none⟩ = some (.int .i64 a.cb) := by rw [hZ]; go_cell
  have s3 : Z1.cell? ⟨w.heap.size + 1 + 1 + 1, 3, none⟩ = some (.int .i64 a.lo) := by rw [hZ]; go_cell
  have s4 : Z1.cell? ⟨w.heap.size + 1 + 1 + 1, 4, none⟩ = some (.int .i64 a.hi) := by rw [hZ]; go_cell
  have s5 : Z1.cell? ⟨w.heap.size + 1 + 1 + 1, 5, none⟩ = some (.int .i64 b.tm) := by rw [hZ]; go_cell
  have s6 : Z1.cell? ⟨w.heap.size + 1 + 1 + 1, 6, none⟩ = some (.int .i64 b.ca) := by rw [hZ]; go_cell
  have s7 : Z1.cell? ⟨w.heap.size + 1 + 1 + 1, 7, none⟩ = some (.int .i64 b.cb) := by rw [hZ]; go_cell
  have s8 : Z1.cell? ⟨w.heap.size + 1 + 1 + 1, 8, none⟩ = some (.int .i64 b.lo) := by rw [hZ]; go_cell
  have s9 : Z1.cell? ⟨w.heap.size + 1 + 1 + 1, 9, none⟩ = some (.int .i64 b.hi) := by rw [hZ]; go_cell
  have x0 : Z1.cell? ⟨w.heap.size + 1 + 1 + 1 + 1, 0, none⟩ = some (.slice (some ⟨w.heap.size + 1 + 1, 0, none⟩) 2 2) := by rw [hZ]; go_cell
  have x1 : Z1.cell? ⟨w.heap.size + 1 + 1 + 1 + 1, 1, none⟩ = some (.slice (some ⟨w.heap.size + 1 + 1 + 1, 0, none⟩) 2 2) := by rw [hZ]; go_cell
  rw [← hZ]
  have HB1 := Lib.hid (bz)
  clear hZ bz
  have HA := Lib.hid (show Sl Z1 (some ⟨w.heap.size + 1 + 1, 0, none⟩) 2 (spR r) from fun _ => ⟨_, 0, rfl, ltb q0, fun j hj => by
    have hj2 : j = 0 ∨ j = 1 := by omega
    rcases hj2 with rfl | rfl
    · exact q0
    · exact q1⟩)
  have HB := Lib.hid (show Sgl Z1 (some ⟨w.heap.size + 1 + 1 + 1, 0, none⟩) 2 (spS a b) from fun _ => ⟨_, 0, rfl, ltb s0, fun j hj => by
    have hj2 : j = 0 ∨ j = 1 := by omega
    rcases hj2 with rfl | rfl
    · exact ⟨s0, s1, s2, s3, s4⟩
    · exact ⟨s5, s6, s7, s8, s9⟩⟩)
  clear a0 a1 a2 a3 a4
  clear b0 b1 b2 b3 b4
  clear q0 q1
  clear s0 s1 s2 s3 s4 s5 s6 s7 s8 s9
  have HV := rvalidN_any (some ⟨w.heap.size + 1 + 1, 0, none⟩) 2 2 (spR r) (some ⟨w.heap.size + 1 + 1 + 1, 0, none⟩) 2 2 (spS a b) Z1 HA.out HB.out (by decide) (by decide)
  cases hv : vnB (spR r) 2 (spS a b) 2 with
  | false =>
    rw [hv] at HV
    refine (HV).mono ?_
    rintro e w2 ⟨rfl, hb⟩
    replace x0 := kcb hb x0
    replace x1 := kcb hb x1
    have HB2 := Lib.hid (HB1.out.tr hb)
    clear hb
    have lz0 := ltb x0
    go_wp2_with fail
    refine (awake5_any _).mono ?_
    rintro ea wa ⟨rfl, ha⟩
    go_wp2_with fail
    go_ret
    exact ⟨rfl, HB2.out.tr ha⟩
  | true =>
    rw [hv] at HV
    have HVN := Lib.hid (vn_iff.1 hv)
    clear hv
    by_cases t0 : t < 0
    · skip
      refine (HV).mono ?_
      rintro e w2 ⟨rfl, hb⟩
      replace x0 := kcb hb x0
      replace x1 := kcb hb x1
      have HB2 := Lib.hid (HB1.out.tr hb)
      clear hb
      have lz0 := ltb x0
      go_wp2_with fail
      refine (awake5_any _).mono ?_
      rintro ea wa ⟨rfl, ha⟩
      go_wp2_with fail
      go_ret
      exact ⟨rfl, HB2.out.tr ha⟩
    by_cases t1 : 1000000000000 < t
    · skip
      refine (HV).mono ?_
      rintro e w2 ⟨rfl, hb⟩
      replace x0 := kcb hb x0
      replace x1 := kcb hb x1
      have HB2 := Lib.hid (HB1.out.tr hb)
      clear hb
      have lz0 := ltb x0
      go_wp2_with fail
      refine (awake5_any _).mono ?_
      rintro ea wa ⟨rfl, ha⟩
      go_wp2_with fail
      go_ret
      exact ⟨rfl, HB2.out.tr ha⟩
    refine (HV).mono ?_
    rintro e w2 ⟨rfl, hb⟩
    replace x0 := kcb hb x0
    replace x1 := kcb hb x1
    have HB2 := Lib.hid (HB1.out.tr hb)
    clear HV
    have HA := Lib.hid (HA.out.below hb)
    have HB := Lib.hid (HB.out.below hb)
    clear hb
    have lz0 := ltb x0
    go_wp2_with fail
    obtain ⟨ok, hok⟩ : ∃ ok, ok = noB (spR r) (spS a b) 2 := ⟨_, rfl⟩
    have HOK := Lib.hid hok
    have HC2 := consistent_any (some ⟨w.heap.size + 1 + 1, 0, none⟩) 2 2 (spR r) (some ⟨w.heap.size + 1 + 1 + 1, 0, none⟩) 2 2 (spS a b) w2 HA.out HB.out (by decide) (by decide)
    rw [if_pos (vn_iff.2 HVN.out), ← hok] at HC2
    clear hok
    refine HC2.mono ?_
    rintro e w3 ⟨rfl, hb⟩
    replace x0 := kcb hb x0
    replace x1 := kcb hb x1
    have HB3 := Lib.hid (HB2.out.tr hb)
    have HA := Lib.hid (HA.out.below hb)
    have HB := Lib.hid (HB.out.below hb)
    clear HC2 hb
    obtain ⟨i0, hi0, hz0, hz1, hz2⟩ := info_partsU spn_info
    have HI := Lib.hid (And.intro hi0 (And.intro hz0 (And.intro hz1 hz2)))
    clear hi0 hz0 hz1 hz2
    have HO0 := World.ownsRow_lit (base := w3.heap.size) (size := 2) (e := 35) w3 #[] 0 (Nat.le_refl _) (by decide) rfl
    obtain ⟨Q, hQ⟩ : ∃ Q, Q = w3.alloc (Obj.cells #[] 35) := ⟨_, rfl⟩
    have BQ : Bl w3 Q := by rw [hQ]; exact bl_alS _ _
    rw [← hQ] at HO0
    have HST := Lib.hid (And.intro HO0 BQ)
    have HX := Lib.hid (And.intro x0 x1)
    have lz0 := ltb x0
    have HLX := Lib.hid lz0
    have hr := (HVN.out.ra 1 (by omega))
    have hr2 : 0 ≤ r ∧ r ≤ 1000000 := hr
    have HF := Lib.hid (show ∀ k, k < 2 → _ from fun k hk => sp_wid hr2 (t := t) ⟨by omega, by omega⟩ (HVN.out.sg k hk))
    clear HO0 BQ hr hr2
    go_wp2_with fail
    rw [← hQ]
    clear hQ x0 x1 lz0
    go_loopw [53, 12] (fun iv v12 wr => ∃ kk : Nat, kk ≤ 2 ∧ iv = .int .i64 kk ∧ Hid (wr.ownsRow w3.heap.size 35 2 v12 kk (spC (fun i => spW r t (spS a b i)) kk)) ∧ Bl w3 wr) (fun iv _ _ => 2 - (intOf iv).toNat)
    case atStart => exact ⟨0, by omega, rfl, HST.out.1, HST.out.2⟩
    case round =>
      obtain ⟨kk, hk, rfl, HO, hZ⟩ := hrel
      have HZ := Lib.hid hZ
      clear HST
      by_cases hlt : kk < 2
      · obtain ⟨b3, o3, hB3, lb3, hc3⟩ := HB.out.below hZ (by omega)
        obtain ⟨rfl, rfl⟩ : w.heap.size + 1 + 1 + 1 = b3 ∧ 0 = o3 := by simpa using hB3
        obtain ⟨s0, s1, s2, s3, s4⟩ := hc3 kk hlt
        simp only [Nat.zero_add] at s0 s1 s2 s3 s4
        have x0 := kcb hZ HX.out.1
        have x1 := kcb hZ HX.out.2
        have HFK := Lib.hid (HF.out kk hlt)
        have hsg := sgB_iff.1 (HVN.out.sg kk hlt)
        obtain ⟨x, hx⟩ : ∃ x, x = spS a b kk := ⟨_, rfl⟩
        have HXK := Lib.hid hx
        rw [← hx] at s0 s1 s2 s3 s4 HFK hsg
        clear hc3 hB3 hZ lb3 hx
        have hca : x.ca = 0 ∨ x.ca = 1 := by omega
        have HSG := Lib.hid hsg
        have htm := hsg.1
        have hlh := hsg.2.2.2.2
        clear hsg
        rcases hca with hca | hca
        · skip
          have hca0 : (x.ca == 0) = true := by simp [hca]
          have HLU := Lib.hid (show loH x = -x.hi ∧ upH x = -x.lo from by unfold loH upH; rw [hca]; exact ⟨rfl, rfl⟩)
          rw [HLU.out.1, HLU.out.2] at HFK
          have lzx := ltb x0
          have lzy : w.heap.size + 1 + 1 + 1 + 1 < wr.heap.size + 1 := by omega
          have lzz : w.heap.size + 1 + 1 + 1 + 1 < wr.heap.size + 1 + 1 := by omega
          clear hca
          go_wp2_with fail
          obtain ⟨Z4, hZ⟩ : ∃ Z, Z = ((wr.alloc (Obj.cells #[.int .i64 x.tm, .int .i64 x.ca, .int .i64 x.cb, .int .i64 x.lo, .int .i64 x.hi] 23)).alloc (Obj.cells #[.int .i64 x.lo, .int .i64 x.hi] 35)) := ⟨_, rfl⟩
          have bz : Bl wr Z4 := by rw [hZ]; exact Bl.tr (bl_alS _ _) (bl_alS _ _)
          replace x0 := kcb bz x0
          replace x1 := kcb bz x1
          have y0 : Z4.cell? ⟨wr.heap.size, 0, none⟩ = some (.int .i64 x.tm) := by rw [hZ]; go_cell
          have fy0 : Z4.frozen? ⟨wr.heap.size, 0, none⟩ = false := by rw [hZ]; go_cell
          have y1 : Z4.cell? ⟨wr.heap.size, 1, none⟩ = some (.int .i64 x.ca) := by rw [hZ]; go_cell
          have fy1 : Z4.frozen? ⟨wr.heap.size, 1, none⟩ = false := by rw [hZ]; go_cell
          have y2 : Z4.cell? ⟨wr.heap.size, 2, none⟩ = some (.int .i64 x.cb) := by rw [hZ]; go_cell
          have fy2 : Z4.frozen? ⟨wr.heap.size, 2, none⟩ = false := by rw [hZ]; go_cell
          have y3 : Z4.cell? ⟨wr.heap.size, 3, none⟩ = some (.int .i64 x.lo) := by rw [hZ]; go_cell
          have fy3 : Z4.frozen? ⟨wr.heap.size, 3, none⟩ = false := by rw [hZ]; go_cell
          have y4 : Z4.cell? ⟨wr.heap.size, 4, none⟩ = some (.int .i64 x.hi) := by rw [hZ]; go_cell
          have fy4 : Z4.frozen? ⟨wr.heap.size, 4, none⟩ = false := by rw [hZ]; go_cell
          have z0 : Z4.cell? ⟨wr.heap.size + 1, 0, none⟩ = some (.int .i64 x.lo) := by rw [hZ]; go_cell
          have fz0 : Z4.frozen? ⟨wr.heap.size + 1, 0, none⟩ = false := by rw [hZ]; go_cell
          have z1 : Z4.cell? ⟨wr.heap.size + 1, 1, none⟩ = some (.int .i64 x.hi) := by rw [hZ]; go_cell
          have fz1 : Z4.frozen? ⟨wr.heap.size + 1, 1, none⟩ = false := by rw [hZ]; go_cell
          rw [← hZ]
          have HB4 := Lib.hid (bz)
          clear hZ bz
          have HOP := opp_any x.lo x.hi Z4
          rw [show rS (oppF x.lo x.hi) = .tuple #[.agg #[.int .i64 (-x.hi), .int .i64 (-x.lo)], .int .i64 0] from by unfold oppF; rw [if_pos (vS_iff.2 ⟨by omega, by omega, by omega⟩)]; rfl] at HOP
          refine (HOP).mono ?_
          rintro e w5 ⟨rfl, hb⟩
          replace fy0 := fzb hb fy0 (ltb y0)
          replace fy1 := fzb hb fy1 (ltb y0)
          replace fy2 := fzb hb fy2 (ltb y0)
          replace fy3 := fzb hb fy3 (ltb y0)
          replace fy4 := fzb hb fy4 (ltb y0)
          replace fz0 := fzb hb fz0 (ltb z0)
          replace fz1 := fzb hb fz1 (ltb z0)
          replace x0 := kcb hb x0
          replace x1 := kcb hb x1
          replace y0 := kcb hb y0
          replace y1 := kcb hb y1
          replace y2 := kcb hb y2
          replace y3 := kcb hb y3
          replace y4 := kcb hb y4
          replace z0 := kcb hb z0
          replace z1 := kcb hb z1
          have HB5 := Lib.hid (HB4.out.tr hb)
          clear HOP
          clear hb
          have lz0 := ltb x0
          have lz1 := ltb y0
          have lz2 := ltb z0
          go_wp2_with fail
          obtain ⟨Z6, hZ⟩ : ∃ Z, Z = (w5.setCell ⟨wr.heap.size + 1, 0, none⟩ (.int .i64 (-x.hi))).setCell ⟨wr.heap.size + 1, 1, none⟩ (.int .i64 (-x.lo)) := ⟨_, rfl⟩
          rw [← hZ]
          replace fy0 : Z6.frozen? ⟨wr.heap.size, 0, none⟩ = false := by rw [hZ]; simpa using fy0
          replace fy1 : Z6.frozen? ⟨wr.heap.size, 1, none⟩ = false := by rw [hZ]; simpa using fy1
          replace fy2 : Z6.frozen? ⟨wr.heap.size, 2, none⟩ = false := by rw [hZ]; simpa using fy2
          replace fy3 : Z6.frozen? ⟨wr.heap.size, 3, none⟩ = false := by rw [hZ]; simpa using fy3
          replace fy4 : Z6.frozen? ⟨wr.heap.size, 4, none⟩ = false := by rw [hZ]; simpa using fy4
          replace fz0 : Z6.frozen? ⟨wr.heap.size + 1, 0, none⟩ = false := by rw [hZ]; simpa using fz0
          replace fz1 : Z6.frozen? ⟨wr.heap.size + 1, 1, none⟩ = false := by rw [hZ]; simpa using fz1
          replace x0 : Z6.cell? ⟨w.heap.size + 1 + 1 + 1 + 1, 0, none⟩ = some (.slice (some ⟨w.heap.size + 1 + 1, 0, none⟩) 2 2) := by rw [hZ]; exact cell_setO (cell_setO x0 (by omega)) (by omega)
          replace x1 : Z6.cell? ⟨w.heap.size + 1 + 1 + 1 + 1, 1, none⟩ = some (.slice (some ⟨w.heap.size + 1 + 1 + 1, 0, none⟩) 2 2) := by rw [hZ]; exact cell_setO (cell_setO x1 (by omega)) (by omega)
          replace y0 : Z6.cell? ⟨wr.heap.size, 0, none⟩ = some (.int .i64 x.tm) := by rw [hZ]; exact cell_setO (cell_setO y0 (by omega)) (by omega)
          replace y1 : Z6.cell? ⟨wr.heap.size, 1, none⟩ = some (.int .i64 x.ca) := by rw [hZ]; exact cell_setO (cell_setO y1 (by omega)) (by omega)
          replace y2 : Z6.cell? ⟨wr.heap.size, 2, none⟩ = some (.int .i64 x.cb) := by rw [hZ]; exact cell_setO (cell_setO y2 (by omega)) (by omega)
          replace y3 : Z6.cell? ⟨wr.heap.size, 3, none⟩ = some (.int .i64 x.lo) := by rw [hZ]; exact cell_setO (cell_setO y3 (by omega)) (by omega)
          replace y4 : Z6.cell? ⟨wr.heap.size, 4, none⟩ = some (.int .i64 x.hi) := by rw [hZ]; exact cell_setO (cell_setO y4 (by omega)) (by omega)
          have z1N : Z6.cell? ⟨wr.heap.size + 1, 1, none⟩ = some (.int .i64 (-x.lo)) := by rw [hZ]; exact put_1U z0 z1 _ _
          replace z0 : Z6.cell? ⟨wr.heap.size + 1, 0, none⟩ = some (.int .i64 (-x.hi)) := by rw [hZ]; exact put_0U z0 _ _
          clear z1
          have z1 := z1N
          clear z1N
          have HB6 := Lib.hid (show Bl wr Z6 by rw [hZ]; exact bl_set (bl_set HB5.out (by omega)) (by omega))
          clear hZ
          have HCR := carryN_any (some ⟨w.heap.size + 1 + 1, 0, none⟩) 2 2 (spR r) (some ⟨w.heap.size + 1 + 1 + 1, 0, none⟩) 2 2 (spS a b) 1 (max (t - x.tm) (x.tm - t)) Z6 (HA.out.below (HZ.out.tr HB6.out)) (HB.out.below (HZ.out.tr HB6.out)) (by decide) (by decide)
          rw [show crV (spR r) (spS a b) 2 2 1 (max (t - x.tm) (x.tm - t)) = .tuple #[.int .i64 (crr r (spD x t)), .int .i64 0] from by (unfold crV; rw [if_neg (by rw [vn_iff.2 HVN.out]; decide), if_neg (by decide), if_neg (by rw [inB_iff.2 (show 0 ≤ max (t - x.tm) (x.tm - t) ∧ max (t - x.tm) (x.tm - t) ≤ 1000000000000 from ⟨HFK.out.2.2.1, HFK.out.2.2.2⟩)]; decide)]; rfl)] at HCR
          refine (HCR).mono ?_
          rintro e w7 ⟨rfl, hb⟩
          replace fy0 := fzb hb fy0 (ltb y0)
          replace fy1 := fzb hb fy1 (ltb y0)
          replace fy2 := fzb hb fy2 (ltb y0)
          replace fy3 := fzb hb fy3 (ltb y0)
          replace fy4 := fzb hb fy4 (ltb y0)
          replace fz0 := fzb hb fz0 (ltb z0)
          replace fz1 := fzb hb fz1 (ltb z0)
          replace x0 := kcb hb x0
          replace x1 := kcb hb x1
          replace y0 := kcb hb y0
          replace y1 := kcb hb y1
          replace y2 := kcb hb y2
          replace y3 := kcb hb y3
          replace y4 := kcb hb y4
          replace z0 := kcb hb z0
          replace z1 := kcb hb z1
          have HB7 := Lib.hid (HB6.out.tr hb)
          clear HCR
          clear hb
          have lz0 := ltb x0
          have lz1 := ltb y0
          have lz2 := ltb z0
          go_wp2_with fail
          have HWD := wid_any (-x.hi) (-x.lo) (crr r (spD x t)) w7
          rw [HFK.out.1, show rS ((spW r t x).1, (spW r t x).2, 0) = .tuple #[.agg #[.int .i64 (spW r t x).1, .int .i64 (spW r t x).2], .int .i64 0] from rfl] at HWD
          refine HWD.mono ?_
          rintro e w9 ⟨rfl, hb⟩
          replace fy0 := fzb hb fy0 (ltb y0)
          replace fy1 := fzb hb fy1 (ltb y0)
          replace fy2 := fzb hb fy2 (ltb y0)
          replace fy3 := fzb hb fy3 (ltb y0)
          replace fy4 := fzb hb fy4 (ltb y0)
          replace fz0 := fzb hb fz0 (ltb z0)
          replace fz1 := fzb hb fz1 (ltb z0)
          replace x0 := kcb hb x0
          replace x1 := kcb hb x1
          replace y0 := kcb hb y0
          replace y1 := kcb hb y1
          replace y2 := kcb hb y2
          replace y3 := kcb hb y3
          replace y4 := kcb hb y4
          replace z0 := kcb hb z0
          replace z1 := kcb hb z1
          have HB8 := Lib.hid (HB7.out.tr hb)
          have lz0 := ltb x0
          have lz1 := ltb y0
          have lz2 := ltb z0
          obtain ⟨P, hP⟩ : ∃ P, P = w9.alloc (Obj.cells #[.int .i64 (spW r t x).1, .int .i64 (spW r t x).2] 35) := ⟨_, rfl⟩
          have SP : P.heap.size = w9.heap.size + 1 := by rw [hP]; simp
          obtain ⟨Q, hQ⟩ : ∃ Q, Q = P.alloc (Obj.cells #[.int .i64 (spW r t x).1, .int .i64 (spW r t x).2] 35) := ⟨_, rfl⟩
          have BQ : Bl w9 Q := by rw [hQ, hP]; exact Bl.tr (bl_alS _ _) (bl_alS _ _)
          have n0 : Q.cell? ⟨w9.heap.size + 1, 0, none⟩ = some (.int .i64 (spW r t x).1) := by rw [hQ, ← SP]; go_cell
          have n1 : Q.cell? ⟨w9.heap.size + 1, 1, none⟩ = some (.int .i64 (spW r t x).2) := by rw [hQ, ← SP]; go_cell
          have HNW := Lib.hid (spn_news n0 n1)
          have BA := Bl.tr HB8.out BQ
          have HOq := Lib.hid (own_belowU HO.out BA)
          have HBq := Lib.hid (HZ.out.tr BA)
          have HSZ := Lib.hid (show w3.heap.size ≤ Q.heap.size from (HZ.out.tr BA).size)
          have HNX := Lib.hid (show spC (fun i => spW r t (spS a b i)) kk ++ [.int .i64 (spW r t x).1, .int .i64 (spW r t x).2] = spC (fun i => spW r t (spS a b i)) (kk + 1) from by rw [HXK.out]; rfl)
          clear HWD hb n0 n1 BA BQ SP
          subst hQ
          subst hP
          go_wp2_with (at_builtin; refine wpList_append_own _ rfl _ _ _ rfl w3.heap.size 35 i0 _ 2 16 Try.underlying33 HI.out.1 HI.out.2.1 HI.out.2.2.1 HI.out.2.2.2 rfl (by omega) _ kk (spC (fun i => spW r t (spS a b i)) kk) rfl HOq.out ⟨w9.heap.size + 1, 0, none⟩ 1 1 [.int .i64 (spW r t x).1, .int .i64 (spW r t x).2] rfl rfl HNW.out spn_one (by unfold maxLen; omega) (by omega) HSZ.out ?_; intro v10 w10 hown hgrow hnil; clear hnil; rw [HNX.out] at hown; have HO10 := Lib.hid hown; have HB10 := Lib.hid (grow_blU HBq.out hgrow HOq.out (Nat.le_refl _)); clear hown hgrow)
          go_roundw
          case rel => exact ⟨kk + 1, by omega, by go_num, HO10.out, HB10.out⟩
          case measure => simp [RowKit.intOf]; omega
        · skip
          have hca0 : (x.ca == 0) = false := by simp [hca]
          have HLU := Lib.hid (show loH x = x.lo ∧ upH x = x.hi from by unfold loH upH; rw [hca]; exact ⟨rfl, rfl⟩)
          rw [HLU.out.1, HLU.out.2] at HFK
          have lzx := ltb x0
          have lzy : w.heap.size + 1 + 1 + 1 + 1 < wr.heap.size + 1 := by omega
          have lzz : w.heap.size + 1 + 1 + 1 + 1 < wr.heap.size + 1 + 1 := by omega
          clear hca
          go_wp2_with fail
          obtain ⟨Z4, hZ⟩ : ∃ Z, Z = ((wr.alloc (Obj.cells #[.int .i64 x.tm, .int .i64 x.ca, .int .i64 x.cb, .int .i64 x.lo, .int .i64 x.hi] 23)).alloc (Obj.cells #[.int .i64 x.lo, .int .i64 x.hi] 35)) := ⟨_, rfl⟩
          have bz : Bl wr Z4 := by rw [hZ]; exact Bl.tr (bl_alS _ _) (bl_alS _ _)
          replace x0 := kcb bz x0
          replace x1 := kcb bz x1
          have y0 : Z4.cell? ⟨wr.heap.size, 0, none⟩ = some (.int .i64 x.tm) := by rw [hZ]; go_cell
          have fy0 : Z4.frozen? ⟨wr.heap.size, 0, none⟩ = false := by rw [hZ]; go_cell
          have y1 : Z4.cell? ⟨wr.heap.size, 1, none⟩ = some (.int .i64 x.ca) := by rw [hZ]; go_cell
          have fy1 : Z4.frozen? ⟨wr.heap.size, 1, none⟩ = false := by rw [hZ]; go_cell
          have y2 : Z4.cell? ⟨wr.heap.size, 2, none⟩ = some (.int .i64 x.cb) := by rw [hZ]; go_cell
          have fy2 : Z4.frozen? ⟨wr.heap.size, 2, none⟩ = false := by rw [hZ]; go_cell
          have y3 : Z4.cell? ⟨wr.heap.size, 3, none⟩ = some (.int .i64 x.lo) := by rw [hZ]; go_cell
          have fy3 : Z4.frozen? ⟨wr.heap.size, 3, none⟩ = false := by rw [hZ]; go_cell
          have y4 : Z4.cell? ⟨wr.heap.size, 4, none⟩ = some (.int .i64 x.hi) := by rw [hZ]; go_cell
          have fy4 : Z4.frozen? ⟨wr.heap.size, 4, none⟩ = false := by rw [hZ]; go_cell
          have z0 : Z4.cell? ⟨wr.heap.size + 1, 0, none⟩ = some (.int .i64 x.lo) := by rw [hZ]; go_cell
          have fz0 : Z4.frozen? ⟨wr.heap.size + 1, 0, none⟩ = false := by rw [hZ]; go_cell
          have z1 : Z4.cell? ⟨wr.heap.size + 1, 1, none⟩ = some (.int .i64 x.hi) := by rw [hZ]; go_cell
          have fz1 : Z4.frozen? ⟨wr.heap.size + 1, 1, none⟩ = false := by rw [hZ]; go_cell
          rw [← hZ]
          have HB4 := Lib.hid (bz)
          clear hZ bz
          have HCR := carryN_any (some ⟨w.heap.size + 1 + 1, 0, none⟩) 2 2 (spR r) (some ⟨w.heap.size + 1 + 1 + 1, 0, none⟩) 2 2 (spS a b) 1 (max (t - x.tm) (x.tm - t)) Z4 (HA.out.below (HZ.out.tr HB4.out)) (HB.out.below (HZ.out.tr HB4.out)) (by decide) (by decide)
          rw [show crV (spR r) (spS a b) 2 2 1 (max (t - x.tm) (x.tm - t)) = .tuple #[.int .i64 (crr r (spD x t)), .int .i64 0] from by (unfold crV; rw [if_neg (by rw [vn_iff.2 HVN.out]; decide), if_neg (by decide), if_neg (by rw [inB_iff.2 (show 0 ≤ max (t - x.tm) (x.tm - t) ∧ max (t - x.tm) (x.tm - t) ≤ 1000000000000 from ⟨HFK.out.2.2.1, HFK.out.2.2.2⟩)]; decide)]; rfl)] at HCR
          refine (HCR).mono ?_
          rintro e w5 ⟨rfl, hb⟩
          replace fy0 := fzb hb fy0 (ltb y0)
          replace fy1 := fzb hb fy1 (ltb y0)
          replace fy2 := fzb hb fy2 (ltb y0)
          replace fy3 := fzb hb fy3 (ltb y0)
          replace fy4 := fzb hb fy4 (ltb y0)
          replace fz0 := fzb hb fz0 (ltb z0)
          replace fz1 := fzb hb fz1 (ltb z0)
          replace x0 := kcb hb x0
          replace x1 := kcb hb x1
          replace y0 := kcb hb y0
          replace y1 := kcb hb y1
          replace y2 := kcb hb y2
          replace y3 := kcb hb y3
          replace y4 := kcb hb y4
          replace z0 := kcb hb z0
          replace z1 := kcb hb z1
          have HB5 := Lib.hid (HB4.out.tr hb)
          clear HCR
          clear hb
          have lz0 := ltb x0
          have lz1 := ltb y0
          have lz2 := ltb z0
          go_wp2_with fail
          have HWD := wid_any (x.lo) (x.hi) (crr r (spD x t)) w5
          rw [HFK.out.1, show rS ((spW r t x).1, (spW r t x).2, 0) = .tuple #[.agg #[.int .i64 (spW r t x).1, .int .i64 (spW r t x).2], .int .i64 0] from rfl] at HWD
          refine HWD.mono ?_
          rintro e w9 ⟨rfl, hb⟩
          replace fy0 := fzb hb fy0 (ltb y0)
          replace fy1 := fzb hb fy1 (ltb y0)
          replace fy2 := fzb hb fy2 (ltb y0)
          replace fy3 := fzb hb fy3 (ltb y0)
          replace fy4 := fzb hb fy4 (ltb y0)
          replace fz0 := fzb hb fz0 (ltb z0)
          replace fz1 := fzb hb fz1 (ltb z0)
          replace x0 := kcb hb x0
          replace x1 := kcb hb x1
          replace y0 := kcb hb y0
          replace y1 := kcb hb y1
          replace y2 := kcb hb y2
          replace y3 := kcb hb y3
          replace y4 := kcb hb y4
          replace z0 := kcb hb z0
          replace z1 := kcb hb z1
          have HB6 := Lib.hid (HB5.out.tr hb)
          have lz0 := ltb x0
          have lz1 := ltb y0
          have lz2 := ltb z0
          obtain ⟨P, hP⟩ : ∃ P, P = w9.alloc (Obj.cells #[.int .i64 (spW r t x).1, .int .i64 (spW r t x).2] 35) := ⟨_, rfl⟩
          have SP : P.heap.size = w9.heap.size + 1 := by rw [hP]; simp
          obtain ⟨Q, hQ⟩ : ∃ Q, Q = P.alloc (Obj.cells #[.int .i64 (spW r t x).1, .int .i64 (spW r t x).2] 35) := ⟨_, rfl⟩
          have BQ : Bl w9 Q := by rw [hQ, hP]; exact Bl.tr (bl_alS _ _) (bl_alS _ _)
          have n0 : Q.cell? ⟨w9.heap.size + 1, 0, none⟩ = some (.int .i64 (spW r t x).1) := by rw [hQ, ← SP]; go_cell
          have n1 : Q.cell? ⟨w9.heap.size + 1, 1, none⟩ = some (.int .i64 (spW r t x).2) := by rw [hQ, ← SP]; go_cell
          have HNW := Lib.hid (spn_news n0 n1)
          have BA := Bl.tr HB6.out BQ
          have HOq := Lib.hid (own_belowU HO.out BA)
          have HBq := Lib.hid (HZ.out.tr BA)
          have HSZ := Lib.hid (show w3.heap.size ≤ Q.heap.size from (HZ.out.tr BA).size)
          have HNX := Lib.hid (show spC (fun i => spW r t (spS a b i)) kk ++ [.int .i64 (spW r t x).1, .int .i64 (spW r t x).2] = spC (fun i => spW r t (spS a b i)) (kk + 1) from by rw [HXK.out]; rfl)
          clear HWD hb n0 n1 BA BQ SP
          subst hQ
          subst hP
          go_wp2_with (at_builtin; refine wpList_append_own _ rfl _ _ _ rfl w3.heap.size 35 i0 _ 2 16 Try.underlying33 HI.out.1 HI.out.2.1 HI.out.2.2.1 HI.out.2.2.2 rfl (by omega) _ kk (spC (fun i => spW r t (spS a b i)) kk) rfl HOq.out ⟨w9.heap.size + 1, 0, none⟩ 1 1 [.int .i64 (spW r t x).1, .int .i64 (spW r t x).2] rfl rfl HNW.out spn_one (by unfold maxLen; omega) (by omega) HSZ.out ?_; intro v10 w10 hown hgrow hnil; clear hnil; rw [HNX.out] at hown; have HO10 := Lib.hid hown; have HB10 := Lib.hid (grow_blU HBq.out hgrow HOq.out (Nat.le_refl _)); clear hown hgrow)
          go_roundw
          case rel => exact ⟨kk + 1, by omega, by go_num, HO10.out, HB10.out⟩
          case measure => simp [RowKit.intOf]; omega
      · obtain rfl : kk = 2 := by omega
        have x0 := kcb hZ HX.out.1
        have x1 := kcb hZ HX.out.2
        have lzx := ltb x0
        have HA := Lib.hid (HA.out.below hZ)
        have HB := Lib.hid (HB.out.below hZ)
        have HWR := Lib.hid (HB3.out.tr hZ)
        obtain ⟨g, cap, hv12, hg, g0, g1, g2, g3⟩ := spn_two HO.out
        subst hv12
        clear hZ
        go_wp2_with fail
        refine (error_any (some ⟨w.heap.size + 1 + 1, 0, none⟩) 2 2 (spR r) (some ⟨w.heap.size + 1 + 1 + 1, 0, none⟩) 2 2 (spS a b) 1 t wr HA.out HB.out (by decide) (by decide)).mono ?_
        rintro e w6 ⟨ex, ey, ek, rfl, her, hb⟩
        have HER := Lib.hid her
        have HB6 := Lib.hid (HWR.out.tr hb)
        have HO6 := Lib.hid (And.intro (kcb hb g0) (And.intro (kcb hb g1) (And.intro (kcb hb g2) (kcb hb g3))))
        clear her hb x0 x1 lzx g0 g1 g2 g3
        rw [show spnV ex ey ek = .tuple #[.agg #[.int .i64 ex, .int .i64 ey], .int .i64 ek] from rfl]
        obtain ⟨p0, hp0⟩ : ∃ p, p = (spW r t (spS a b 0)).1 := ⟨_, rfl⟩
        obtain ⟨p1, hp1⟩ : ∃ p, p = (spW r t (spS a b 0)).2 := ⟨_, rfl⟩
        obtain ⟨u0, hu0⟩ : ∃ p, p = (spW r t (spS a b 1)).1 := ⟨_, rfl⟩
        obtain ⟨u1, hu1⟩ : ∃ p, p = (spW r t (spS a b 1)).2 := ⟨_, rfl⟩
        have HG := Lib.hid (show w6.cell? ⟨g, 0, none⟩ = some (.int .i64 p0) ∧ w6.cell? ⟨g, 1, none⟩ = some (.int .i64 p1) ∧ w6.cell? ⟨g, 2, none⟩ = some (.int .i64 u0) ∧ w6.cell? ⟨g, 3, none⟩ = some (.int .i64 u1) from by rw [hp0, hp1, hu0, hu1]; exact HO6.out)
        clear HO6
        cases ok with
        | false =>
          have hno : ¬ NoC (spR r) (spS a b) 2 := fun h => by have := HOK.out; rw [noB_true h] at this; cases this
          obtain rfl := spans_bad HVN.out hno ⟨by omega, by omega⟩ HER.out
          clear hno HG hp0 hp1 hu0 hu1
          go_wp2_with fail
          refine (awake5_any _).mono ?_
          rintro ea wa ⟨rfl, ha⟩
          go_wp2_with fail
          go_ret
          exact ⟨rfl, (HB6.out.tr (bl_alS _ _)).tr ha⟩
        | true =>
          have hno : NoC (spR r) (spS a b) 2 := Classical.byContradiction fun h => by have := HOK.out; rw [noB_false h] at this; cases this
          obtain ⟨h1, h2, rfl, h3⟩ := spans_err HVN.out hno ⟨by omega, by omega⟩ HER.out
          rw [spD_crb, spD_crb] at h1 h2
          have k1 : ex = max p0 u0 := by rw [h1, hp0, hu0]; rfl
          have k2 : ey = min p1 u1 := by rw [h2, hp1, hu1]; rfl
          have HMT := Lib.hid (fun (W : World) => show Calls Try.prog 12 #[.agg #[.int .i64 p0, .int .i64 p1], .agg #[.int .i64 u0, .int .i64 u1]] W fun e w' => e = .returned (.tuple #[.agg #[.int .i64 ex, .int .i64 ey], .int .i64 0]) ∧ Bl W w' from by
            have h := meet_any p0 p1 u0 u1 W
            have q1 : vS p0 p1 = true := by rw [hp0, hp1]; exact (HF.out 0 (by omega)).2.1
            have q2 : vS u0 u1 = true := by rw [hu0, hu1]; exact (HF.out 1 (by omega)).2.1
            rw [show meetF p0 p1 u0 u1 = (ex, ey, 0) from by unfold meetF; rw [q1, q2, if_pos (show (true && true) = true from rfl), if_neg (by omega), k1, k2]] at h
            exact h)
          clear hno h1 h2 h3 k1 k2 hp0 hp1 hu0 hu1
          obtain ⟨X, hX⟩ : ∃ X, X = w6.alloc (Obj.cells #[.int .i64 ex, .int .i64 ey] 35) := ⟨_, rfl⟩
          have BX : Bl w6 X := by rw [hX]; exact bl_alS _ _
          have e0 : X.cell? ⟨w6.heap.size, 0, none⟩ = some (.int .i64 ex) := by rw [hX]; go_cell
          have e1 : X.cell? ⟨w6.heap.size, 1, none⟩ = some (.int .i64 ey) := by rw [hX]; go_cell
          have g0 := kcb BX HG.out.1
          have g1 := kcb BX HG.out.2.1
          have g2 := kcb BX HG.out.2.2.1
          have g3 := kcb BX HG.out.2.2.2
          have hgX : g < X.heap.size := ltb g0
          have HBX := Lib.hid (HB6.out.tr BX)
          go_wp2_with fail
          rw [← hX]
          clear hX BX HG
          refine wp_region_noPanic ?_
          refine wp_region_held_drew (S := fun w' => Bl X w' ∧ w'.cell? ⟨g, 0, none⟩ = some (.int .i64 p0) ∧ w'.cell? ⟨g, 1, none⟩ = some (.int .i64 p1) ∧ w'.cell? ⟨g, 2, none⟩ = some (.int .i64 u0) ∧ w'.cell? ⟨g, 3, none⟩ = some (.int .i64 u1)) (by kernel_rfl) (⟨bl_drS _, kcb (bl_drS _) g0, kcb (bl_drS _) g1, kcb (bl_drS _) g2, kcb (bl_drS _) g3⟩) (fun hH => ?_)
          refine wpAnyH_take (i := 0) (oi := ({ dst := some 118, op := Go.Op.move (Go.Operand.tmp 12), type := 33, pos := "top05.go:59", after := #[], guard := none } : Oper)) (v := ?_) rfl (by kernel_rfl) (by kernel_rfl) (by kernel_rfl) (fun _ _ _ h => h) (Or.inl ⟨by rfl, ?_⟩) hH ?_
          rotate_left
          · intro w hSw; (try dsimp only at hSw); go_simp; try with_reducible rfl
          try simp only [Act.put, List.setIfInBounds_toArray, List.set_cons_zero, List.set_cons_succ]
          refine wpAnyH_take (i := 1) (oi := ({ dst := some 119, op := Go.Op.indexAddr 33 (Go.Operand.tmp 118) (Go.Operand.const (Go.Value.int Go.IntKind.i64 0)), type := 0, pos := "top05.go:59", after := #[{ on := 0, ground := Go.Ground.data }], guard := none } : Oper)) (v := ?_) rfl (by kernel_rfl) (by kernel_rfl) (by kernel_rfl) (fun _ _ _ h => h) (Or.inl ⟨by rfl, ?_⟩) hH ?_
          rotate_left
          · intro w hSw; (try dsimp only at hSw); go_simp; try with_reducible rfl
          try simp only [Act.put, List.setIfInBounds_toArray, List.set_cons_zero, List.set_cons_succ]
          refine wpAnyH_take (i := 2) (oi := ({ dst := some 120, op := Go.Op.load 35 (Go.Operand.tmp 119), type := 35, pos := "top05.go:59", after := #[{ on := 1, ground := Go.Ground.data }], guard := none } : Oper)) (v := ?_) rfl (by kernel_rfl) (by kernel_rfl) (by kernel_rfl) (fun _ _ _ h => h) (Or.inl ⟨by rfl, ?_⟩) hH ?_
          rotate_left
          · intro w hSw; (try dsimp only at hSw); go_simp; try with_reducible rfl
          try simp only [Act.put, List.setIfInBounds_toArray, List.set_cons_zero, List.set_cons_succ]
          refine wpAnyH_take (i := 3) (oi := ({ dst := some 121, op := Go.Op.move (Go.Operand.tmp 12), type := 33, pos := "top05.go:59", after := #[], guard := none } : Oper)) (v := ?_) rfl (by kernel_rfl) (by kernel_rfl) (by kernel_rfl) (fun _ _ _ h => h) (Or.inl ⟨by rfl, ?_⟩) hH ?_
          rotate_left
          · intro w hSw; (try dsimp only at hSw); go_simp; try with_reducible rfl
          try simp only [Act.put, List.setIfInBounds_toArray, List.set_cons_zero, List.set_cons_succ]
          refine wpAnyH_take (i := 4) (oi := ({ dst := some 122, op := Go.Op.indexAddr 33 (Go.Operand.tmp 121) (Go.Operand.const (Go.Value.int Go.IntKind.i64 1)), type := 0, pos := "top05.go:59", after := #[{ on := 3, ground := Go.Ground.data }], guard := none } : Oper)) (v := ?_) rfl (by kernel_rfl) (by kernel_rfl) (by kernel_rfl) (fun _ _ _ h => h) (Or.inl ⟨by rfl, ?_⟩) hH ?_
          rotate_left
          · intro w hSw; (try dsimp only at hSw); go_simp; try with_reducible rfl
          try simp only [Act.put, List.setIfInBounds_toArray, List.set_cons_zero, List.set_cons_succ]
          refine wpAnyH_take (i := 5) (oi := ({ dst := some 123, op := Go.Op.load 35 (Go.Operand.tmp 122), type := 35, pos := "top05.go:59", after := #[{ on := 4, ground := Go.Ground.data }], guard := none } : Oper)) (v := ?_) rfl (by kernel_rfl) (by kernel_rfl) (by kernel_rfl) (fun _ _ _ h => h) (Or.inl ⟨by rfl, ?_⟩) hH ?_
          rotate_left
          · intro w hSw; (try dsimp only at hSw); go_simp; try with_reducible rfl
          try simp only [Act.put, List.setIfInBounds_toArray, List.set_cons_zero, List.set_cons_succ]
          refine wpAnyH_ready (rs := [6, 10]) (by kernel_rfl) (by simp) ?_
          refine AllReadyH.cons (o := ({ dst := some 124, op := Go.Op.call { callee := Go.Callee.value (Go.Operand.func 12), args := #[Go.Operand.tmp 120, Go.Operand.tmp 123], argTypes := #[35, 35] }, type := 36, pos := "top05.go:59", after := #[{ on := 2, ground := Go.Ground.data }, { on := 5, ground := Go.Ground.data }], guard := none } : Oper)) rfl (fun K hK => ?_) (AllReadyH.cons (o := ({ dst := some 22, op := Go.Op.alloc 35, type := 0, pos := "top05.go:59", after := #[], guard := none } : Oper)) rfl (fun K hK => ?_) AllReadyH.nil)
          · go_simp
            go_at_call 12
            refine (HMT.out _).mono ?_
            rintro e9 w9 ⟨rfl, hb⟩
            refine hK.out _ _ ⟨hH.1.tr hb, kcb hb hH.2.1, kcb hb hH.2.2.1, kcb hb hH.2.2.2.1, kcb hb hH.2.2.2.2⟩ (fun hH' => ?_)
            clear hH
            have hH := hH'
            clear hH' hK K
            try simp only [Act.put, List.setIfInBounds_toArray, List.set_cons_zero, List.set_cons_succ]
            refine wpAnyH_take (i := 7) (oi := ({ dst := some 117, op := Go.Op.move (Go.Operand.tmp 124), type := 36, pos := "top05.go:59", after := #[{ on := 6, ground := Go.Ground.data }], guard := none } : Oper)) (v := ?_) rfl (by kernel_rfl) (by kernel_rfl) (by kernel_rfl) (fun _ _ _ h => h) (Or.inl ⟨by rfl, ?_⟩) hH ?_
            rotate_left
            · intro w hSw; (try dsimp only at hSw); go_simp; try with_reducible rfl
            try simp only [Act.put, List.setIfInBounds_toArray, List.set_cons_zero, List.set_cons_succ]
            refine wpAnyH_take (i := 8) (oi := ({ dst := some 125, op := Go.Op.extract (Go.Operand.tmp 117) 0, type := 35, pos := "top05.go:59", after := #[{ on := 7, ground := Go.Ground.data }], guard := none } : Oper)) (v := ?_) rfl (by kernel_rfl) (by kernel_rfl) (by kernel_rfl) (fun _ _ _ h => h) (Or.inl ⟨by rfl, ?_⟩) hH ?_
            rotate_left
            · intro w hSw; (try dsimp only at hSw); go_simp; try with_reducible rfl
            try simp only [Act.put, List.setIfInBounds_toArray, List.set_cons_zero, List.set_cons_succ]
            refine wpAnyH_take (i := 9) (oi := ({ dst := some 126, op := Go.Op.extract (Go.Operand.tmp 117) 1, type := 30, pos := "top05.go:59", after := #[{ on := 7, ground := Go.Ground.data }, { on := 11, ground := Go.Ground.gcOnly Go.Departure.lateStores }], guard := none } : Oper)) (v := ?_) rfl (by kernel_rfl) (by kernel_rfl) (by kernel_rfl) (fun _ _ _ h => h) (Or.inl ⟨by rfl, ?_⟩) hH ?_
            rotate_left
            · intro w hSw; (try dsimp only at hSw); go_simp; try with_reducible rfl
            try simp only [Act.put, List.setIfInBounds_toArray, List.set_cons_zero, List.set_cons_succ]
            refine wpAnyH_ready (rs := [10]) (by kernel_rfl) (by simp) ?_
            refine AllReadyH.cons (o := ({ dst := some 22, op := Go.Op.alloc 35, type := 0, pos := "top05.go:59", after := #[], guard := none } : Oper)) rfl (fun K hK => ?_) AllReadyH.nil
            go_simp
            have BA := bl_alS w9 (Obj.cells #[.int .i64 0, .int .i64 0] 35)
            refine hK.out _ _ ⟨hH.1.tr BA, kcb BA hH.2.1, kcb BA hH.2.2.1, kcb BA hH.2.2.2.1, kcb BA hH.2.2.2.2⟩ (fun hH' => ?_)
            clear hH
            have hH := hH'
            clear hH' hK K
            try simp only [Act.put, List.setIfInBounds_toArray, List.set_cons_zero, List.set_cons_succ]
            obtain ⟨V, hV⟩ : ∃ V, V = w9.alloc (Obj.cells #[.int .i64 0, .int .i64 0] 35) := ⟨_, rfl⟩
            have z0 : V.cell? ⟨w9.heap.size, 0, none⟩ = some (.int .i64 0) := by rw [hV]; go_cell
            have z1 : V.cell? ⟨w9.heap.size, 1, none⟩ = some (.int .i64 0) := by rw [hV]; go_cell
            have f0 : V.frozen? ⟨w9.heap.size, 0, none⟩ = false := by rw [hV]; go_cell
            have f1 : V.frozen? ⟨w9.heap.size, 1, none⟩ = false := by rw [hV]; go_cell
            rw [← hV] at hH ⊢
            have lz := ltb z0
            have lg9 : g < w9.heap.size := Nat.lt_of_lt_of_le hgX hb.size
            have lX9 : X.heap.size ≤ w9.heap.size := hb.size
            clear hV BA hb
            refine wpAnyH_ready (rs := [11]) (by kernel_rfl) (by simp) ?_
            refine AllReadyH.cons (o := ({ dst := none, op := Go.Op.store 35 (Go.Operand.tmp 22) (Go.Operand.tmp 125), type := 0, pos := "top05.go:59", after := #[{ on := 10, ground := Go.Ground.data }, { on := 8, ground := Go.Ground.data }, { on := 6, ground := Go.Ground.chain }, { on := 0, ground := Go.Ground.phase }, { on := 1, ground := Go.Ground.phase }, { on := 2, ground := Go.Ground.phase }, { on := 3, ground := Go.Ground.phase }, { on := 4, ground := Go.Ground.phase }, { on := 5, ground := Go.Ground.phase }, { on := 6, ground := Go.Ground.phase }, { on := 7, ground := Go.Ground.phase }, { on := 8, ground := Go.Ground.phase }, { on := 9, ground := Go.Ground.textOnly Go.Departure.lateStores }, { on := 10, ground := Go.Ground.phase }], guard := none } : Oper)) rfl (fun K hK => ?_) AllReadyH.nil
            go_simp
            refine hK.out _ _ ⟨bl_set (bl_set hH.1 lX9) lX9, cell_setO (cell_setO hH.2.1 (by omega)) (by omega), cell_setO (cell_setO hH.2.2.1 (by omega)) (by omega), cell_setO (cell_setO hH.2.2.2.1 (by omega)) (by omega), cell_setO (cell_setO hH.2.2.2.2 (by omega)) (by omega)⟩ (fun hH' => ?_)
            clear hH
            have hH := hH'
            clear hH' hK K
            try simp only [Act.put, List.setIfInBounds_toArray, List.set_cons_zero, List.set_cons_succ]
            refine wpAnyH_take (i := 12) (oi := ({ dst := some 23, op := Go.Op.assign (Go.Operand.tmp 126), type := 30, pos := "top05.go:59", after := #[{ on := 9, ground := Go.Ground.data }, { on := 11, ground := Go.Ground.chain }, { on := 0, ground := Go.Ground.phase }, { on := 1, ground := Go.Ground.phase }, { on := 2, ground := Go.Ground.phase }, { on := 3, ground := Go.Ground.phase }, { on := 4, ground := Go.Ground.phase }, { on := 5, ground := Go.Ground.phase }, { on := 6, ground := Go.Ground.phase }, { on := 7, ground := Go.Ground.phase }, { on := 8, ground := Go.Ground.phase }, { on := 9, ground := Go.Ground.phase }, { on := 10, ground := Go.Ground.phase }, { on := 11, ground := Go.Ground.phase }], guard := none } : Oper)) (v := ?_) rfl (by kernel_rfl) (by kernel_rfl) (by kernel_rfl) (fun _ _ _ h => h) (Or.inl ⟨by rfl, ?_⟩) hH ?_
            rotate_left
            · intro w hSw; (try dsimp only at hSw); go_simp; try with_reducible rfl
            try simp only [Act.put, List.setIfInBounds_toArray, List.set_cons_zero, List.set_cons_succ]
            refine wpAnyH_done (by kernel_rfl) ?_ _
            refine NoPanic.normal ?_
            obtain ⟨Y, hY⟩ : ∃ Y, Y = (V.setCell ⟨w9.heap.size, 0, none⟩ (.int .i64 ex)).setCell ⟨w9.heap.size, 1, none⟩ (.int .i64 ey) := ⟨_, rfl⟩
            have m0 : Y.cell? ⟨w9.heap.size, 0, none⟩ = some (.int .i64 ex) := by rw [hY]; exact put_0U z0 _ _
            have m1 : Y.cell? ⟨w9.heap.size, 1, none⟩ = some (.int .i64 ey) := by rw [hY]; exact put_1U z0 z1 _ _
            rw [← hY] at hH ⊢
            have HBY := Lib.hid (HBX.out.tr hH.1)
            have n0 := kcb hH.1 e0
            have n1 := kcb hH.1 e1
            clear hY hH z0 z1
            go_wp2_with fail
            refine (awake5_any _).mono ?_
            rintro ea wa ⟨rfl, ha⟩
            go_wp2_with fail
            go_ret
            exact ⟨rfl, HBY.out.tr ha⟩
          · go_simp
            have BA := Bl.tr (bl_alS X (Obj.cells #[.int .i64 0, .int .i64 0] 35)) (bl_drS _)
            have z0 : (X.alloc (Obj.cells #[.int .i64 0, .int .i64 0] 35)).drew.cell? ⟨X.heap.size, 0, none⟩ = some (.int .i64 0) := kcb (bl_drS _) (by go_cell)
            have z1 : (X.alloc (Obj.cells #[.int .i64 0, .int .i64 0] 35)).drew.cell? ⟨X.heap.size, 1, none⟩ = some (.int .i64 0) := kcb (bl_drS _) (by go_cell)
            have f0 : (X.alloc (Obj.cells #[.int .i64 0, .int .i64 0] 35)).drew.frozen? ⟨X.heap.size, 0, none⟩ = false := fzb (bl_drS _) (by go_cell) (by simp)
            have f1 : (X.alloc (Obj.cells #[.int .i64 0, .int .i64 0] 35)).drew.frozen? ⟨X.heap.size, 1, none⟩ = false := fzb (bl_drS _) (by go_cell) (by simp)
            refine hK.out _ _ ⟨BA, kcb BA g0, kcb BA g1, kcb BA g2, kcb BA g3⟩ (fun hH' => ?_)
            clear hH
            have hH := hH'
            clear hH' hK K
            try simp only [Act.put, List.setIfInBounds_toArray, List.set_cons_zero, List.set_cons_succ]
            refine wpAnyH_ready (rs := [6]) (by kernel_rfl) (by simp) ?_
            refine AllReadyH.cons (o := ({ dst := some 124, op := Go.Op.call { callee := Go.Callee.value (Go.Operand.func 12), args := #[Go.Operand.tmp 120, Go.Operand.tmp 123], argTypes := #[35, 35] }, type := 36, pos := "top05.go:59", after := #[{ on := 2, ground := Go.Ground.data }, { on := 5, ground := Go.Ground.data }], guard := none } : Oper)) rfl (fun K hK => ?_) AllReadyH.nil
            go_simp
            go_at_call 12
            refine (HMT.out _).mono ?_
            rintro e9 w9 ⟨rfl, hb⟩
            replace f0 := fzb hb f0 (ltb z0)
            replace f1 := fzb hb f1 (ltb z0)
            replace z0 := kcb hb z0
            replace z1 := kcb hb z1
            refine hK.out _ _ ⟨hH.1.tr hb, kcb hb hH.2.1, kcb hb hH.2.2.1, kcb hb hH.2.2.2.1, kcb hb hH.2.2.2.2⟩ (fun hH' => ?_)
            clear hH
            have hH := hH'
            clear hH' hK K
            try simp only [Act.put, List.setIfInBounds_toArray, List.set_cons_zero, List.set_cons_succ]
            refine wpAnyH_take (i := 7) (oi := ({ dst := some 117, op := Go.Op.move (Go.Operand.tmp 124), type := 36, pos := "top05.go:59", after := #[{ on := 6, ground := Go.Ground.data }], guard := none } : Oper)) (v := ?_) rfl (by kernel_rfl) (by kernel_rfl) (by kernel_rfl) (fun _ _ _ h => h) (Or.inl ⟨by rfl, ?_⟩) hH ?_
            rotate_left
            · intro w hSw; (try dsimp only at hSw); go_simp; try with_reducible rfl
            try simp only [Act.put, List.setIfInBounds_toArray, List.set_cons_zero, List.set_cons_succ]
            refine wpAnyH_take (i := 8) (oi := ({ dst := some 125, op := Go.Op.extract (Go.Operand.tmp 117) 0, type := 35, pos := "top05.go:59", after := #[{ on := 7, ground := Go.Ground.data }], guard := none } : Oper)) (v := ?_) rfl (by kernel_rfl) (by kernel_rfl) (by kernel_rfl) (fun _ _ _ h => h) (Or.inl ⟨by rfl, ?_⟩) hH ?_
            rotate_left
            · intro w hSw; (try dsimp only at hSw); go_simp; try with_reducible rfl
            try simp only [Act.put, List.setIfInBounds_toArray, List.set_cons_zero, List.set_cons_succ]
            refine wpAnyH_take (i := 9) (oi := ({ dst := some 126, op := Go.Op.extract (Go.Operand.tmp 117) 1, type := 30, pos := "top05.go:59", after := #[{ on := 7, ground := Go.Ground.data }, { on := 11, ground := Go.Ground.gcOnly Go.Departure.lateStores }], guard := none } : Oper)) (v := ?_) rfl (by kernel_rfl) (by kernel_rfl) (by kernel_rfl) (fun _ _ _ h => h) (Or.inl ⟨by rfl, ?_⟩) hH ?_
            rotate_left
            · intro w hSw; (try dsimp only at hSw); go_simp; try with_reducible rfl
            try simp only [Act.put, List.setIfInBounds_toArray, List.set_cons_zero, List.set_cons_succ]
            have lz := ltb z0
            clear hb BA
            refine wpAnyH_ready (rs := [11]) (by kernel_rfl) (by simp) ?_
            refine AllReadyH.cons (o := ({ dst := none, op := Go.Op.store 35 (Go.Operand.tmp 22) (Go.Operand.tmp 125), type := 0, pos := "top05.go:59", after := #[{ on := 10, ground := Go.Ground.data }, { on := 8, ground := Go.Ground.data }, { on := 6, ground := Go.Ground.chain }, { on := 0, ground := Go.Ground.phase }, { on := 1, ground := Go.Ground.phase }, { on := 2, ground := Go.Ground.phase }, { on := 3, ground := Go.Ground.phase }, { on := 4, ground := Go.Ground.phase }, { on := 5, ground := Go.Ground.phase }, { on := 6, ground := Go.Ground.phase }, { on := 7, ground := Go.Ground.phase }, { on := 8, ground := Go.Ground.phase }, { on := 9, ground := Go.Ground.textOnly Go.Departure.lateStores }, { on := 10, ground := Go.Ground.phase }], guard := none } : Oper)) rfl (fun K hK => ?_) AllReadyH.nil
            go_simp
            refine hK.out _ _ ⟨bl_set (bl_set hH.1 (Nat.le_refl _)) (Nat.le_refl _), cell_setO (cell_setO hH.2.1 (by omega)) (by omega), cell_setO (cell_setO hH.2.2.1 (by omega)) (by omega), cell_setO (cell_setO hH.2.2.2.1 (by omega)) (by omega), cell_setO (cell_setO hH.2.2.2.2 (by omega)) (by omega)⟩ (fun hH' => ?_)
            clear hH
            have hH := hH'
            clear hH' hK K
            try simp only [Act.put, List.setIfInBounds_toArray, List.set_cons_zero, List.set_cons_succ]
            refine wpAnyH_take (i := 12) (oi := ({ dst := some 23, op := Go.Op.assign (Go.Operand.tmp 126), type := 30, pos := "top05.go:59", after := #[{ on := 9, ground := Go.Ground.data }, { on := 11, ground := Go.Ground.chain }, { on := 0, ground := Go.Ground.phase }, { on := 1, ground := Go.Ground.phase }, { on := 2, ground := Go.Ground.phase }, { on := 3, ground := Go.Ground.phase }, { on := 4, ground := Go.Ground.phase }, { on := 5, ground := Go.Ground.phase }, { on := 6, ground := Go.Ground.phase }, { on := 7, ground := Go.Ground.phase }, { on := 8, ground := Go.Ground.phase }, { on := 9, ground := Go.Ground.phase }, { on := 10, ground := Go.Ground.phase }, { on := 11, ground := Go.Ground.phase }], guard := none } : Oper)) (v := ?_) rfl (by kernel_rfl) (by kernel_rfl) (by kernel_rfl) (fun _ _ _ h => h) (Or.inl ⟨by rfl, ?_⟩) hH ?_
            rotate_left
            · intro w hSw; (try dsimp only at hSw); go_simp; try with_reducible rfl
            try simp only [Act.put, List.setIfInBounds_toArray, List.set_cons_zero, List.set_cons_succ]
            refine wpAnyH_done (by kernel_rfl) ?_ _
            refine NoPanic.normal ?_
            obtain ⟨Y, hY⟩ : ∃ Y, Y = (w9.setCell ⟨X.heap.size, 0, none⟩ (.int .i64 ex)).setCell ⟨X.heap.size, 1, none⟩ (.int .i64 ey) := ⟨_, rfl⟩
            have m0 : Y.cell? ⟨X.heap.size, 0, none⟩ = some (.int .i64 ex) := by rw [hY]; exact put_0U z0 _ _
            have m1 : Y.cell? ⟨X.heap.size, 1, none⟩ = some (.int .i64 ey) := by rw [hY]; exact put_1U z0 z1 _ _
            rw [← hY] at hH ⊢
            have HBY := Lib.hid (HBX.out.tr hH.1)
            have n0 := kcb hH.1 e0
            have n1 := kcb hH.1 e1
            clear hY hH z0 z1
            go_wp2_with fail
            refine (awake5_any _).mono ?_
            rintro ea wa ⟨rfl, ha⟩
            go_wp2_with fail
            go_ret
            exact ⟨rfl, HBY.out.tr ha⟩
end Go.Proofs.Ytchikfegpoonjaa
