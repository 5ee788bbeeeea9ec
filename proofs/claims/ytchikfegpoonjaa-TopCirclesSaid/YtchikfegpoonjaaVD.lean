/-
  TopCircles: the walk.
-/
import Derived.Test.YtchikfegpoonjaaVB
import Derived.Test.YtchikfegpoonjaaVC
import Derived.Test.YtchikfegpoonjaaUT
import Derived.Test.YtchikfegpoonjaaUE
namespace Go.Proofs.Ytchikfegpoonjaa
open Go.RowKit Go.Maps
set_option linter.unusedSimpArgs false
set_option linter.unusedVariables false

theorem sameInts_no (A : Option Addr) (n c : Nat) (w : World) (hn : 1 ≤ n) :
    Calls Try.prog 15 #[.slice A n c, .slice none 0 0] w fun e w' => e = .returned (.bool false) ∧ Bl w w' := by
  have q0 : ((n : Int) != 0) = true := by simp; omega
  go_enter Try.func15, Try.ntmps15
  go_wp2_with fail
  go_ret
  exact ⟨rfl, by go_grown⟩
theorem int_infoUV : (Try.prog.info? 3).map (fun i => (i.zero, i.size, i.bytes)) = some (some (.int .i64 0), 1, 8) := by kernel_rfl
theorem rg_newsV {w : World} {ad : Addr} {n : Nat} {R : Nat → Int} (h : Sl w (some ad) n R) : ∀ j u, (rgC R n)[j]? = some u → w.cell? (ad.add j) = some u := fun j u hu => by
  have hj : j < n := by have := (List.getElem?_eq_some_iff.1 hu).1; simpa [rgC] using this
  obtain ⟨b', off', e, _, hc⟩ := h (by omega)
  obtain rfl : ad = ⟨b', off', none⟩ := Option.some.inj e
  rw [show (⟨b', off', none⟩ : Addr).add j = ⟨b', off' + j, none⟩ by unfold Addr.add; split <;> simp_all, hc j hj]
  simp [rgC, hj] at hu
  rw [hu]
theorem rg_oneV (R : Nat → Int) (n : Nat) : ∀ u ∈ rgC R n, u.oneCell' = true := fun u hu => by
  obtain ⟨x, _, rfl⟩ := List.mem_map.1 hu
  rfl
theorem cell_set1UV {Y : World} {b : Nat} {v u : Value} (h : Y.cell? ⟨b, 0, none⟩ = some u) (_ : 0 < 1) : (Y.setCell ⟨b, 1, none⟩ v).cell? ⟨b, 0, none⟩ = some u := by go_cell
theorem step_ownS {P : Program} {w : World} {ops : Array Oper} {o : Oper} {a : Act} {K : Act → World → Prop} {Q : Exit → Act → World → Prop} {E : Prop} (hgd : o.guard = none) (s x : Operand) (t : TypeId)
    (ho : o.op = .call { callee := .builtin .append, args := #[s, x], argTypes := #[t, t] })
    (base : Nat) (e : TypeId) (i : TypeInfo) (z : Value) (size bytes : Nat) (ht : P.underlying t = some (.slice e)) (hi : P.info? e = some i) (hz : i.zero = some z)
    (hsize : i.size = size) (hby : i.bytes = bytes) (hzs : z.cells.size = size) (hsz : 0 < size)
    (v : Value) (n : Nat) (xs : List Value) (hs : a.eval s = v) (hown : w.ownsRow base e size v n xs)
    (ad : Addr) (m c : Nat) (news : List Value) (hx : a.eval x = .slice (some ad) m c) (hl : news.length = m * size) (hnews : ∀ j u, news[j]? = some u → w.cell? (ad.add j) = some u) (h1 : ∀ u ∈ news, u.oneCell' = true)
    (h63 : n + m ≤ maxLen) (hbytes : (n + m) * bytes ≤ 140737488355328) (hbase : base ≤ w.heap.size)
    (h : ∀ v' w', w'.ownsRow base e size v' (n + m) (xs ++ news) → w.grownBy w' v.ownBlock → (v' = .slice none 0 0 ↔ v = .slice none 0 0 ∧ m = 0) → K (a.put o.dst v') w') :
    if Region.wanted o (yielded ops a.tmps) = true then Oper.wp P o a w K Q else E := by
  have hw : Region.wanted o (yielded ops a.tmps) = true := by simp [Region.wanted, hgd]
  rw [if_pos hw]
  exact wp_append_own w s x t ho base e i z size bytes ht hi hz hsize hby hzs hsz v n xs hs hown ad m c news hx hl hnews h1 h63 hbytes hbase h
set_option maxRecDepth 100000 in
set_option maxHeartbeats 12800000 in
theorem circles_walk (A : Option Addr) (n c : Nat) (R : Nat → Int) (B : Option Addr) (m d : Nat) (S : Nat → Sgt) (w : World) (hA : Sl w A n R) (hB : Sgl w B m S) (hn : n ≤ c ∧ c ≤ maxLen) (hm : m ≤ d ∧ d ≤ maxLen) :
    Calls Try.prog 4 #[encN A n c B m d] w fun e w' => e = .returned (.bool true) ∧ Bl w w' := by
  have hn := Nat.le_trans hn.1 hn.2
  have hm := Nat.le_trans hm.1 hm.2
  have HCF := Lib.hid (fun (W : World) (hW : Bl w W) => conflict_call A n c R B m d S W (hA.below hW) (hB.below hW) hn hm)
  have HA := Lib.hid hA
  have HB := Lib.hid hB
  clear hA hB hn hm
  go_enter Try.func4, Try.ntmps4
  go_wp2_with fail
  obtain ⟨Z1, hZ⟩ : ∃ Z, Z = (w.alloc (Obj.cells #[.slice A n c, .slice B m d] 27)) := ⟨_, rfl⟩
  have bz : Bl w Z1 := by rw [hZ]; exact bl_alS _ _
  have x0 : Z1.cell? ⟨w.heap.size, 0, none⟩ = some (.slice A n c) := by rw [hZ]; go_cell
  have x1 : Z1.cell? ⟨w.heap.size, 1, none⟩ = some (.slice B m d) := by rw [hZ]; go_cell
  rw [← hZ]
  have HB1 := Lib.hid (bz)
  clear hZ bz
  have HLI := light_any A n c B m d Z1
  cases hq : ligB n m with
  | false =>
    rw [hq] at HLI
    refine (HLI).mono ?_
    rintro e w2 ⟨rfl, hb⟩
    replace x0 := kcb hb x0
    replace x1 := kcb hb x1
    have HB2 := Lib.hid (HB1.out.tr hb)
    clear hb
    have lz0 := ltb x0
    go_wp2_with fail
    refine (awake5_any _).mono ?_
    rintro ea wa ⟨rfl, ha⟩
    go_wp2_with fail
    go_ret
    exact ⟨rfl, HB2.out.tr ha⟩
  | true =>
    rw [hq] at HLI
    refine (HLI).mono ?_
    rintro e w2 ⟨rfl, hb⟩
    replace x0 := kcb hb x0
    replace x1 := kcb hb x1
    have HB2 := Lib.hid (HB1.out.tr hb)
    clear HLI hq
    clear hb
    have lz0 := ltb x0
    go_wp2_with fail
    have HC := HCF.out _ HB2.out
    cases hv : vnB R n S m with
    | false =>
      simp only [hv, Bool.false_eq_true, if_false] at HC
      refine HC.mono ?_
      rintro e w3 ⟨hb, rfl⟩
      replace x0 := kcb hb x0
      replace x1 := kcb hb x1
      have HB3 := Lib.hid (HB2.out.tr hb)
      clear HC hb hv
      go_wp2_with fail
      refine (awake5_any _).mono ?_
      rintro ea wa ⟨rfl, ha⟩
      go_wp2_with fail
      go_ret
      exact ⟨rfl, HB3.out.tr ha⟩
    | true =>
      simp only [hv, if_true] at HC
      unfold ConP at HC
      refine HC.mono ?_
      rintro e w3 ⟨hb, ⟨_, rfl⟩ | ⟨_, g, k, cap, T, rfl, hg1, _, hk1, hk2, hcc, hpr, hmk⟩⟩
      · skip
        replace x0 := kcb hb x0
        replace x1 := kcb hb x1
        have HB3 := Lib.hid (HB2.out.tr hb)
        clear HC hb hv
        go_wp2_with fail
        refine (awake5_any _).mono ?_
        rintro ea wa ⟨rfl, ha⟩
        go_wp2_with fail
        go_ret
        exact ⟨rfl, HB3.out.tr ha⟩
      · skip
        replace x0 := kcb hb x0
        replace x1 := kcb hb x1
        have HB3 := Lib.hid (HB2.out.tr hb)
        have HVN := Lib.hid (vn_iff.1 hv)
        have hmk2 : ∀ i, i < k → (T i).toNat / 2 < m := fun i hi => by have := mkB_iff.1 (hmk i hi); omega
        have HMK := Lib.hid hmk
        have HMK2 := Lib.hid hmk2
        have HPR := Lib.hid hpr
        have HCC := Lib.hid hcc
        have hx2 := HVN.out.n2
        have hx8 := HVN.out.n8
        have hx30 := HVN.out.m30
        obtain ⟨a1, o1, rfl, la1, hc1⟩ := HA.out (by omega)
        clear HC hb hv hmk hmk2 hpr hcc hc1
        obtain ⟨j0, hj0, hy0, hy1, hy2⟩ := info_partsU int_infoUV
        have HJ := Lib.hid (And.intro hj0 (And.intro hy0 (And.intro hy1 hy2)))
        obtain ⟨i0, hi0, hz0, hz1, hz2⟩ := info_partsU sgt_info
        have HI := Lib.hid (And.intro hi0 (And.intro hz0 (And.intro hz1 hz2)))
        clear hi0 hz0 hz1 hz2 hj0 hy0 hy1 hy2
        have lx := ltb x0
        have HO0 := World.ownsRow_lit (base := w3.heap.size) (size := 1) (e := 3) w3 #[] 0 (Nat.le_refl _) (by decide) rfl
        obtain ⟨Q, hQ⟩ : ∃ Q, Q = w3.alloc (Obj.cells #[] 3) := ⟨_, rfl⟩
        have BQ : Bl w3 Q := by rw [hQ]; exact bl_alU _ _
        rw [← hQ] at HO0
        have HOL := Lib.hid HO0
        have HBQ := Lib.hid BQ
        have HRQ := Lib.hid (rg_newsV (HA.out.below (HB3.out.tr BQ)))
        have HSQ := Lib.hid (show w3.heap.size ≤ Q.heap.size from BQ.size)
        clear BQ HO0
        subst hQ
        go_wp2_with (at_builtin; refine wpList_append_own _ rfl _ _ _ rfl w3.heap.size 3 j0 _ 1 8 Try.underlying24 HJ.out.1 HJ.out.2.1 HJ.out.2.2.1 HJ.out.2.2.2 rfl (by omega) _ 0 [] rfl HOL.out ⟨a1, o1, none⟩ n c (rgC R n) rfl (by simp [rgC]) HRQ.out (rg_oneV R n) (by unfold maxLen; omega) (by omega) HSQ.out ?_; intro v8 w8 hown hgrow hnil; clear hnil; have hown2 : w8.ownsRow w3.heap.size 3 1 v8 n (rgC R n) := (by have h := hown; simp only [Nat.zero_add, List.nil_append] at h; exact h); clear hown; obtain ⟨A1, d1, rfl, _, _, hs8⟩ := sl_of_ownU hown2; have hb8 := grow_blU HBQ.out hgrow HOL.out (Nat.le_refl _); have HR8 := Lib.hid hs8; have HB8 := Lib.hid hb8; replace x0 := kcb hb8 x0; replace x1 := kcb hb8 x1; clear hown2 hgrow hs8 hb8; (try simp only [Nat.zero_add]))
        obtain ⟨Z, hZ⟩ : ∃ Z, Z = w8.alloc (Obj.cells #[.slice A1 n d1, .slice none 0 0] 27) := ⟨_, rfl⟩
        have BZ : Bl w8 Z := by rw [hZ]; exact bl_alU _ _
        have y0 : Z.cell? ⟨w8.heap.size, 0, none⟩ = some (.slice A1 n d1) := by rw [hZ]; go_cell
        have y1 : Z.cell? ⟨w8.heap.size, 1, none⟩ = some (.slice none 0 0) := by rw [hZ]; go_cell
        have g1 : Z.frozen? ⟨w8.heap.size, 1, none⟩ = false := by rw [hZ]; go_cell
        have HST := Lib.hid (show Bl w8 Z ∧ Z.cell? ⟨w8.heap.size, 0, none⟩ = some (.slice A1 n d1) ∧ Z.cell? ⟨w8.heap.size, 1, none⟩ = some (.slice none 0 0) ∧ Z.frozen? ⟨w8.heap.size, 1, none⟩ = false from ⟨BZ, y0, y1, g1⟩)
        have HX := Lib.hid (And.intro x0 x1)
        have HLX := Lib.hid (show w.heap.size < w8.heap.size from ltb x0)
        have HLG := Lib.hid (show g < w8.heap.size from Nat.lt_of_lt_of_le hg1 HB8.out.size)
        rw [← hZ]
        clear hZ BZ y0 y1 g1 x0 x1 lx
        go_wp2_with fail
        go_loopw [33, 6] (fun iv v6 wr => ∃ (kk : Nat) (vS : Value), kk ≤ k ∧ iv = .int .i64 kk ∧ Hid (wr.ownsRow (w8.heap.size + 1) 3 1 v6 (whL T kk).length (rgC (whI T kk) (whL T kk).length) ∧ wr.ownsRow (w8.heap.size + 1) 23 5 vS (whL T kk).length (sgC (whS S T kk) (whL T kk).length)) ∧ Bl w8 wr ∧ wr.cell? ⟨w8.heap.size, 0, none⟩ = some (.slice A1 n d1) ∧ wr.cell? ⟨w8.heap.size, 1, none⟩ = some vS ∧ wr.frozen? ⟨w8.heap.size, 1, none⟩ = false) (fun iv _ _ => k - (intOf iv).toNat)
        case atStart => exact ⟨0, _, Nat.zero_le _, rfl, ⟨World.ownsRow_nil _ _ _ _, World.ownsRow_nil _ _ _ _⟩, HST.out⟩
        case round =>
          obtain ⟨kk, vS, hk, rfl, HO, hZ, y0, y1, g1⟩ := hrel
          have HZ := Lib.hid hZ
          have ly := ltb y0
          clear HST
          by_cases hlt : kk < k
          · have x0 := kcb hZ HX.out.1
            have x1 := kcb hZ HX.out.2
            have tk := kcb (HB8.out.tr hZ) (HCC.out kk hlt)
            have hmm := mkB_iff.1 (HMK.out kk hlt)
            have HQM := Lib.hid (HMK2.out kk hlt)
            obtain ⟨q, hq⟩ : ∃ q : Nat, T kk / 2 = (q : Int) := ⟨(T kk).toNat / 2, by omega⟩
            have hqT : (T kk).toNat / 2 = q := by omega
            have hqm : q < m := by omega
            have HQT := Lib.hid hqT
            obtain ⟨b3, o3, hB3, lb3, hc3⟩ := HB.out (by omega)
            subst hB3
            obtain ⟨s0, s1, s2, s3, s4⟩ := hc3 q hqm
            obtain ⟨A6, d6, hv6, hl6, hd6, hs6⟩ := sl_of_ownU HO.out.1
            subst hv6
            obtain ⟨A5, d5, hv5, hl5, hd5, _⟩ := sgl_of_own HO.out.2
            subst hv5
            have HS6 := Lib.hid hs6
            have hlen : (whL T kk).length ≤ 30 := Nat.le_trans (whL_len (fun i hi => HMK2.out i (by omega))) hx30
            have HWW := Lib.hid (show Bl w w8 from HB3.out.tr HB8.out)
            obtain ⟨x, hx⟩ : ∃ x, x = S q := ⟨_, rfl⟩
            rw [← hx] at s0 s1 s2 s3 s4
            have HSX := Lib.hid (And.intro (kcb HWW.out s0) (And.intro (kcb HWW.out s1) (And.intro (kcb HWW.out s2) (And.intro (kcb HWW.out s3) (kcb HWW.out s4)))))
            have HXQ := Lib.hid hx
            obtain ⟨Wo, hWo⟩ : ∃ Wo, Wo = wr := ⟨_, rfl⟩
            subst hWo
            clear hZ hc3 hs6 hqT s0 s1 s2 s3 s4 hx
            go_wp2_with fail
            go_loopw [49, 9] (fun jv v9 wr => ∃ jj : Nat, jj ≤ (whL T kk).length ∧ jv = .int .i64 jj ∧ v9 = .bool (wnB (whL T kk) q jj) ∧ wr = Wo) (fun jv _ _ => (whL T kk).length - (intOf jv).toNat)
            case atStart => exact ⟨0, Nat.zero_le _, rfl, rfl, rfl⟩
            case round =>
              obtain ⟨jj, hj, rfl, rfl, hwu⟩ := hrel
              subst hwu
              by_cases hjl : jj < (whL T kk).length
              · obtain ⟨b6, o6, e6, lb6, hc6⟩ := HS6.out (by omega)
                subst e6
                have cj := hc6 jj hjl
                clear hc6
                have HWN := Lib.hid (show ∀ v, wnB (whL T kk) q jj = v → wnB (whL T kk) q (jj + 1) = (v || whI T kk jj == (q : Int)) from fun v hv => by rw [← hv]; exact (wnB_or (whL T kk) q jj).symm)
                obtain ⟨u, hu⟩ : ∃ u, u = whI T kk jj := ⟨_, rfl⟩
                rw [← hu] at cj HWN
                clear hu
                cases hin : wnB (whL T kk) q jj with
                | true =>
                  have HW1 := Lib.hid (HWN.out _ hin)
                  clear hin
                  go_wp2_with fail
                  go_roundw
                  case rel => exact ⟨jj + 1, by omega, by go_num, by rw [HW1.out]; rfl, trivial⟩
                  case measure => simp [RowKit.intOf]; omega
                | false =>
                  have HW1 := Lib.hid (HWN.out _ hin)
                  clear hin
                  go_wp2_with fail
                  go_roundw
                  case rel => exact ⟨jj + 1, by omega, by go_num, by rw [HW1.out]; rfl, trivial⟩
                  case measure => simp [RowKit.intOf]; omega
              · obtain rfl : jj = (whL T kk).length := by omega
                cases hin : wnB (whL T kk) q (whL T kk).length with
                | true =>
                  have HIN := Lib.hid (show whL T (kk + 1) = whL T kk from wh_old (by rw [HQT.out]; exact wnB_mem.1 hin))
                  clear hin
                  go_wp2_with fail
                  go_roundw
                  case rel =>
                    have e1 : whI T (kk + 1) = whI T kk := funext fun j => by unfold whI; rw [HIN.out]
                    have e2 : whS S T (kk + 1) = whS S T kk := funext fun j => by unfold whS; rw [HIN.out]
                    exact ⟨kk + 1, _, by omega, by go_num, by rw [HIN.out, e1, e2]; exact HO.out, HZ.out, y0, y1, g1⟩
                  case measure => simp [RowKit.intOf]; omega
                | false =>
                  have hni : (T kk).toNat / 2 ∉ whL T kk := by rw [HQT.out]; exact fun h => absurd (wnB_mem.2 h) (by rw [hin]; decide)
                  have HNL := Lib.hid (wh_newlen hni)
                  have HNI := Lib.hid (wh_newI hni)
                  have HNS := Lib.hid (wh_newS (S := S) hni)
                  rw [HQT.out] at HNI HNS
                  rw [← HXQ.out] at HNS
                  clear hin hni
                  obtain ⟨Y, hY⟩ : ∃ Y, Y = wr.alloc (Obj.cells #[.int .i64 (q : Int)] 3) := ⟨_, rfl⟩
                  have BY : Bl wr Y := by rw [hY]; exact bl_alU _ _
                  have n0 : Y.cell? ⟨wr.heap.size, 0, none⟩ = some (.int .i64 (q : Int)) := by rw [hY]; go_cell
                  have HNW := Lib.hid (rg_newsV (w := Y) (ad := ⟨wr.heap.size, 0, none⟩) (n := 1) (R := fun _ => (q : Int)) (fun _ => ⟨_, 0, rfl, ltb n0, fun j hj => by (obtain rfl : j = 0 := (by omega)); exact n0⟩))
                  have HOa := Lib.hid (own_belowU HO.out.1 BY)
                  have HOb := Lib.hid (own_belowU HO.out.2 BY)
                  have HBY := Lib.hid (HZ.out.tr BY)
                  have HSZ := Lib.hid (show w8.heap.size + 1 ≤ Y.heap.size by have := BY.size; omega)
                  have HYY := Lib.hid (show Y.cell? ⟨w8.heap.size, 0, none⟩ = some (.slice A1 n d1) ∧ Y.cell? ⟨w8.heap.size, 1, none⟩ = some (.slice A5 (whL T kk).length d5) ∧ Y.frozen? ⟨w8.heap.size, 1, none⟩ = false from ⟨kcb BY y0, kcb BY y1, fzb BY g1 ly⟩)
                  have HNI2 := Lib.hid (show rgC (whI T kk) (whL T kk).length ++ rgC (fun _ => (q : Int)) 1 = rgC (whI T (kk + 1)) ((whL T kk).length + 1) from HNI.out)
                  clear BY n0 y0 y1 g1 x0 x1 tk
                  subst hY
                  go_wp2_with (at_builtin; refine wpList_append_own _ rfl _ _ _ rfl (w8.heap.size + 1) 3 j0 _ 1 8 Try.underlying24 HJ.out.1 HJ.out.2.1 HJ.out.2.2.1 HJ.out.2.2.2 rfl (by omega) _ (whL T kk).length (rgC (whI T kk) (whL T kk).length) rfl HOa.out ⟨wr.heap.size, 0, none⟩ 1 1 (rgC (fun _ => (q : Int)) 1) rfl (by simp [rgC]) HNW.out (rg_oneV _ 1) (by unfold maxLen; omega) (by omega) HSZ.out ?_; intro v9 w9 hown hgrow hnil; clear hnil; rw [HNI2.out, ← HNL.out] at hown; have y0 := grow_cellU hgrow HOa.out (by omega) HYY.out.1; have y1 := grow_cellU hgrow HOa.out (by omega) HYY.out.2.1; have g1 := grow_fzU hgrow HOa.out (by omega) (ltb HYY.out.1) HYY.out.2.2; have HO9 := Lib.hid hown; have HP9 := Lib.hid (grow_ownU hgrow HOb.out HOa.out (by decide)); have HB9 := Lib.hid (grow_blU HBY.out hgrow HOa.out (by omega)); clear hown hgrow)
                  clear HYY HOa HOb HBY HNW HSZ HNI HNI2
                  have hqw : IntKind.i64.wrap ((T kk).tdiv 2) = (q : Int) := by rw [Int.tdiv_eq_ediv_of_nonneg hmm.1, hq]; exact IntWalk.i64_in _ (by omega)
                  have y1d : w9.drew.cell? ⟨w8.heap.size, 1, none⟩ = some (.slice A5 (whL T kk).length d5) := kcb (bl_drS _) y1
                  have ly9 := ltb y1
                  have lyd : w8.heap.size < w9.drew.heap.size := ly9
                  refine wp_region_noPanic ?_
                  refine wp_region_held_drew (S := fun w' => Bl w8 w' ∧ w'.cell? ⟨w.heap.size, 1, none⟩ = some (.slice (some ⟨b3, o3, none⟩) m d) ∧ w'.cell? ⟨b3, o3 + q * 5, none⟩ = some (.int .i64 x.tm) ∧ w'.cell? ⟨b3, o3 + q * 5 + 1, none⟩ = some (.int .i64 x.ca) ∧ w'.cell? ⟨b3, o3 + q * 5 + 2, none⟩ = some (.int .i64 x.cb) ∧ w'.cell? ⟨b3, o3 + q * 5 + 3, none⟩ = some (.int .i64 x.lo) ∧ w'.cell? ⟨b3, o3 + q * 5 + 4, none⟩ = some (.int .i64 x.hi)) (by kernel_rfl) (show Bl w8 _ ∧ _ from ⟨HB9.out.tr (bl_drS _), kcb (HB9.out.tr (bl_drS _)) HX.out.2, kcb (HB9.out.tr (bl_drS _)) HSX.out.1, kcb (HB9.out.tr (bl_drS _)) HSX.out.2.1, kcb (HB9.out.tr (bl_drS _)) HSX.out.2.2.1, kcb (HB9.out.tr (bl_drS _)) HSX.out.2.2.2.1, kcb (HB9.out.tr (bl_drS _)) HSX.out.2.2.2.2⟩) (fun hH => ?_)
                  refine wpAnyH_take (i := 0) (oi := ({ dst := some 68, op := Go.Op.fieldAddr 27 (Go.Operand.tmp 5) 1, type := 0, pos := "top05.go:220", after := #[], guard := none } : Oper)) (v := ?_) rfl (by kernel_rfl) (by kernel_rfl) (by kernel_rfl) (fun _ _ _ h => h) (Or.inl ⟨by rfl, ?_⟩) hH ?_
                  rotate_left
                  · intro w hSw; (try dsimp only at hSw); go_simp; try with_reducible rfl
                  try simp only [Act.put, List.setIfInBounds_toArray, List.set_cons_zero, List.set_cons_succ]
                  refine wpAnyH_take (i := 2) (oi := ({ dst := some 70, op := Go.Op.fieldAddr 27 (Go.Operand.tmp 1) 1, type := 0, pos := "top05.go:220", after := #[], guard := none } : Oper)) (v := ?_) rfl (by kernel_rfl) (by kernel_rfl) (by kernel_rfl) (fun _ _ _ h => h) (Or.inl ⟨by rfl, ?_⟩) hH ?_
                  rotate_left
                  · intro w hSw; (try dsimp only at hSw); go_simp; try with_reducible rfl
                  try simp only [Act.put, List.setIfInBounds_toArray, List.set_cons_zero, List.set_cons_succ]
                  refine wpAnyH_take (i := 3) (oi := ({ dst := some 71, op := Go.Op.load 25 (Go.Operand.tmp 70), type := 25, pos := "top05.go:220", after := #[{ on := 2, ground := Go.Ground.data }], guard := none } : Oper)) (v := ?_) rfl (by kernel_rfl) (by kernel_rfl) (by kernel_rfl) (fun _ _ _ h => h) (Or.inl ⟨by rfl, ?_⟩) hH ?_
                  rotate_left
                  · intro w hSw; (try dsimp only at hSw); go_simp; try with_reducible rfl
                  try simp only [Act.put, List.setIfInBounds_toArray, List.set_cons_zero, List.set_cons_succ]
                  refine wpAnyH_take (i := 4) (oi := ({ dst := some 72, op := Go.Op.move (Go.Operand.tmp 8), type := 3, pos := "top05.go:220", after := #[], guard := none } : Oper)) (v := ?_) rfl (by kernel_rfl) (by kernel_rfl) (by kernel_rfl) (fun _ _ _ h => h) (Or.inl ⟨by rfl, ?_⟩) hH ?_
                  rotate_left
                  · intro w hSw; (try dsimp only at hSw); go_simp; try with_reducible rfl
                  try simp only [Act.put, List.setIfInBounds_toArray, List.set_cons_zero, List.set_cons_succ]
                  refine wpAnyH_take (i := 5) (oi := ({ dst := some 73, op := Go.Op.binOp Go.BinOp.quo 3 (Go.Operand.tmp 72) (Go.Operand.const (Go.Value.int Go.IntKind.i64 2)) 3, type := 3, pos := "top05.go:220", after := #[{ on := 4, ground := Go.Ground.data }], guard := none } : Oper)) (v := ?_) rfl (by kernel_rfl) (by kernel_rfl) (by kernel_rfl) (fun _ _ _ h => h) (Or.inl ⟨by rfl, ?_⟩) hH ?_
                  rotate_left
                  · intro w hSw; (try dsimp only at hSw); go_simp; try with_reducible rfl
                  try simp only [Act.put, List.setIfInBounds_toArray, List.set_cons_zero, List.set_cons_succ]
                  refine wpAnyH_take (i := 6) (oi := ({ dst := some 74, op := Go.Op.indexAddr 25 (Go.Operand.tmp 71) (Go.Operand.tmp 73), type := 0, pos := "top05.go:220", after := #[{ on := 3, ground := Go.Ground.data }, { on := 5, ground := Go.Ground.data }], guard := none } : Oper)) (v := ?_) rfl (by kernel_rfl) (by kernel_rfl) (by kernel_rfl) (fun _ _ _ h => h) (Or.inl ⟨by rfl, ?_⟩) hH ?_
                  rotate_left
                  · intro w hSw; (try dsimp only at hSw); go_simp; try with_reducible rfl
                  try simp only [Act.put, List.setIfInBounds_toArray, List.set_cons_zero, List.set_cons_succ]
                  refine wpAnyH_take (i := 7) (oi := ({ dst := some 75, op := Go.Op.load 23 (Go.Operand.tmp 74), type := 23, pos := "top05.go:220", after := #[{ on := 6, ground := Go.Ground.data }], guard := none } : Oper)) (v := ?_) rfl (by kernel_rfl) (by kernel_rfl) (by kernel_rfl) (fun _ _ _ h => h) (Or.inl ⟨by rfl, ?_⟩) hH ?_
                  rotate_left
                  · intro w hSw; (try dsimp only at hSw); go_simp; try with_reducible rfl
                  try simp only [Act.put, List.setIfInBounds_toArray, List.set_cons_zero, List.set_cons_succ]
                  refine wpAnyH_ready (rs := [1, 8]) (by kernel_rfl) (by simp) ?_
                  refine AllReadyH.cons (o := ({ dst := some 69, op := Go.Op.load 25 (Go.Operand.tmp 68), type := 25, pos := "top05.go:220", after := #[{ on := 0, ground := Go.Ground.data }], guard := none } : Oper)) rfl (fun K hK => ?_) (AllReadyH.cons (o := ({ dst := some 76, op := Go.Op.buildSlice 25 1 #[(0, Go.Operand.tmp 75)], type := 25, pos := "top05.go:220", after := #[{ on := 7, ground := Go.Ground.data }], guard := none } : Oper)) rfl (fun K hK => ?_) AllReadyH.nil)
                  · go_simp
                    refine hK.out _ _ hH (fun hH' => ?_)
                    clear hH
                    have hH := hH'
                    clear hH' hK K
                    try simp only [Act.put, List.setIfInBounds_toArray, List.set_cons_zero, List.set_cons_succ]
                    refine wpAnyH_ready (rs := [8]) (by kernel_rfl) (by simp) ?_
                    refine AllReadyH.cons (o := ({ dst := some 76, op := Go.Op.buildSlice 25 1 #[(0, Go.Operand.tmp 75)], type := 25, pos := "top05.go:220", after := #[{ on := 7, ground := Go.Ground.data }], guard := none } : Oper)) rfl (fun K hK => ?_) AllReadyH.nil
                    go_simp
                    refine hK.out _ _ ⟨hH.1.tr (bl_alS w9.drew (Obj.cells #[.int .i64 x.tm, .int .i64 x.ca, .int .i64 x.cb, .int .i64 x.lo, .int .i64 x.hi] 23)), kcb (bl_alS w9.drew (Obj.cells #[.int .i64 x.tm, .int .i64 x.ca, .int .i64 x.cb, .int .i64 x.lo, .int .i64 x.hi] 23)) hH.2.1, kcb (bl_alS w9.drew (Obj.cells #[.int .i64 x.tm, .int .i64 x.ca, .int .i64 x.cb, .int .i64 x.lo, .int .i64 x.hi] 23)) hH.2.2.1, kcb (bl_alS w9.drew (Obj.cells #[.int .i64 x.tm, .int .i64 x.ca, .int .i64 x.cb, .int .i64 x.lo, .int .i64 x.hi] 23)) hH.2.2.2.1, kcb (bl_alS w9.drew (Obj.cells #[.int .i64 x.tm, .int .i64 x.ca, .int .i64 x.cb, .int .i64 x.lo, .int .i64 x.hi] 23)) hH.2.2.2.2.1, kcb (bl_alS w9.drew (Obj.cells #[.int .i64 x.tm, .int .i64 x.ca, .int .i64 x.cb, .int .i64 x.lo, .int .i64 x.hi] 23)) hH.2.2.2.2.2.1, kcb (bl_alS w9.drew (Obj.cells #[.int .i64 x.tm, .int .i64 x.ca, .int .i64 x.cb, .int .i64 x.lo, .int .i64 x.hi] 23)) hH.2.2.2.2.2.2⟩ (fun hH' => ?_)
                    clear hH
                    have hH := hH'
                    clear hH' hK K
                    try simp only [Act.put, List.setIfInBounds_toArray, List.set_cons_zero, List.set_cons_succ]
                    obtain ⟨Y, hY⟩ : ∃ Y, Y = (w9.alloc (Obj.cells #[.int .i64 x.tm, .int .i64 x.ca, .int .i64 x.cb, .int .i64 x.lo, .int .i64 x.hi] 23)).drew := ⟨_, rfl⟩
                    rw [← hY] at hH ⊢
                    have BY : Bl w9 Y := by rw [hY]; exact Bl.tr (bl_alS _ _) (bl_drS _)
                    have u0 : Y.cell? ⟨w9.heap.size, 0, none⟩ = some (.int .i64 x.tm) := by rw [hY]; exact kcb (bl_drS _) (by go_cell)
                    have u1 : Y.cell? ⟨w9.heap.size, 1, none⟩ = some (.int .i64 x.ca) := by rw [hY]; exact kcb (bl_drS _) (by go_cell)
                    have u2 : Y.cell? ⟨w9.heap.size, 2, none⟩ = some (.int .i64 x.cb) := by rw [hY]; exact kcb (bl_drS _) (by go_cell)
                    have u3 : Y.cell? ⟨w9.heap.size, 3, none⟩ = some (.int .i64 x.lo) := by rw [hY]; exact kcb (bl_drS _) (by go_cell)
                    have u4 : Y.cell? ⟨w9.heap.size, 4, none⟩ = some (.int .i64 x.hi) := by rw [hY]; exact kcb (bl_drS _) (by go_cell)
                    have HC := Lib.hid (addS_one u0 u1 u2 u3 u4)
                    have HOa := Lib.hid (own_belowU HO9.out BY)
                    have HOb := Lib.hid (own_belowU HP9.out BY)
                    have HBY := Lib.hid (HB9.out.tr BY)
                    have z0 := kcb BY y0
                    have z1 := kcb BY y1
                    have h1 := fzb BY g1 ly9
                    have hsz : w8.heap.size + 1 ≤ Y.heap.size := by have := BY.size; omega
                    clear hY u0 u1 u2 u3 u4 y1d lyd
                    refine wpAnyH_ready (rs := [9]) (by kernel_rfl) (by simp) ?_
                    refine AllReadyH.cons (o := ({ dst := some 77, op := Go.Op.call { callee := Go.Callee.builtin Go.Builtin.append, args := #[Go.Operand.tmp 69, Go.Operand.tmp 76], argTypes := #[25, 25] }, type := 25, pos := "top05.go:220", after := #[{ on := 1, ground := Go.Ground.data }, { on := 8, ground := Go.Ground.data }], guard := none } : Oper)) rfl (fun K hK => ?_) AllReadyH.nil
                    refine step_ownS (by rfl) _ _ _ (by rfl) (w8.heap.size + 1) 23 i0 _ 5 40 Try.underlying25 HI.out.1 HI.out.2.1 HI.out.2.2.1 HI.out.2.2.2 rfl (by omega) (.slice A5 (whL T kk).length d5) (whL T kk).length (sgC (whS S T kk) (whL T kk).length) (by rfl) HOb.out ⟨w9.heap.size, 0, none⟩ 1 1 (cellsG x) (by rfl) rfl HC.out (cellsG_one x) (by unfold maxLen; omega) (by omega) hsz ?_
                    intro v10 w10 hown hgrow hnil
                    clear hnil
                    rw [HNS.out, ← HNL.out] at hown
                    obtain ⟨A10, d10, rfl, _⟩ := sgl_of_own hown
                    have y0 := grow_cellU hgrow HOb.out (by omega) z0
                    have y1 := grow_cellU hgrow HOb.out (by omega) z1
                    have g1 := grow_fzU hgrow HOb.out (by omega) (ltb z0) h1
                    have HO10 := Lib.hid (grow_ownU hgrow HOa.out HOb.out (by decide))
                    have HP10 := Lib.hid hown
                    have hb10 := grow_blU HBY.out hgrow HOb.out (by omega)
                    have HB10 := Lib.hid hb10
                    have ly10 := ltb y0
                    clear hown hgrow z0 z1 h1 HOa HOb HBY HC
                    refine hK.out _ _ (show Bl w8 _ ∧ _ from ⟨hb10, kcb (hb10) HX.out.2, kcb (hb10) HSX.out.1, kcb (hb10) HSX.out.2.1, kcb (hb10) HSX.out.2.2.1, kcb (hb10) HSX.out.2.2.2.1, kcb (hb10) HSX.out.2.2.2.2⟩) (fun hH' => ?_)
                    clear hH
                    have hH := hH'
                    clear hH' hK K
                    try simp only [Act.put, List.setIfInBounds_toArray, List.set_cons_zero, List.set_cons_succ]
                    refine wpAnyH_take (i := 10) (oi := ({ dst := some 78, op := Go.Op.fieldAddr 27 (Go.Operand.tmp 5) 1, type := 0, pos := "top05.go:220", after := #[{ on := 0, ground := Go.Ground.phase }, { on := 1, ground := Go.Ground.phase }, { on := 2, ground := Go.Ground.phase }, { on := 3, ground := Go.Ground.phase }, { on := 4, ground := Go.Ground.phase }, { on := 5, ground := Go.Ground.phase }, { on := 6, ground := Go.Ground.phase }, { on := 7, ground := Go.Ground.phase }, { on := 8, ground := Go.Ground.phase }, { on := 9, ground := Go.Ground.phase }], guard := none } : Oper)) (v := ?_) rfl (by kernel_rfl) (by kernel_rfl) (by kernel_rfl) (fun _ _ _ h => h) (Or.inl ⟨by rfl, ?_⟩) hH ?_
                    rotate_left
                    · intro w hSw; (try dsimp only at hSw); go_simp; try with_reducible rfl
                    try simp only [Act.put, List.setIfInBounds_toArray, List.set_cons_zero, List.set_cons_succ]
                    refine wpAnyH_ready (rs := [11]) (by kernel_rfl) (by simp) ?_
                    refine AllReadyH.cons (o := ({ dst := none, op := Go.Op.store 25 (Go.Operand.tmp 78) (Go.Operand.tmp 77), type := 0, pos := "top05.go:220", after := #[{ on := 10, ground := Go.Ground.data }, { on := 9, ground := Go.Ground.data }, { on := 9, ground := Go.Ground.chain }, { on := 0, ground := Go.Ground.phase }, { on := 1, ground := Go.Ground.phase }, { on := 2, ground := Go.Ground.phase }, { on := 3, ground := Go.Ground.phase }, { on := 4, ground := Go.Ground.phase }, { on := 5, ground := Go.Ground.phase }, { on := 6, ground := Go.Ground.phase }, { on := 7, ground := Go.Ground.phase }, { on := 8, ground := Go.Ground.phase }, { on := 9, ground := Go.Ground.phase }], guard := none } : Oper)) rfl (fun K hK => ?_) AllReadyH.nil
                    go_simp
                    refine hK.out _ _ (show Bl w8 _ ∧ _ from ⟨bl_set HB10.out (Nat.le_refl _), kcb (bl_set HB10.out (Nat.le_refl _)) HX.out.2, kcb (bl_set HB10.out (Nat.le_refl _)) HSX.out.1, kcb (bl_set HB10.out (Nat.le_refl _)) HSX.out.2.1, kcb (bl_set HB10.out (Nat.le_refl _)) HSX.out.2.2.1, kcb (bl_set HB10.out (Nat.le_refl _)) HSX.out.2.2.2.1, kcb (bl_set HB10.out (Nat.le_refl _)) HSX.out.2.2.2.2⟩) (fun hH' => ?_)
                    clear hH
                    have hH := hH'
                    clear hH' hK K
                    try simp only [Act.put, List.setIfInBounds_toArray, List.set_cons_zero, List.set_cons_succ]
                    refine wpAnyH_done (by kernel_rfl) ?_ _
                    refine NoPanic.normal ?_
                    go_wp2_with fail
                    go_roundw
                    case rel => exact ⟨kk + 1, _, by omega, by go_num, ⟨own_setS HO10.out (Nat.lt_succ_self _), own_setS HP10.out (Nat.lt_succ_self _)⟩, bl_set HB10.out (Nat.le_refl _), cell_set1UV y0 (by omega), by go_cell, by simpa using g1⟩
                    case measure => simp [RowKit.intOf]; omega
                  · go_simp
                    refine hK.out _ _ ⟨hH.1.tr (bl_alS w9.drew (Obj.cells #[.int .i64 x.tm, .int .i64 x.ca, .int .i64 x.cb, .int .i64 x.lo, .int .i64 x.hi] 23)), kcb (bl_alS w9.drew (Obj.cells #[.int .i64 x.tm, .int .i64 x.ca, .int .i64 x.cb, .int .i64 x.lo, .int .i64 x.hi] 23)) hH.2.1, kcb (bl_alS w9.drew (Obj.cells #[.int .i64 x.tm, .int .i64 x.ca, .int .i64 x.cb, .int .i64 x.lo, .int .i64 x.hi] 23)) hH.2.2.1, kcb (bl_alS w9.drew (Obj.cells #[.int .i64 x.tm, .int .i64 x.ca, .int .i64 x.cb, .int .i64 x.lo, .int .i64 x.hi] 23)) hH.2.2.2.1, kcb (bl_alS w9.drew (Obj.cells #[.int .i64 x.tm, .int .i64 x.ca, .int .i64 x.cb, .int .i64 x.lo, .int .i64 x.hi] 23)) hH.2.2.2.2.1, kcb (bl_alS w9.drew (Obj.cells #[.int .i64 x.tm, .int .i64 x.ca, .int .i64 x.cb, .int .i64 x.lo, .int .i64 x.hi] 23)) hH.2.2.2.2.2.1, kcb (bl_alS w9.drew (Obj.cells #[.int .i64 x.tm, .int .i64 x.ca, .int .i64 x.cb, .int .i64 x.lo, .int .i64 x.hi] 23)) hH.2.2.2.2.2.2⟩ (fun hH' => ?_)
                    clear hH
                    have hH := hH'
                    clear hH' hK K
                    try simp only [Act.put, List.setIfInBounds_toArray, List.set_cons_zero, List.set_cons_succ]
                    have y1e := kcb (Bl.tr (bl_alS w9 (Obj.cells #[.int .i64 x.tm, .int .i64 x.ca, .int .i64 x.cb, .int .i64 x.lo, .int .i64 x.hi] 23)) (bl_drS _)) y1
                    have lye : w8.heap.size < w9.heap.size + 1 := by omega
                    refine wpAnyH_ready (rs := [1]) (by kernel_rfl) (by simp) ?_
                    refine AllReadyH.cons (o := ({ dst := some 69, op := Go.Op.load 25 (Go.Operand.tmp 68), type := 25, pos := "top05.go:220", after := #[{ on := 0, ground := Go.Ground.data }], guard := none } : Oper)) rfl (fun K hK => ?_) AllReadyH.nil
                    go_simp
                    refine hK.out _ _ hH (fun hH' => ?_)
                    clear hH
                    have hH := hH'
                    clear hH' hK K
                    try simp only [Act.put, List.setIfInBounds_toArray, List.set_cons_zero, List.set_cons_succ]
                    clear y1e lye
                    obtain ⟨Y, hY⟩ : ∃ Y, Y = (w9.alloc (Obj.cells #[.int .i64 x.tm, .int .i64 x.ca, .int .i64 x.cb, .int .i64 x.lo, .int .i64 x.hi] 23)).drew := ⟨_, rfl⟩
                    rw [← hY] at hH ⊢
                    have BY : Bl w9 Y := by rw [hY]; exact Bl.tr (bl_alS _ _) (bl_drS _)
                    have u0 : Y.cell? ⟨w9.heap.size, 0, none⟩ = some (.int .i64 x.tm) := by rw [hY]; exact kcb (bl_drS _) (by go_cell)
                    have u1 : Y.cell? ⟨w9.heap.size, 1, none⟩ = some (.int .i64 x.ca) := by rw [hY]; exact kcb (bl_drS _) (by go_cell)
                    have u2 : Y.cell? ⟨w9.heap.size, 2, none⟩ = some (.int .i64 x.cb) := by rw [hY]; exact kcb (bl_drS _) (by go_cell)
                    have u3 : Y.cell? ⟨w9.heap.size, 3, none⟩ = some (.int .i64 x.lo) := by rw [hY]; exact kcb (bl_drS _) (by go_cell)
                    have u4 : Y.cell? ⟨w9.heap.size, 4, none⟩ = some (.int .i64 x.hi) := by rw [hY]; exact kcb (bl_drS _) (by go_cell)
                    have HC := Lib.hid (addS_one u0 u1 u2 u3 u4)
                    have HOa := Lib.hid (own_belowU HO9.out BY)
                    have HOb := Lib.hid (own_belowU HP9.out BY)
                    have HBY := Lib.hid (HB9.out.tr BY)
                    have z0 := kcb BY y0
                    have z1 := kcb BY y1
                    have h1 := fzb BY g1 ly9
                    have hsz : w8.heap.size + 1 ≤ Y.heap.size := by have := BY.size; omega
                    clear hY u0 u1 u2 u3 u4 y1d lyd
                    refine wpAnyH_ready (rs := [9]) (by kernel_rfl) (by simp) ?_
                    refine AllReadyH.cons (o := ({ dst := some 77, op := Go.Op.call { callee := Go.Callee.builtin Go.Builtin.append, args := #[Go.Operand.tmp 69, Go.Operand.tmp 76], argTypes := #[25, 25] }, type := 25, pos := "top05.go:220", after := #[{ on := 1, ground := Go.Ground.data }, { on := 8, ground := Go.Ground.data }], guard := none } : Oper)) rfl (fun K hK => ?_) AllReadyH.nil
                    refine step_ownS (by rfl) _ _ _ (by rfl) (w8.heap.size + 1) 23 i0 _ 5 40 Try.underlying25 HI.out.1 HI.out.2.1 HI.out.2.2.1 HI.out.2.2.2 rfl (by omega) (.slice A5 (whL T kk).length d5) (whL T kk).length (sgC (whS S T kk) (whL T kk).length) (by rfl) HOb.out ⟨w9.heap.size, 0, none⟩ 1 1 (cellsG x) (by rfl) rfl HC.out (cellsG_one x) (by unfold maxLen; omega) (by omega) hsz ?_
                    intro v10 w10 hown hgrow hnil
                    clear hnil
                    rw [HNS.out, ← HNL.out] at hown
                    obtain ⟨A10, d10, rfl, _⟩ := sgl_of_own hown
                    have y0 := grow_cellU hgrow HOb.out (by omega) z0
                    have y1 := grow_cellU hgrow HOb.out (by omega) z1
                    have g1 := grow_fzU hgrow HOb.out (by omega) (ltb z0) h1
                    have HO10 := Lib.hid (grow_ownU hgrow HOa.out HOb.out (by decide))
                    have HP10 := Lib.hid hown
                    have hb10 := grow_blU HBY.out hgrow HOb.out (by omega)
                    have HB10 := Lib.hid hb10
                    have ly10 := ltb y0
                    clear hown hgrow z0 z1 h1 HOa HOb HBY HC
                    refine hK.out _ _ (show Bl w8 _ ∧ _ from ⟨hb10, kcb (hb10) HX.out.2, kcb (hb10) HSX.out.1, kcb (hb10) HSX.out.2.1, kcb (hb10) HSX.out.2.2.1, kcb (hb10) HSX.out.2.2.2.1, kcb (hb10) HSX.out.2.2.2.2⟩) (fun hH' => ?_)
                    clear hH
                    have hH := hH'
                    clear hH' hK K
                    try simp only [Act.put, List.setIfInBounds_toArray, List.set_cons_zero, List.set_cons_succ]
                    refine wpAnyH_take (i := 10) (oi := ({ dst := some 78, op := Go.Op.fieldAddr 27 (Go.Operand.tmp 5) 1, type := 0, pos := "top05.go:220", after := #[{ on := 0, ground := Go.Ground.phase }, { on := 1, ground := Go.Ground.phase }, { on := 2, ground := Go.Ground.phase }, { on := 3, ground := Go.Ground.phase }, { on := 4, ground := Go.Ground.phase }, { on := 5, ground := Go.Ground.phase }, { on := 6, ground := Go.Ground.phase }, { on := 7, ground := Go.Ground.phase }, { on := 8, ground := Go.Ground.phase }, { on := 9, ground := Go.Ground.phase }], guard := none } : Oper)) (v := ?_) rfl (by kernel_rfl) (by kernel_rfl) (by kernel_rfl) (fun _ _ _ h => h) (Or.inl ⟨by rfl, ?_⟩) hH ?_
                    rotate_left
                    · intro w hSw; (try dsimp only at hSw); go_simp; try with_reducible rfl
                    try simp only [Act.put, List.setIfInBounds_toArray, List.set_cons_zero, List.set_cons_succ]
                    refine wpAnyH_ready (rs := [11]) (by kernel_rfl) (by simp) ?_
                    refine AllReadyH.cons (o := ({ dst := none, op := Go.Op.store 25 (Go.Operand.tmp 78) (Go.Operand.tmp 77), type := 0, pos := "top05.go:220", after := #[{ on := 10, ground := Go.Ground.data }, { on := 9, ground := Go.Ground.data }, { on := 9, ground := Go.Ground.chain }, { on := 0, ground := Go.Ground.phase }, { on := 1, ground := Go.Ground.phase }, { on := 2, ground := Go.Ground.phase }, { on := 3, ground := Go.Ground.phase }, { on := 4, ground := Go.Ground.phase }, { on := 5, ground := Go.Ground.phase }, { on := 6, ground := Go.Ground.phase }, { on := 7, ground := Go.Ground.phase }, { on := 8, ground := Go.Ground.phase }, { on := 9, ground := Go.Ground.phase }], guard := none } : Oper)) rfl (fun K hK => ?_) AllReadyH.nil
                    go_simp
                    refine hK.out _ _ (show Bl w8 _ ∧ _ from ⟨bl_set HB10.out (Nat.le_refl _), kcb (bl_set HB10.out (Nat.le_refl _)) HX.out.2, kcb (bl_set HB10.out (Nat.le_refl _)) HSX.out.1, kcb (bl_set HB10.out (Nat.le_refl _)) HSX.out.2.1, kcb (bl_set HB10.out (Nat.le_refl _)) HSX.out.2.2.1, kcb (bl_set HB10.out (Nat.le_refl _)) HSX.out.2.2.2.1, kcb (bl_set HB10.out (Nat.le_refl _)) HSX.out.2.2.2.2⟩) (fun hH' => ?_)
                    clear hH
                    have hH := hH'
                    clear hH' hK K
                    try simp only [Act.put, List.setIfInBounds_toArray, List.set_cons_zero, List.set_cons_succ]
                    refine wpAnyH_done (by kernel_rfl) ?_ _
                    refine NoPanic.normal ?_
                    go_wp2_with fail
                    go_roundw
                    case rel => exact ⟨kk + 1, _, by omega, by go_num, ⟨own_setS HO10.out (Nat.lt_succ_self _), own_setS HP10.out (Nat.lt_succ_self _)⟩, bl_set HB10.out (Nat.le_refl _), cell_set1UV y0 (by omega), by go_cell, by simpa using g1⟩
                    case measure => simp [RowKit.intOf]; omega
          · obtain rfl : kk = k := by omega
            have hv2 := wh_vn HVN.out HMK2.out
            have hno := wh_not HVN.out HMK2.out HPR.out
            have hpos := whL_pos (T := T) hk1
            obtain ⟨A6, d6, hv6, hl6, hd6, hs6⟩ := sl_of_ownU HO.out.1
            subst hv6
            obtain ⟨A5, d5, hv5, hl5, hd5, hs5⟩ := sgl_of_own HO.out.2
            subst hv5
            have HS5 := Lib.hid hs5
            have HR5 := Lib.hid (HR8.out.below hZ)
            have HBW := Lib.hid (show Bl w wr from (HB3.out.tr HB8.out).tr hZ)
            have hlen := hv2.m30
            have HC2 := consistent_any A1 n d1 R A5 (whL T kk).length d5 (whS S T kk) wr HR5.out HS5.out (by unfold maxLen; omega) (by unfold maxLen; omega)
            rw [if_pos (vn_iff.2 hv2), noB_false hno] at HC2
            clear hZ hs6 hs5 hv2 hno
            go_wp2_with fail
            refine HC2.mono ?_
            rintro e wa ⟨rfl, hb⟩
            have HBA := Lib.hid (HBW.out.tr hb)
            clear HC2 hb y0 y1 g1
            go_wp2_with fail
            refine (sameInts_no A6 (whL T kk).length d6 wa hpos).mono ?_
            rintro e wb ⟨rfl, hb⟩
            have HBB := Lib.hid (HBA.out.tr hb)
            clear hb
            go_wp2_with fail
            refine (awake5_any _).mono ?_
            rintro ea wc ⟨rfl, ha⟩
            go_wp2_with fail
            go_ret
            exact ⟨rfl, HBB.out.tr ha⟩
end Go.Proofs.Ytchikfegpoonjaa
