/-
  Contracts of package ledger: Last.
-/
import Derived.Test.YtiaamhlcdnlahaaLW
namespace Go.Proofs.Ytiaamhlcdnlahaa
open Go.RowKit Go.Maps
set_option linter.unusedSimpArgs false
set_option linter.unusedVariables false

theorem ix0 (d : Int) (w : World) : (Instr.index 85 (.agg #[.int .i64 d, .bool false, .int .i64 d, .bool true]) (.int .i64 0)).run Try.prog w = .ok (slotV d false) w := by kernel_rfl
theorem ix1 (d : Int) (w : World) : (Instr.index 85 (.agg #[.int .i64 d, .bool false, .int .i64 d, .bool true]) (.int .i64 1)).run Try.prog w = .ok (slotV d true) w := by kernel_rfl
set_option maxRecDepth 100000 in
set_option maxHeartbeats 6400000 in
theorem lastP_any (A : Option Addr) (n c : Nat) (L : Nat → En) (w : World) (hA : El w A n L) (hn : n ≤ maxLen) :
    Calls Try.prog 50 #[.slice A n c] w (LastPost L n w) := by
  have HC := Lib.hid (fun (X : World) (hb : Bl w X) => recordOf_any A n c L X (hA.below hb) hn)
  clear hA
  go_enter Try.func50, Try.ntmps50
  go_wp2_with fail
  refine (HC.out _ (by first | exact Bl.rf _ | go_grown)).mono ?_
  rintro e1 w1 ⟨hb1, ⟨hv, rfl⟩ | ⟨hv, B, rfl, hBl, hR⟩⟩
  · have HR := Lib.hid hv
    clear hv
    go_wp2_with fail
    go_ret2
    exact ⟨hb1, .inl ⟨HR.out, rfl⟩⟩
  · have HR := Lib.hid hv
    have HE := Lib.hid (vl_iff.1 hv)
    have h1000 := HE.out.1
    have HR1 := Lib.hid hR
    clear hv hR hBl
    go_wp2_with fail
    refine (days_any B n _ _ HR1.out h1000 (fun d f h => by
      obtain ⟨x, hx⟩ := Option.isSome_iff_exists.1 h
      have := lst_day HE.out.2 hx
      unfold rng; omega)).mono ?_
    rintro e2 w2 ⟨⟨v, l, rfl, hd, -, hown⟩, hb2⟩
    obtain rfl := dys_eq hd
    have hdl := dys_len L n
    obtain ⟨A2, c2, rfl, -, -, hs, -⟩ := isL_of_own rfl hown
    have HS := Lib.hid hs
    have HRC := Lib.hid (HR1.out.below hb2)
    have BB2 := Lib.hid (hb1.tr hb2)
    obtain ⟨Wb, hWb⟩ : ∃ W, W = w2 := ⟨_, rfl⟩
    subst hWb
    have zB := BB2.out.size
    clear hb1 hb2 hd hown hs HR1
    obtain ⟨m, hm⟩ : ∃ m, m = (dysOf L n).length := ⟨_, rfl⟩
    have HM := Lib.hid hm
    rw [← hm] at hdl
    rw [← hm]
    rw [← hm] at HS
    clear hm
    go_wp2_with fail
    have NV := Lib.hid (ownE_nil Wb Wb.heap.size)
    have zW : Wb.heap.size ≤ Wb.heap.size := Nat.le_refl _
    go_loopw [6, 22] (fun v i wr => ∃ (k : Nat) (sv : Value), sv = v ∧ k ≤ m ∧ i = .int .i64 k ∧ Hid (OwnE wr Wb.heap.size sv (lstL (vL L n) ((dysOf L n).take k))) ∧ Hid (Bl Wb wr)) (fun _ i _ => m - (RowKit.intOf i).toNat)
    case atStart => exact ⟨0, _, rfl, Nat.zero_le _, rfl, NV.out, Bl.rf _⟩
    case round =>
      obtain ⟨k, sv, rfl, hk, rfl, HO, HB⟩ := hrel
      have zr := HB.out.size
      by_cases hlt : k < m
      · obtain ⟨b', off, rfl, hbb, c0⟩ := asg_at (l := dysOf L n) (k := k) (by rw [← HM.out]; exact HS.out.below HB.out) (by rw [← HM.out]; exact hlt)
        have HT := Lib.hid (take_succ_getD (dysOf L n) (k := k) (by rw [← HM.out]; exact hlt))
        have hE2 := take_len2 (vL L n) (dysOf L n) k (by rw [← HM.out]; omega)
        have HDR := Lib.hid (show rng ((dysOf L n).getD k 0) by
          have hm : (dysOf L n).getD k 0 ∈ dysOf L n := by
            have hk' : k < (dysOf L n).length := by rw [← HM.out]; exact hlt
            simp [List.getD, hk']
          obtain ⟨j, hj, e⟩ := dys_mem.1 hm
          have := en_iff.1 (HE.out.2 j hj)
          rw [← e]; unfold rng; omega)
        obtain ⟨d, hd⟩ : ∃ d, d = (dysOf L n).getD k 0 := ⟨_, rfl⟩
        rw [← hd] at c0 HT HDR
        clear hd
        obtain ⟨E0, hE0⟩ : ∃ E, E = lstL (vL L n) ((dysOf L n).take k) := ⟨_, rfl⟩
        have HT2 := Lib.hid (show lstL (vL L n) ((dysOf L n).take (k + 1)) = E0 ++ enD (vL L n) d by rw [HT.out, lstL_snoc, hE0])
        rw [← hE0] at HO hE2
        clear hE0
        go_wp2_with fail
        obtain ⟨Wo, hWo⟩ : ∃ Wo, Wo = wr := ⟨_, rfl⟩
        subst hWo
        have HO' := Lib.hid HO.out
        have hx0 := ix0 d
        have hx1 := ix1 d
        clear HO c0
        go_loopw [6, 31] (fun v i wz => ∃ (q : Nat) (sv : Value) (E : List En), sv = v ∧ q ≤ 2 ∧ i = .int .i64 q ∧ (q = 0 ∧ E = E0 ∨ q = 1 ∧ E = E0 ++ ptE (vL L n) d false ∨ q = 2 ∧ E = E0 ++ enD (vL L n) d) ∧ Hid (OwnE wz Wb.heap.size sv E) ∧ Hid (Bl Wb wz)) (fun _ i _ => 2 - (RowKit.intOf i).toNat)
        case atStart => exact ⟨0, _, E0, rfl, by omega, rfl, .inl ⟨rfl, rfl⟩, HO'.out, HB.out⟩
        case round =>
          clear HO'
          obtain ⟨q, sv, E, rfl, hq, rfl, hqe, HO, HZ⟩ := hrel
          have zz := HZ.out.size
          have hE3 := pt_len (vL L n) d false
          have hEl : E.length ≤ 2002 := by
            have h4 := pt_len (vL L n) d true
            rcases hqe with ⟨_, rfl⟩ | ⟨_, rfl⟩ | ⟨_, rfl⟩
            · omega
            · simp only [List.length_append]; omega
            · simp only [List.length_append, enD]; omega
          rcases hqe with ⟨rfl, rfl⟩ | ⟨rfl, hEE⟩ | ⟨rfl, hEE⟩
          · cases hq : lst L d false n with
            | none =>
              have HQ := Lib.hid (show (lst L d false n).isSome = false by rw [hq]; rfl)
              have HP := Lib.hid (show ptE (vL L n) d false = [] from pt_none hq)
              clear hq
              go_wp2_with fail
              refine (has_any B n _ d false _ (HRC.out.below (HZ.out.tr (by go_grown))) HDR.out).mono ?_
              rintro e5 w5 ⟨rfl, hb⟩
              rw [HQ.out]
              have X5 : Bl wr w5 := Bl.tr (by go_grown) hb
              go_wp2_with fail
              have HO9 := Lib.hid (ownE_bl HO.out X5)
              have HZ9 := Lib.hid (HZ.out.tr X5)
              clear hb X5
              go_roundw
              case rel => exact ⟨1, _, _, rfl, by omega, by go_num, .inr (.inl ⟨rfl, by rw [HP.out, List.append_nil]⟩), HO9.out, HZ9.out⟩
              case measure => simp [RowKit.intOf]
            | some x =>
              have HQ := Lib.hid (show (lst L d false n).isSome = true by rw [hq]; rfl)
              have HG := Lib.hid (show (lst L d false n).getD 0 = x by rw [hq]; rfl)
              have HP := Lib.hid (show ptE (vL L n) d false = [⟨d, false, x⟩] from pt_some hq)
              clear hq
              go_wp2_with fail
              refine (has_any B n _ d false _ (HRC.out.below (HZ.out.tr (by go_grown))) HDR.out).mono ?_
              rintro e5 w5 ⟨rfl, hb⟩
              rw [HQ.out]
              have y0 := kcb hb (b := wr.heap.size) (o := 0) (v := .int .i64 d) (by go_cell)
              have y1 := kcb hb (b := wr.heap.size) (o := 1) (v := .bool false) (by go_cell)
              have X5 : Bl wr w5 := Bl.tr (by go_grown) hb
              have ly := ltb y0
              have HL : (Instr.lookup 62 (.map (some B)) (slotV d false) false).run Try.prog w5.drew = .ok (.int .i64 x) w5.drew := (HRC.out.below ((HZ.out.tr X5).tr (bl_dr _))).run_at HDR.out HG.out
              have HO5 := Lib.hid (ownE_bl HO.out X5)
              have HZ5 := Lib.hid (HZ.out.tr X5)
              have zz5 := HZ5.out.size
              clear hb X5
              go_wp2_with fail
              go_region_held3 (fun W' => W'.cell? ⟨wr.heap.size, 0, none⟩ = some (.int .i64 d) ∧ W'.cell? ⟨wr.heap.size, 1, none⟩ = some (.bool false)) (first | exact ⟨y0, y1⟩ | exact ⟨cellUp y0, cellUp y1⟩ | exact ⟨z0, z1⟩) (first | (refine step_append_el rfl _ _ rfl Wb.heap.size _ E.length (lE E) rfl (own_bN HO5.out (Bl.tr (by go_grown) (bl_dr _))) (some ⟨w5.heap.size, 0, none⟩) 1 1 (fun _ => ⟨d, false, x⟩) rfl (el_one (by go_cell) (by go_cell) (by go_cell)) (by omega) (by (try simp only [World.size_alloc, World.size_drew]); omega) ?_; intro v9 w9 hown9 hg9 hl9; have z0 := (hg9.cell_far ⟨wr.heap.size, 0, none⟩ (by rw [World.size_drew, World.size_alloc]; exact Nat.lt_succ_of_lt ly) (fun q => Nat.lt_irrefl _ (World.ownsRow.lt HO.out _ q.symm).2)).trans (cellUp y0); have z1 := (hg9.cell_far ⟨wr.heap.size, 1, none⟩ (by rw [World.size_drew, World.size_alloc]; exact Nat.lt_succ_of_lt ly) (fun q => Nat.lt_irrefl _ (World.ownsRow.lt HO.out _ q.symm).2)).trans (cellUp y1)))
              have HO9 := Lib.hid (ownE_snoc hown9)
              have HZ9 := Lib.hid (show Bl Wb w9 from below_own (HZ5.out.tr (Bl.tr (by go_grown) (bl_dr _))) (own_bN HO5.out (Bl.tr (by go_grown) (bl_dr _))) zW hg9)
              clear hown9 hg9 hl9
              go_wp2_with fail
              go_roundw
              case rel => exact ⟨1, _, _, rfl, by omega, by go_num, .inr (.inl ⟨rfl, by rw [HP.out]⟩), HO9.out, HZ9.out⟩
              case measure => simp [RowKit.intOf]
          · cases hq : lst L d true n with
            | none =>
              have HQ := Lib.hid (show (lst L d true n).isSome = false by rw [hq]; rfl)
              have HP := Lib.hid (show ptE (vL L n) d true = [] from pt_none hq)
              clear hq
              go_wp2_with fail
              refine (has_any B n _ d true _ (HRC.out.below (HZ.out.tr (by go_grown))) HDR.out).mono ?_
              rintro e5 w5 ⟨rfl, hb⟩
              rw [HQ.out]
              have X5 : Bl wr w5 := Bl.tr (by go_grown) hb
              go_wp2_with fail
              have HO9 := Lib.hid (ownE_bl HO.out X5)
              have HZ9 := Lib.hid (HZ.out.tr X5)
              clear hb X5
              go_roundw
              case rel => exact ⟨2, _, _, rfl, by omega, by go_num, .inr (.inr ⟨rfl, by rw [hEE, enD, HP.out, List.append_nil]⟩), HO9.out, HZ9.out⟩
              case measure => simp [RowKit.intOf]
            | some x =>
              have HQ := Lib.hid (show (lst L d true n).isSome = true by rw [hq]; rfl)
              have HG := Lib.hid (show (lst L d true n).getD 0 = x by rw [hq]; rfl)
              have HP := Lib.hid (show ptE (vL L n) d true = [⟨d, true, x⟩] from pt_some hq)
              clear hq
              go_wp2_with fail
              refine (has_any B n _ d true _ (HRC.out.below (HZ.out.tr (by go_grown))) HDR.out).mono ?_
              rintro e5 w5 ⟨rfl, hb⟩
              rw [HQ.out]
              have y0 := kcb hb (b := wr.heap.size) (o := 0) (v := .int .i64 d) (by go_cell)
              have y1 := kcb hb (b := wr.heap.size) (o := 1) (v := .bool true) (by go_cell)
              have X5 : Bl wr w5 := Bl.tr (by go_grown) hb
              have ly := ltb y0
              have HL : (Instr.lookup 62 (.map (some B)) (slotV d true) false).run Try.prog w5.drew = .ok (.int .i64 x) w5.drew := (HRC.out.below ((HZ.out.tr X5).tr (bl_dr _))).run_at HDR.out HG.out
              have HO5 := Lib.hid (ownE_bl HO.out X5)
              have HZ5 := Lib.hid (HZ.out.tr X5)
              have zz5 := HZ5.out.size
              clear hb X5
              go_wp2_with fail
              go_region_held3 (fun W' => W'.cell? ⟨wr.heap.size, 0, none⟩ = some (.int .i64 d) ∧ W'.cell? ⟨wr.heap.size, 1, none⟩ = some (.bool true)) (first | exact ⟨y0, y1⟩ | exact ⟨cellUp y0, cellUp y1⟩ | exact ⟨z0, z1⟩) (first | (refine step_append_el rfl _ _ rfl Wb.heap.size _ E.length (lE E) rfl (own_bN HO5.out (Bl.tr (by go_grown) (bl_dr _))) (some ⟨w5.heap.size, 0, none⟩) 1 1 (fun _ => ⟨d, true, x⟩) rfl (el_one (by go_cell) (by go_cell) (by go_cell)) (by omega) (by (try simp only [World.size_alloc, World.size_drew]); omega) ?_; intro v9 w9 hown9 hg9 hl9; have z0 := (hg9.cell_far ⟨wr.heap.size, 0, none⟩ (by rw [World.size_drew, World.size_alloc]; exact Nat.lt_succ_of_lt ly) (fun q => Nat.lt_irrefl _ (World.ownsRow.lt HO.out _ q.symm).2)).trans (cellUp y0); have z1 := (hg9.cell_far ⟨wr.heap.size, 1, none⟩ (by rw [World.size_drew, World.size_alloc]; exact Nat.lt_succ_of_lt ly) (fun q => Nat.lt_irrefl _ (World.ownsRow.lt HO.out _ q.symm).2)).trans (cellUp y1)))
              have HO9 := Lib.hid (ownE_snoc hown9)
              have HZ9 := Lib.hid (show Bl Wb w9 from below_own (HZ5.out.tr (Bl.tr (by go_grown) (bl_dr _))) (own_bN HO5.out (Bl.tr (by go_grown) (bl_dr _))) zW hg9)
              clear hown9 hg9 hl9
              go_wp2_with fail
              go_roundw
              case rel => exact ⟨2, _, _, rfl, by omega, by go_num, .inr (.inr ⟨rfl, by rw [hEE, enD, HP.out, List.append_assoc]⟩), HO9.out, HZ9.out⟩
              case measure => simp [RowKit.intOf]
          · subst hEE
            have HOF := Lib.hid (show OwnE wr Wb.heap.size sv (lstL (vL L n) ((dysOf L n).take (k + 1))) by rw [HT2.out]; exact HO.out)
            go_wp2_with fail
            go_roundw
            case rel => exact ⟨k + 1, _, rfl, by omega, by go_num, HOF.out, HZ.out⟩
            case measure => simp [RowKit.intOf]; omega
      · obtain rfl : k = m := by omega
        have HOF := Lib.hid (show OwnE wr Wb.heap.size sv (lastE L n) by rw [← lastE_take, ← HM.out]; exact HO.out)
        go_wp2_with fail
        go_ret2
        exact ⟨BB2.out.tr HB.out, .inr ⟨HR.out, _, rfl, ownE_mono HOF.out zB⟩⟩
end Go.Proofs.Ytiaamhlcdnlahaa
