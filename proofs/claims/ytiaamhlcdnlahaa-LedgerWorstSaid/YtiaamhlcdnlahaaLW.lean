/-
  Contracts of package ledger and of its reference: Last.
-/
import Derived.Test.YtiaamhlcdnlahaaLV
import Derived.StillTailTactics
namespace Go.Proofs.Ytiaamhlcdnlahaa
open Go.RowKit Go.Maps
set_option linter.unusedSimpArgs false
set_option linter.unusedVariables false

/-- What Last returns. -/
def LastPost (L : Nat → En) (n : Nat) (w : World) (e : Ending) (w' : World) : Prop :=
  Bl w w' ∧ ((vlB L n = false ∧ e = .returned (.tuple #[.slice none 0 0, .int .i64 1])) ∨ (vlB L n = true ∧ ∃ v, e = .returned (.tuple #[v, .int .i64 0]) ∧ OwnE w' w.heap.size v (lastE L n)))
theorem ownE_bl {w w' : World} {base : Nat} {v : Value} {E : List En} (h : OwnE w base v E) (hb : Bl w w') : OwnE w' base v E := own_bN h hb
theorem ownE_mono {w : World} {base base' : Nat} {v : Value} {E : List En} (h : OwnE w base v E) (hb : base' ≤ base) : OwnE w base' v E := own_mono h hb
theorem lastE_take (L : Nat → En) (n : Nat) : lstL (vL L n) ((dysOf L n).take (dysOf L n).length) = lastE L n := by rw [List.take_length]; rfl
theorem take_succ_getD (l : List Int) {k : Nat} (hk : k < l.length) : l.take (k + 1) = l.take k ++ [l.getD k 0] := by
  rw [List.take_add_one, List.getElem?_eq_getElem hk]
  simp [List.getD, hk]
theorem take_len2 (V : Int → Bool → Option Int) (l : List Int) (k : Nat) (hl : l.length ≤ 1000) : (lstL V (l.take k)).length ≤ 2000 := by
  have := lstL_len V (l.take k)
  have h2 : (l.take k).length ≤ l.length := by simp [List.length_take]; omega
  omega
theorem asg_at {l : List Int} {k : Nat} {w : World} {A : Option Addr} (h : Sl w A l.length (fun j => l.getD j 0)) (hk : k < l.length) : ∃ b off, A = some ⟨b, off, none⟩ ∧ b < w.heap.size ∧ w.cell? ⟨b, off + k, none⟩ = some (.int .i64 (l.getD k 0)) := by
  obtain ⟨b, off, e, hl, hc⟩ := h (by omega)
  exact ⟨b, off, e, hl, hc k hk⟩
set_option maxRecDepth 100000 in
set_option maxHeartbeats 6400000 in
theorem rlast_any (A : Option Addr) (n c : Nat) (L : Nat → En) (w : World) (hA : El w A n L) (hn : n ≤ maxLen) :
    Calls Try.prog 51 #[.slice A n c] w (LastPost L n w) := by
  have HV := Lib.hid (fun (X : World) (hb : Bl w X) => rvalidE_any A n c L X (hA.below hb) hn)
  have HA := Lib.hid hA
  clear hA
  cases hv : vlB L n with
  | false =>
    have HR := Lib.hid hv
    clear hv
    go_enter Try.func51, Try.ntmps51
    go_wp2_with fail
    refine (HV.out _ (by first | exact Bl.rf _ | go_grown)).mono ?_
    rintro e1 w1 ⟨rfl, hb⟩
    rw [HR.out]
    go_wp2_with fail
    go_ret2
    exact ⟨hb, .inl ⟨HR.out, rfl⟩⟩
  | true =>
    have HR := Lib.hid hv
    have HE := Lib.hid (vl_iff.1 hv)
    have h1000 := HE.out.1
    clear hv
    go_enter Try.func51, Try.ntmps51
    go_wp2_with fail
    refine (HV.out _ (by first | exact Bl.rf _ | go_grown)).mono ?_
    rintro e1 w1 ⟨rfl, hb1⟩
    rw [HR.out]
    go_wp2_with fail
    refine (all_any A n c L _ (HA.out.below hb1) h1000 HE.out.2).mono ?_
    rintro e2 w2 ⟨⟨v, l, rfl, hd, -, hown⟩, hb2⟩
    obtain rfl := dys_eq hd
    have hdl := dys_len L n
    obtain ⟨A2, c2, rfl, -, -, hs, -⟩ := isL_of_own rfl hown
    have HS := Lib.hid hs
    have BB2 := Lib.hid (hb1.tr hb2)
    obtain ⟨Wb, hWb⟩ : ∃ W, W = w2 := ⟨_, rfl⟩
    subst hWb
    have zB := BB2.out.size
    clear hb1 hb2 hd hown hs
    obtain ⟨m, hm⟩ : ∃ m, m = (dysOf L n).length := ⟨_, rfl⟩
    have HM := Lib.hid hm
    rw [← hm] at hdl
    rw [← hm]
    rw [← hm] at HS
    clear hm
    go_wp2_with fail
    have NV := Lib.hid (ownE_nil Wb Wb.heap.size)
    go_loopw [4, 17] (fun v i wr => ∃ (k : Nat) (sv : Value), sv = v ∧ k ≤ m ∧ i = .int .i64 k ∧ Hid (OwnE wr Wb.heap.size sv (lstL (vL L n) ((dysOf L n).take k))) ∧ Hid (Bl Wb wr)) (fun _ i _ => m - (RowKit.intOf i).toNat)
    case atStart => exact ⟨0, _, rfl, Nat.zero_le _, rfl, NV.out, Bl.rf _⟩
    case round =>
      obtain ⟨k, sv, rfl, hk, rfl, HO, HB⟩ := hrel
      have zr := HB.out.size
      by_cases hlt : k < m
      · obtain ⟨b', off, rfl, hbb, c0⟩ := asg_at (l := dysOf L n) (k := k) (by rw [← HM.out]; exact HS.out.below HB.out) (by rw [← HM.out]; exact hlt)
        have HT := Lib.hid (take_succ_getD (dysOf L n) (k := k) (by rw [← HM.out]; exact hlt))
        have hE2 := take_len2 (vL L n) (dysOf L n) k (by rw [← HM.out]; omega)
        obtain ⟨d, hd⟩ : ∃ d, d = (dysOf L n).getD k 0 := ⟨_, rfl⟩
        rw [← hd] at c0 HT
        clear hd
        obtain ⟨E0, hE0⟩ : ∃ E, E = lstL (vL L n) ((dysOf L n).take k) := ⟨_, rfl⟩
        have HT2 := Lib.hid (show lstL (vL L n) ((dysOf L n).take (k + 1)) = E0 ++ enD (vL L n) d by rw [HT.out, lstL_snoc, hE0])
        rw [← hE0] at HO hE2
        clear hE0
        go_wp2_with fail
        obtain ⟨Wo, hWo⟩ : ∃ Wo, Wo = wr.alloc (.cells #[.bool false, .bool true] 4) := ⟨_, rfl⟩
        have s0' : Wo.cell? ⟨wr.heap.size, 0, none⟩ = some (.bool false) := by rw [hWo]; go_cell
        have s1' : Wo.cell? ⟨wr.heap.size, 1, none⟩ = some (.bool true) := by rw [hWo]; go_cell
        have HO' := Lib.hid (show OwnE Wo Wb.heap.size sv E0 by rw [hWo]; exact ownE_bl HO.out (by go_grown))
        have BB := Lib.hid (show Bl w Wo by rw [hWo]; exact (BB2.out.tr HB.out).tr (by go_grown))
        have BBo := Lib.hid (show Bl Wb Wo by rw [hWo]; exact HB.out.tr (by go_grown))
        have hgg : wr.heap.size < Wo.heap.size := by rw [hWo]; simp
        have HKD := Lib.hid (show HB = HB from rfl)
        rw [← hWo]
        have hng' : sv.ownBlock ≠ some wr.heap.size := fun q => Nat.lt_irrefl _ (World.ownsRow.lt HO.out _ q).2
        clear hWo c0 HO
        obtain ⟨g, hg⟩ : ∃ g, g = wr.heap.size := ⟨_, rfl⟩
        rw [← hg] at s0' s1' hgg hng'
        rw [← hg]
        clear hg
        have zW : Wb.heap.size ≤ Wb.heap.size := Nat.le_refl _
        have zBo := BBo.out.size
        go_loopw [4, 23] (fun v i wz => ∃ (q : Nat) (sv : Value) (E : List En), sv = v ∧ q ≤ 2 ∧ i = .int .i64 q ∧ (q = 0 ∧ E = E0 ∨ q = 1 ∧ E = E0 ++ ptE (vL L n) d false ∨ q = 2 ∧ E = E0 ++ enD (vL L n) d) ∧ Hid (OwnE wz Wb.heap.size sv E) ∧ Hid (Bl Wb wz) ∧ wz.cell? ⟨g, 0, none⟩ = some (.bool false) ∧ wz.cell? ⟨g, 1, none⟩ = some (.bool true) ∧ Hid (sv.ownBlock ≠ some g)) (fun _ i _ => 2 - (RowKit.intOf i).toNat)
        case atStart => exact ⟨0, _, E0, rfl, by omega, rfl, .inl ⟨rfl, rfl⟩, HO'.out, BBo.out, s0', s1', hng'⟩
        case round =>
          clear s0' s1' HO' hng'
          obtain ⟨q, sv, E, rfl, hq, rfl, hqe, HO, HZ, s0, s1, HNG⟩ := hrel
          have zz := HZ.out.size
          have ls := ltb s0
          have hE3 := pt_len (vL L n) d false
          have hEl : E.length ≤ 2002 := by
            have h4 := pt_len (vL L n) d true
            rcases hqe with ⟨_, rfl⟩ | ⟨_, rfl⟩ | ⟨_, rfl⟩
            · omega
            · simp only [List.length_append]; omega
            · simp only [List.length_append, enD]; omega
          rcases hqe with ⟨rfl, rfl⟩ | ⟨rfl, hEE⟩ | ⟨rfl, hEE⟩
          · cases hq : lst L d false n with
            | none =>
              have HQ := Lib.hid (show encO (lst L d false n) = .tuple #[.int .i64 0, .bool false] by rw [hq]; rfl)
              have HP := Lib.hid (show ptE (vL L n) d false = [] from pt_none hq)
              clear hq
              go_wp2_with fail
              refine (last_any A n c L d false _ (HA.out.below (BB2.out.tr HZ.out)) hn).mono ?_
              rintro e5 w5 ⟨rfl, hb⟩
              rw [HQ.out]
              go_wp2_with fail
              have HO9 := Lib.hid (ownE_bl HO.out hb)
              have HNG9 := HNG
              have HZ9 := Lib.hid (HZ.out.tr hb)
              have s0 := kcb hb s0
              have s1 := kcb hb s1
              clear hb
              go_roundw
              case rel => exact ⟨1, _, _, rfl, by omega, by go_num, .inr (.inl ⟨rfl, by rw [HP.out, List.append_nil]⟩), HO9.out, HZ9.out, s0, s1, HNG9.out⟩
              case measure => simp [RowKit.intOf]
            | some x =>
              have HQ := Lib.hid (show encO (lst L d false n) = .tuple #[.int .i64 x, .bool true] by rw [hq]; rfl)
              have HP := Lib.hid (show ptE (vL L n) d false = [⟨d, false, x⟩] from pt_some hq)
              clear hq
              go_wp2_with fail
              refine (last_any A n c L d false _ (HA.out.below (BB2.out.tr HZ.out)) hn).mono ?_
              rintro e5 w5 ⟨rfl, hb⟩
              rw [HQ.out]
              have HO5 := Lib.hid (ownE_bl HO.out hb)
              have HZ5 := Lib.hid (HZ.out.tr hb)
              have zz5 := HZ5.out.size
              have s0 := kcb hb s0
              have s1 := kcb hb s1
              have ls := ltb s0
              clear hb
              go_wp2_with (at_builtin; refine wpList_append_el rfl _ _ rfl Wb.heap.size _ E.length (lE E) rfl (own_bN HO5.out (by go_grown)) (some ⟨w5.heap.size, 0, none⟩) 1 1 (fun _ => ⟨d, false, x⟩) rfl (el_one (by go_cell) (by go_cell) (by go_cell)) (by omega) (by (try simp only [World.size_alloc]); omega) ?_; intro v9 w9 hown9 hg9 hl9)
              have HO9 := Lib.hid (ownE_snoc hown9)
              have HZ9 := Lib.hid (show Bl Wb w9 from below_own (HZ5.out.tr (by go_grown)) (own_bN HO5.out (by go_grown)) zW hg9)
              have s0 := (hg9.cell_far ⟨g, 0, none⟩ (by (try simp only [World.size_alloc]); omega) (fun q => HNG.out q.symm)).trans (cellUp s0)
              have s1 := (hg9.cell_far ⟨g, 1, none⟩ (by (try simp only [World.size_alloc]); omega) (fun q => HNG.out q.symm)).trans (cellUp s1)
              have HNG9 := Lib.hid (show v9.ownBlock ≠ some g from fun q => by
                rcases hl9 with h | h
                · exact HNG.out (h.symm.trans q)
                · have h2 := h.symm.trans q
                  have h3 := Option.some.inj h2
                  simp only [World.size_alloc] at h3
                  omega)
              clear hown9 hg9 hl9
              go_roundw
              case rel => exact ⟨1, _, _, rfl, by omega, by go_num, .inr (.inl ⟨rfl, by rw [HP.out]⟩), HO9.out, HZ9.out, s0, s1, HNG9.out⟩
              case measure => simp [RowKit.intOf]
          · cases hq : lst L d true n with
            | none =>
              have HQ := Lib.hid (show encO (lst L d true n) = .tuple #[.int .i64 0, .bool false] by rw [hq]; rfl)
              have HP := Lib.hid (show ptE (vL L n) d true = [] from pt_none hq)
              clear hq
              go_wp2_with fail
              refine (last_any A n c L d true _ (HA.out.below (BB2.out.tr HZ.out)) hn).mono ?_
              rintro e5 w5 ⟨rfl, hb⟩
              rw [HQ.out]
              go_wp2_with fail
              have HO9 := Lib.hid (ownE_bl HO.out hb)
              have HNG9 := HNG
              have HZ9 := Lib.hid (HZ.out.tr hb)
              have s0 := kcb hb s0
              have s1 := kcb hb s1
              clear hb
              go_roundw
              case rel => exact ⟨2, _, _, rfl, by omega, by go_num, .inr (.inr ⟨rfl, by rw [hEE, enD, HP.out, List.append_nil]⟩), HO9.out, HZ9.out, s0, s1, HNG9.out⟩
              case measure => simp [RowKit.intOf]
            | some x =>
              have HQ := Lib.hid (show encO (lst L d true n) = .tuple #[.int .i64 x, .bool true] by rw [hq]; rfl)
              have HP := Lib.hid (show ptE (vL L n) d true = [⟨d, true, x⟩] from pt_some hq)
              clear hq
              go_wp2_with fail
              refine (last_any A n c L d true _ (HA.out.below (BB2.out.tr HZ.out)) hn).mono ?_
              rintro e5 w5 ⟨rfl, hb⟩
              rw [HQ.out]
              have HO5 := Lib.hid (ownE_bl HO.out hb)
              have HZ5 := Lib.hid (HZ.out.tr hb)
              have zz5 := HZ5.out.size
              have s0 := kcb hb s0
              have s1 := kcb hb s1
              have ls := ltb s0
              clear hb
              go_wp2_with (at_builtin; refine wpList_append_el rfl _ _ rfl Wb.heap.size _ E.length (lE E) rfl (own_bN HO5.out (by go_grown)) (some ⟨w5.heap.size, 0, none⟩) 1 1 (fun _ => ⟨d, true, x⟩) rfl (el_one (by go_cell) (by go_cell) (by go_cell)) (by omega) (by (try simp only [World.size_alloc]); omega) ?_; intro v9 w9 hown9 hg9 hl9)
              have HO9 := Lib.hid (ownE_snoc hown9)
              have HZ9 := Lib.hid (show Bl Wb w9 from below_own (HZ5.out.tr (by go_grown)) (own_bN HO5.out (by go_grown)) zW hg9)
              have s0 := (hg9.cell_far ⟨g, 0, none⟩ (by (try simp only [World.size_alloc]); omega) (fun q => HNG.out q.symm)).trans (cellUp s0)
              have s1 := (hg9.cell_far ⟨g, 1, none⟩ (by (try simp only [World.size_alloc]); omega) (fun q => HNG.out q.symm)).trans (cellUp s1)
              have HNG9 := Lib.hid (show v9.ownBlock ≠ some g from fun q => by
                rcases hl9 with h | h
                · exact HNG.out (h.symm.trans q)
                · have h2 := h.symm.trans q
                  have h3 := Option.some.inj h2
                  simp only [World.size_alloc] at h3
                  omega)
              clear hown9 hg9 hl9
              go_roundw
              case rel => exact ⟨2, _, _, rfl, by omega, by go_num, .inr (.inr ⟨rfl, by rw [hEE, enD, HP.out, List.append_assoc]⟩), HO9.out, HZ9.out, s0, s1, HNG9.out⟩
              case measure => simp [RowKit.intOf]
          · subst hEE
            have HOF := Lib.hid (show OwnE wr Wb.heap.size sv (lstL (vL L n) ((dysOf L n).take (k + 1))) by rw [HT2.out]; exact HO.out)
            go_wp2_with fail
            go_roundw
            case rel => exact ⟨k + 1, _, rfl, by omega, by go_num, HOF.out, HZ.out⟩
            case measure => simp [RowKit.intOf]; omega
      · obtain rfl : k = m := by omega
        have HOF := Lib.hid (show OwnE wr Wb.heap.size sv (lastE L n) by rw [← lastE_take, ← HM.out]; exact HO.out)
        go_wp2_with fail
        go_ret2
        exact ⟨BB2.out.tr HB.out, .inr ⟨HR.out, _, rfl, ownE_mono HOF.out zB⟩⟩
end Go.Proofs.Ytiaamhlcdnlahaa
