/-
  The iterator over days and offs of package ledger (all days).
-/
import Derived.Test.YtbmenpfpeadckaaMA
import Derived.Test.YtbmenpfpeadckaaLW
namespace Go.Proofs.Ytbmenpfpeadckaa
open Go.RowKit Go.Maps Go.Shelf
set_option linter.unusedSimpArgs false
set_option linter.unusedVariables false
attribute [local go_sem] Oper.semAt_some

set_option maxRecDepth 100000 in
set_option maxHeartbeats 8000000 in
theorem offs0_seq (t1 t2 B n : Nat) (L : Nat → En) (w : World) (hv : vlB L n = true)
    (h1 : w.cell? ⟨t1, 0, none⟩ = some (.map (some B))) (h2 : w.cell? ⟨t2, 0, none⟩ = some (.func (.func 63) #[] #[])) (hR : Rec w B n (vL L n)) :
    SeqO Fence.wide 4 Try.prog 101 #[.pointer (some ⟨t1, 0, none⟩), .pointer (some ⟨t2, 0, none⟩)] encD (fun _ _ => False) (fun _ _ => True) (KpS fun k => k = t1 ∨ k = t2 ∨ k = B)
      (fun ys => ys = oL (vL L n) (mallP) (dysOf L n)) (fun pre => ∃ k, pre = oL (vL L n) (mallP) ((dysOf L n).take k)) 1001 w := by
  have HVV := Lib.hid (vl_iff.1 hv)
  have HL1 := Lib.hid h1
  have HL2 := Lib.hid h2
  have HRR := Lib.hid hR
  have l1 := ltb h1
  have l2 := ltb h2
  have l3 := hR.lt
  clear hv h1 h2 hR
  intro l J Jx W hW hJ hJx hO hOx hY h0
  have HY := Lib.hid hY
  have HJ := Lib.hid hJ
  have HOO := Lib.hid hO
  have HW := Lib.hid hW
  have zW := hW.size
  clear hY hJ hJx hO hOx
  have c1 := hW.cell (p := ⟨t1, 0, none⟩) l1
  have HK := Lib.hid (show ∀ X, Below w.heap.size w X → X.cell? ⟨t1, 0, none⟩ = some (.map (some B)) ∧ X.cell? ⟨t2, 0, none⟩ = some (.func (.func 63) #[] #[]) ∧ Rec X B n (vL L n) from fun X hX =>
    ⟨(hX.cell (p := ⟨t1, 0, none⟩) l1).trans HL1.out, (hX.cell (p := ⟨t2, 0, none⟩) l2).trans HL2.out, HRR.out.same (hX.block B l3)⟩)
  have HKK := Lib.hid (show ∀ X Y, X.cell? ⟨t1, 0, none⟩ = some (.map (some B)) ∧ X.cell? ⟨t2, 0, none⟩ = some (.func (.func 63) #[] #[]) ∧ Rec X B n (vL L n) → KpS (fun k => k = t1 ∨ k = t2 ∨ k = B) X Y → Y.cell? ⟨t1, 0, none⟩ = some (.map (some B)) ∧ Y.cell? ⟨t2, 0, none⟩ = some (.func (.func 63) #[] #[]) ∧ Rec Y B n (vL L n) from fun X Y h hk =>
    ⟨hk.cell (.inl rfl) h.1, hk.cell (.inr (.inl rfl)) h.2.1, h.2.2.same (hk.2 B (.inr (.inr rfl)))⟩)
  have HBK := Lib.hid (show ∀ X Y, W.heap.size ≤ X.heap.size → Bl X Y → KpS (fun k => k = t1 ∨ k = t2 ∨ k = B) X Y from fun X Y hx hb => KpS.bl hb (fun k hk => by rcases hk with rfl | rfl | rfl <;> omega))
  clear c1
  have W1 := HK.out W hW
  obtain ⟨w1, w2, w3⟩ := W1
  refine callsIn_of_wp Try.func101 rfl trivial ?_ rfl
  simp only [Try.ntmps101, List.size_toArray, List.length_cons, List.length_nil, Nat.reduceAdd, Nat.reduceSub, Array.replicate_succ, Array.replicate_zero, List.push_toArray, List.append_toArray, List.nil_append, List.cons_append]
  gi_wp2_with fail
  refine ⟨trivial, ?_⟩
  gi_at_call 102
  refine (callsIn_wide.2 (days_any B n (vL L n) _ w3 HVV.out.1 (fun d f h => by
      obtain ⟨x, hx⟩ := Option.isSome_iff_exists.1 h
      have := lst_day HVV.out.2 hx
      unfold rng; omega))).mono ?_
  rintro e1 V ⟨⟨v, dl, rfl, hd, -, hown⟩, hb⟩
  obtain rfl := dys_eq hd
  have hdl := dys_len L n
  obtain ⟨m, hm⟩ : ∃ m, m = (dysOf L n).length := ⟨_, rfl⟩
  have HM := Lib.hid hm
  have HOWN := Lib.hid hown
  have zV := hb.size
  have HVJ := Lib.hid (show J [] (fun _ => False) V from HJ.out _ _ _ _ h0 hb (fun _ h => h.elim))
  have HVW := Lib.hid (HKK.out _ _ ⟨w1, w2, w3⟩ (HBK.out _ _ (Nat.le_refl _) hb))
  have HVB := Lib.hid hb
  have hlen : ∃ A c, v = .slice A (dysOf L n).length c := by
    rcases hown.2 with ⟨rfl, h0⟩ | ⟨g, cap, cur, rfl, _⟩
    · exact ⟨none, 0, by rw [h0]⟩
    · exact ⟨_, _, rfl⟩
  obtain ⟨A2, c2, rfl⟩ := hlen
  rw [← hm] at hdl HOWN
  rw [← hm]
  have hmb : m ≤ 1000 := by have := HVV.out.1; omega
  clear hm hb hown hd w1 w2 w3 h0
  gi_wp2_with fail
  gi_loopw [11] (fun i wr => ∃ (k : Nat) (O : Nat → Prop), k ≤ m ∧ i = .int .i64 k ∧ Hid (J (oL (vL L n) (mallP) ((dysOf L n).take k)) O wr) ∧ Hid (wr.ownsRow W.heap.size 3 1 (.slice A2 m c2) m (intL (dysOf L n))) ∧ Hid (∀ g, Value.ownBlock (.slice A2 m c2) = some g → ¬ O g) ∧ Hid (wr.cell? ⟨t1, 0, none⟩ = some (.map (some B)) ∧ wr.cell? ⟨t2, 0, none⟩ = some (.func (.func 63) #[] #[]) ∧ Rec wr B n (vL L n)) ∧ W.heap.size ≤ wr.heap.size) (fun i _ => m - (RowKit.intOf i).toNat)
  case atStart => exact ⟨0, fun _ => False, Nat.zero_le _, rfl, HVJ.out, HOWN.out, (fun _ _ h => h), HVW.out, zV⟩
  case round =>
    obtain ⟨k, O, hk, rfl, HJ1, HROW, HNO, HC, zr⟩ := hrel
    have x1 := HC.out.1
    by_cases hlt : k < m
    · have hs := (isL_of_own (l := dysOf L n) HM.out HROW.out)
      obtain ⟨A3, c3, e3, -, -, hs, -⟩ := hs
      obtain ⟨rfl, -, rfl⟩ : A2 = A3 ∧ m = (dysOf L n).length ∧ c2 = c3 := by simpa using e3
      obtain ⟨b', off, rfl, hbb, c0⟩ := asg_at (l := dysOf L n) (k := k) hs (by rw [← HM.out]; exact hlt)
      have HT := Lib.hid (take_succ_getD (dysOf L n) (k := k) (by rw [← HM.out]; exact hlt))
      have HLT := Lib.hid (oL_lt (vL L n) (mallP) (l := dysOf L n) (k := k) (by rw [← HM.out]; exact hlt) (by rw [← HM.out]; have := HVV.out.1; omega))
      have hdr : 0 ≤ (dysOf L n).getD k 0 ∧ (dysOf L n).getD k 0 ≤ 182985 := by
        have hm : (dysOf L n).getD k 0 ∈ dysOf L n := by
          have hk' : k < (dysOf L n).length := by rw [← HM.out]; exact hlt
          simp [List.getD, hk']
        obtain ⟨j, hj, e⟩ := dys_mem.1 hm
        have := en_iff.1 (HVV.out.2 j hj)
        rw [← e]; omega
      obtain ⟨d, hd⟩ : ∃ d, d = (dysOf L n).getD k 0 := ⟨_, rfl⟩
      rw [← hd] at c0 HT hdr
      clear hd e3 hs
      have HTT := Lib.hid (show oL (vL L n) (mallP) ((dysOf L n).take (k + 1)) = oL (vL L n) (mallP) ((dysOf L n).take k) ++ selD (vL L n) (mallP) d by rw [HT.out, oL_snoc])
      have HDR := Lib.hid hdr
      clear hdr
      gi_wp2_with fail
      refine ⟨trivial, ?_⟩
      gi_at_call 65
      refine (callsIn_wide.2 (off_any B n _ d _ HC.out.2.2 (by have := HDR.out; unfold rng; omega) (fun f x h => lst_bd HVV.out.2 h))).mono ?_
      rintro e2 X1 ⟨rfl, hb⟩
      have zX := hb.size
      have HC1 := Lib.hid (HKK.out _ _ HC.out (HBK.out _ _ zr hb))
      have HJ2 := Lib.hid (HJ.out _ O _ _ HJ1.out (hb.mono zr) (fun i hi => hb.block i (HOO.out _ _ _ HJ1.out i hi).2))
      have HROW1 := Lib.hid (own_bN HROW.out hb)
      have x2 := HC1.out.2.1
      clear hb c0
      cases hq : offV (vL L n) d with
      | none =>
        have HE := Lib.hid (show encO (offV (vL L n) d) = .tuple #[.int .i64 0, .bool false] by rw [hq]; rfl)
        have HN := Lib.hid (show oL (vL L n) (mallP) ((dysOf L n).take (k + 1)) = oL (vL L n) (mallP) ((dysOf L n).take k) by rw [HTT.out, sel_none hq, List.append_nil])
        rw [show encO (none : Option Int) = .tuple #[.int .i64 0, .bool false] from rfl]
        clear hq
        gi_wp2_with fail
        refine ⟨fun _ h => (by cases h), ?_⟩
        gi_wp2_with fail
        go_roundw
        case rel => exact ⟨k + 1, O, by omega, by go_num, by rw [HN.out]; exact HJ2.out, HROW1.out, HNO.out, HC1.out, by omega⟩
        case measure => simp [RowKit.intOf]; omega
      | some x =>
        have hxb := off_bd HVV.out.2 (show offO L n d = some x from hq)
        have HXB := Lib.hid hxb
        have HQ := Lib.hid hq
        rw [show encO (some x) = .tuple #[.int .i64 x, .bool true] from rfl]
        clear hq hxb
        gi_wp2_with fail
        refine ⟨trivial, ?_⟩
        gi_at_call 63
        refine (callsIn_wide.2 (mall_any d x _)).mono ?_
        rintro e3 X2 ⟨rfl, hb⟩
        have zX2 := hb.size
        have HC2 := Lib.hid (HKK.out _ _ HC1.out (HBK.out _ _ (by omega) hb))
        have HJ3 := Lib.hid (HJ.out _ O _ _ HJ2.out (hb.mono (by omega)) (fun i hi => hb.block i (HOO.out _ _ _ HJ2.out i hi).2))
        have HROW2 := Lib.hid (own_bN HROW1.out hb)
        clear hb
        cases hp : (mallP) d x with
        | false =>
          have HN := Lib.hid (show oL (vL L n) (mallP) ((dysOf L n).take (k + 1)) = oL (vL L n) (mallP) ((dysOf L n).take k) by rw [HTT.out, sel_no HQ.out hp, List.append_nil])
          try rw [show (mallP) d x = false from hp]
          clear hp
          gi_wp2_with fail
          refine ⟨fun _ h => (by cases h), ?_⟩
          gi_wp2_with fail
          go_roundw
          case rel => exact ⟨k + 1, O, by omega, by go_num, by rw [HN.out]; exact HJ3.out, HROW2.out, HNO.out, HC2.out, by omega⟩
          case measure => simp [RowKit.intOf]; omega
        | true =>
          have HN := Lib.hid (show oL (vL L n) (mallP) ((dysOf L n).take (k + 1)) = oL (vL L n) (mallP) ((dysOf L n).take k) ++ [toDO d x] by rw [HTT.out, sel_yes HQ.out hp])
          try rw [show (mallP) d x = true from hp]
          clear hp
          obtain ⟨fn, tmps, assign, body, hy, hR⟩ := HY.out _ (toDO d x) O X2 HJ3.out trivial (fun _ h => h.elim) HLT.out
          simp only [encD, toDO_at ⟨HDR.out.1, HDR.out.2, HXB.out.1, HXB.out.2⟩] at hy
          gi_wp2_with fail
          refine hR.mono ?_
          rintro e4 X3 ⟨O', hO', hkb, ⟨rfl, hJ4, hk4⟩ | ⟨rfl, hJ4⟩⟩
          · have HC3 := Lib.hid (HKK.out _ _ HC2.out hk4)
            have hlr := HROW2.out.lt
            have HROW3 := Lib.hid (row_kept HROW2.out (fun g hg => hkb.same g (hlr g hg).1 (hlr g hg).2 (fun q => by rcases q with q | q; exact HNO.out g hg q; exact q)))
            have HNO3 := Lib.hid (show ∀ g, Value.ownBlock (.slice (some ⟨b', off, none⟩) m c2) = some g → ¬ O' g from fun g hg q => by
              rcases hO' g q with q | q | q
              · exact HNO.out g hg q
              · exact q
              · have := (hlr g hg).2; omega)
            have HJ5 := Lib.hid hJ4
            have zX3 := hkb.size
            clear hJ4 hk4 hkb hO' hlr hR hy
            gi_wp2_with fail
            go_roundw
            case rel => exact ⟨k + 1, O', by omega, by go_num, by rw [HN.out]; exact HJ5.out, HROW3.out, HNO3.out, HC3.out, by omega⟩
            case measure => simp [RowKit.intOf]; omega
          · gi_wp2_with fail
            refine bodyPost_ret (results_none rfl _ _ _) rfl ?_
            exact ⟨⟨_, rfl⟩, .inr ⟨_, O', ⟨k + 1, HN.out.symm⟩, hJ4⟩⟩
    · obtain rfl : k = m := by omega
      have HN := Lib.hid (show oL (vL L n) (mallP) ((dysOf L n).take k) = oL (vL L n) (mallP) (dysOf L n) by rw [HM.out, List.take_length])
      gi_wp2_with fail
      go_end0
      exact ⟨⟨_, rfl⟩, .inl ⟨_, O, HN.out, HJ1.out⟩⟩
end Go.Proofs.Ytbmenpfpeadckaa
