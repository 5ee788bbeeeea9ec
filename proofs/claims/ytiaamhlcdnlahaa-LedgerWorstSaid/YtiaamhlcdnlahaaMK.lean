/-
  Package ledger: Letters and Fine of both.
-/
import Derived.Test.YtiaamhlcdnlahaaMG
namespace Go.Proofs.Ytiaamhlcdnlahaa
open Go.RowKit Go.Maps Go.Shelf
set_option linter.unusedSimpArgs false
set_option linter.unusedVariables false

theorem sel_mem {L : Nat → En} {n : Nat} (hv : vlB L n = true) {P : Int → Int → Bool} {d : Int} (h : selB (vL L n) P d = true) : ∃ x, offO L n d = some x ∧ P d x = true ∧ -172800000 ≤ x ∧ x ≤ 172800000 := by
  unfold selB at h
  cases q : offV (vL L n) d with
  | none => rw [q] at h; cases h
  | some x => rw [q] at h; exact ⟨x, q, h, off_bd (vl_iff.1 hv).2 (show offO L n d = some x from q)⟩
theorem pick_mem {L : Nat → En} {n : Nat} (hv : vlB L n = true) {P : Int → Int → Bool} {d : Int} (hd : d ∈ pickF L n P) : (0 ≤ d ∧ d ≤ 182985) ∧ ∃ x, offO L n d = some x ∧ -172800000 ≤ x ∧ x ≤ 172800000 := by
  obtain ⟨h1, h2⟩ := List.mem_filter.1 hd
  obtain ⟨x, e, -, hb⟩ := sel_mem hv h2
  exact ⟨dys_rng hv h1, x, e, hb⟩
theorem sel_at {L : Nat → En} {n : Nat} {P : Int → Int → Bool} {d x : Int} (h : offO L n d = some x) : selB (vL L n) P d = P d x := by
  unfold selB
  rw [show offV (vL L n) d = some x from h]
theorem pick_pick (L : Nat → En) (n : Nat) (P : Int → Int → Bool) : (pickF L n mallP).filter (selB (vL L n) P) = pickF L n P := by
  unfold pickF
  rw [List.filter_filter]
  refine List.filter_congr fun d _ => ?_
  rw [selB_all]
  unfold selB
  cases offV (vL L n) d <;> simp
/-- The first error of a ledger and a bound. -/
def lC (L : Nat → En) (n : Nat) (m : Int) : Int := if vlB L n = true then (if bndB m = true then 0 else 7) else 1
set_option maxHeartbeats 400000 in
theorem rabs_any (x : Int) (w : World) (hx : -172800000 ≤ x ∧ x ≤ 172800000) : Calls Try.prog 42 #[.int .i64 x] w fun e w' => e = .returned (.int .i64 (absI x)) ∧ w' = w := by
  have e1 : wrap64 (-x) = -x := IntWalk.wrap64_in _ (by omega)
  have e2 : IntKind.i64.wrap (-x) = -x := IntWalk.i64_in _ (by omega)
  by_cases h : x < 0
  · have HA := Lib.hid (show absI x = -x by unfold absI; omega)
    go_enter Try.func42, Try.ntmps42
    go_wp2_with fail
    go_ret
    exact ⟨by rw [HA.out]; first | rfl | simp [e1, e2], rfl⟩
  · have HA := Lib.hid (show absI x = x by unfold absI; omega)
    go_enter Try.func42, Try.ntmps42
    go_wp2_with fail
    go_ret
    exact ⟨by rw [HA.out]; rfl, rfl⟩
theorem lC_1 {L : Nat → En} {n : Nat} {m : Int} (h : vlB L n = false) : lC L n m = 1 := by rw [lC, if_neg (by rw [h]; decide)]
theorem lC_7 {L : Nat → En} {n : Nat} {m : Int} (h : vlB L n = true) (hb : bndB m = false) : lC L n m = 7 := by rw [lC, if_pos h, if_neg (by rw [hb]; decide)]
theorem lC_0 {L : Nat → En} {n : Nat} {m : Int} (h : vlB L n = true) (hb : bndB m = true) : lC L n m = 0 := by rw [lC, if_pos h, if_pos hb]
set_option maxHeartbeats 1600000 in
theorem rbounded_any (A : Option Addr) (n c : Nat) (L : Nat → En) (m : Int) (w : World) (hA : El w A n L) (hn : n ≤ maxLen) :
    Calls Try.prog 82 #[.slice A n c, .int .i64 m] w fun e w' => e = .returned (.int .i64 (lC L n m)) ∧ Bl w w' := by
  have HR := Lib.hid (fun (X : World) (hb : Bl w X) => rvalidE_any A n c L X (hA.below hb) hn)
  clear hA hn
  cases hv : vlB L n with
  | false =>
    have HV := Lib.hid hv
    have HC := Lib.hid (lC_1 (m := m) hv)
    clear hv
    go_enter Try.func82, Try.ntmps82
    go_wp2_with fail
    refine (HR.out _ (by go_grown)).mono ?_
    rintro e1 w1 ⟨rfl, hb⟩
    rw [HV.out]
    go_wp2_with fail
    go_ret
    exact ⟨by rw [HC.out]; rfl, hb⟩
  | true =>
    have HV := Lib.hid hv
    have H0 := Lib.hid (fun (h : 0 ≤ m ∧ m ≤ 86400000) => lC_0 hv (show bndB m = true by simp [bndB]; exact h))
    have H7 := Lib.hid (fun (h : ¬ (0 ≤ m ∧ m ≤ 86400000)) => lC_7 hv (show bndB m = false by
      cases q : bndB m with
      | false => rfl
      | true => exact absurd (by simpa [bndB] using q) h))
    clear hv
    go_enter Try.func82, Try.ntmps82
    go_wp2_with fail
    refine (HR.out _ (by go_grown)).mono ?_
    rintro e1 w1 ⟨rfl, hb⟩
    rw [HV.out]
    go_wp2
    all_goals
      go_ret
      refine ⟨?_, hb⟩
      first
        | (rw [H0.out (by omega)]; rfl)
        | (rw [H7.out (by omega)]; rfl)
set_option maxRecDepth 100000 in
set_option maxHeartbeats 3200000 in
theorem letters_any (A : Option Addr) (n c : Nat) (L : Nat → En) (m : Int) (w : World) (hA : El w A n L) (hn : n ≤ maxLen) :
    Calls Try.prog 38 #[.slice A n c, .int .i64 m] w (IntPost (lC L n m) (pickF L n (mletterP m)) w) := by
  have HR := Lib.hid (fun (X : World) (hb : Bl w X) => recordOf_any A n c L X (hA.below hb) hn)
  clear hA hn
  cases hv : vlB L n with
  | false =>
    have HV := Lib.hid hv
    have HC := Lib.hid (lC_1 (m := m) hv)
    clear hv
    go_enter Try.func38, Try.ntmps38
    go_wp2_with fail
    refine (HR.out _ (by go_grown)).mono ?_
    rintro e1 w1 ⟨hb, ⟨-, rfl⟩ | ⟨h0, _⟩⟩
    · have B1 := Lib.hid (show Bl w w1 from Bl.tr (by go_grown) hb)
      clear hb
      go_wp2_with fail
      go_ret2
      exact ⟨B1.out, .inl ⟨by rw [HC.out]; decide, by rw [HC.out]; rfl⟩⟩
    · rw [HV.out] at h0; cases h0
  | true =>
    have HV := Lib.hid hv
    have HC0 := Lib.hid (fun (h : bndB m = true) => lC_0 hv h)
    have HC7 := Lib.hid (fun (h : bndB m = false) => lC_7 hv h)
    clear hv
    go_enter Try.func38, Try.ntmps38
    go_wp2_with fail
    refine (HR.out _ (by go_grown)).mono ?_
    rintro e1 w1 ⟨hb, ⟨h0, _⟩ | ⟨-, B, rfl, hB, hR⟩⟩
    · rw [HV.out] at h0; cases h0
    · have B1 := Lib.hid (show Bl w w1 from Bl.tr (by go_grown) hb)
      have RR := Lib.hid hR
      have z1 := B1.out.size
      have x0 := kcb hb (b := w.heap.size) (o := 0) (v := .int .i64 m) (by go_cell)
      have lx := ltb x0
      clear hb hR
      go_wp2_with fail
      refine (isBound_any m _).mono ?_
      rintro e4 w4 ⟨rfl, rfl⟩
      cases hb : bndB m with
      | false =>
        have HC := Lib.hid (HC7.out hb)
        clear hb
        go_wp2_with fail
        go_ret2
        exact ⟨B1.out, .inl ⟨by rw [HC.out]; decide, by rw [HC.out]; rfl⟩⟩
      | true =>
        have HC := Lib.hid (HC0.out hb)
        clear hb
        go_wp2_with fail
        refine (offsR_any B 83 #[.pointer (some ⟨w.heap.size, 0, none⟩)] _).mono ?_
        rintro e2 w2 ⟨rfl, ⟨h1, h2⟩, hb⟩
        have B2 := Lib.hid (B1.out.tr hb)
        have RR2 := Lib.hid (RR.out.below hb)
        have x0 := kcb hb x0
        have HS := Lib.hid (offs2_seq _ _ B n w.heap.size m L w2 HV.out h1 h2 RR2.out x0)
        have HK := Lib.hid (show ∀ k, (k = w1.heap.size ∨ k = w1.heap.size + 1 ∨ k = B ∨ k = w.heap.size) → k < w2.heap.size by
          have l1 := ltb h1
          have l2 := ltb h2
          have l3 := RR2.out.lt
          have l4 := ltb x0
          rintro k (rfl | rfl | rfl | rfl) <;> omega)
        clear hb h1 h2
        go_wp2_with fail
        refine (daysOf_any w2 HK.out HS.out).mono ?_
        rintro e3 w3 ⟨⟨v, xs, rfl, hxs, hown, hlen⟩, hb⟩
        have z2 := B2.out.size
        have B3 := Lib.hid (B2.out.tr hb)
        have HO := Lib.hid (show w3.ownsRow w.heap.size 3 1 v (pickF L n (mletterP m)).length (intL (pickF L n (mletterP m))) by
          rw [← oL_pick HV.out (mletterP m), ← hxs, List.length_map]
          exact own_mono hown z2)
        clear hb hown hxs hlen
        go_wp2_with fail
        go_ret2
        exact ⟨B3.out, .inr ⟨HC.out, v, rfl, HO.out⟩⟩
set_option maxRecDepth 100000 in
set_option maxHeartbeats 6400000 in
theorem rletters_any (A : Option Addr) (n c : Nat) (L : Nat → En) (q : Int) (w : World) (hA : El w A n L) (hn : n ≤ maxLen) :
    Calls Try.prog 39 #[.slice A n c, .int .i64 q] w (IntPost (lC L n q) (pickF L n (mletterP q)) w) := by
  have HR := Lib.hid (fun (X : World) (hb : Bl w X) => rbounded_any A n c L q X (hA.below hb) hn)
  have HA := Lib.hid hA
  by_cases hc : lC L n q = 0
  · have hvl : vlB L n = true := by
      cases hv : vlB L n with
      | true => rfl
      | false => rw [lC_1 hv] at hc; cases hc
    have HC := Lib.hid hc
    have HVL := Lib.hid hvl
    have HN := Lib.hid (vl_iff.1 hvl).1
    have HOF := Lib.hid (fun (d : Int) (X : World) (hX : Bl w X) => roff_any A n c L d X (hA.below hX) hn (fun f x h => lst_bd (vl_iff.1 hvl).2 h))
    clear hA hn hc hvl
    obtain ⟨i0, hi0, hz0, hz1, hz2⟩ := info_parts6N int_infoN
    have HI := Lib.hid (And.intro hi0 (And.intro hz0 (And.intro hz1 hz2)))
    clear hi0 hz0 hz1 hz2
    go_enter Try.func39, Try.ntmps39
    go_wp2_with fail
    refine (HR.out _ (by go_grown)).mono ?_
    rintro e1 w0 ⟨rfl, hb⟩
    rw [HC.out]
    have B0 := Lib.hid hb
    clear hb
    go_wp2_with fail
    refine (rdays_any A n c L _ (HA.out.below B0.out) HVL.out).mono ?_
    rintro e1 w1 ⟨⟨v, rfl, hown⟩, hb⟩
    have B1 := Lib.hid (B0.out.tr hb)
    have z1 := B1.out.size
    obtain ⟨l, hl⟩ : ∃ l, l = pickF L n mallP := ⟨_, rfl⟩
    have HRNG := Lib.hid (fun d (hd : d ∈ l) => pick_mem HVL.out (show d ∈ pickF L n mallP by rw [← hl]; exact hd))
    have hml : l.length ≤ 1000 := by rw [hl]; exact Nat.le_trans (pick_len L n mallP) HN.out
    have HLL := Lib.hid hl
    rw [← hl] at hown
    obtain ⟨A2, c2, rfl, -, -, -, -⟩ := isL_of_own rfl hown
    obtain ⟨m, hm⟩ : ∃ m, m = l.length := ⟨_, rfl⟩
    have HM := Lib.hid hm
    rw [← hm] at hown hml
    rw [← hm]
    have HOWN := Lib.hid hown
    clear hb hown hl hm
    go_wp2_with fail
    have NV := Lib.hid (show w1.ownsRow w1.heap.size 3 1 (.slice none 0 0) ((l.take 0).filter (selB (vL L n) (mletterP q))).length (intL ((l.take 0).filter (selB (vL L n) (mletterP q)))) from World.ownsRow_nil _ _ _ _)
    go_loopw [7, 21] (fun out i wr => ∃ (k : Nat) (sv : Value), sv = out ∧ k ≤ m ∧ i = .int .i64 k ∧ Hid (wr.ownsRow w1.heap.size 3 1 sv ((l.take k).filter (selB (vL L n) (mletterP q))).length (intL ((l.take k).filter (selB (vL L n) (mletterP q))))) ∧ Hid (Bl w1 wr)) (fun _ i _ => m - (RowKit.intOf i).toNat)
    case atStart => exact ⟨0, _, rfl, Nat.zero_le _, rfl, NV.out, Bl.rf _⟩
    case round =>
      clear NV
      obtain ⟨k, sv, rfl, hk, rfl, HO, HZ⟩ := hrel
      have zr := HZ.out.size
      by_cases hlt : k < m
      · obtain ⟨A3, c3, e3, -, -, hs, -⟩ := isL_of_own (l := l) HM.out (own_bN HOWN.out HZ.out)
        obtain ⟨rfl, -, rfl⟩ : A2 = A3 ∧ m = l.length ∧ c2 = c3 := by simpa using e3
        obtain ⟨b', off, rfl, hbb, c0⟩ := asg_at (l := l) (k := k) hs (by rw [← HM.out]; exact hlt)
        have HT := Lib.hid (take_succ_getD l (k := k) (by rw [← HM.out]; exact hlt))
        have hdm : l.getD k 0 ∈ l := by
          have hk' : k < l.length := by rw [← HM.out]; exact hlt
          simp [List.getD, hk']
        have HDM := Lib.hid hdm
        have HDR := Lib.hid (HRNG.out _ hdm)
        obtain ⟨d, hd⟩ : ∃ d, d = l.getD k 0 := ⟨_, rfl⟩
        rw [← hd] at c0 HT HDR HDM
        clear hd e3 hs hdm
        have HL := Lib.hid (show ((l.take k).filter (selB (vL L n) (mletterP q))).length ≤ k from Nat.le_trans (List.length_filter_le _ _) (by simp [List.length_take]; omega))
        go_wp2_with fail
        refine (HOF.out d _ (B1.out.tr HZ.out)).mono ?_
        rintro e2 X0 ⟨⟨z, rfl, hz⟩, hb⟩
        obtain ⟨-, x, hx, hxb⟩ := HDR.out
        have HXV := Lib.hid hx
        obtain rfl := hz x hx
        rw [hx, Option.isSome_some]
        have HX0 := Lib.hid hb
        clear hb hz hx
        go_wp2_with fail
        refine (rabs_any z _ hxb).mono ?_
        rintro e3 X ⟨rfl, rfl⟩
        have HX := HX0
        have HP := Lib.hid ((sel_at (P := mletterP q) HXV.out).trans (show mletterP q d z = decide (q < absI z) from rfl))
        obtain ⟨az, haz⟩ : ∃ a, a = absI z := ⟨_, rfl⟩
        rw [← haz] at HP
        rw [← haz]
        clear haz
        by_cases hq : q < az
        · have hp : selB (vL L n) (mletterP q) d = true := HP.out.trans (decide_eq_true hq)
          have HF := Lib.hid (show (l.take (k + 1)).filter (selB (vL L n) (mletterP q)) = (l.take k).filter (selB (vL L n) (mletterP q)) ++ [d] by rw [HT.out, List.filter_append]; simp [hp])
          have HO2 := Lib.hid (own_bN HO.out HX.out)
          have HZ2 := Lib.hid (HZ.out.tr HX.out)
          have zx := HZ2.out.size
          have hlk := HL.out
          clear hp
          obtain ⟨F, hF⟩ : ∃ F, F = (l.take k).filter (selB (vL L n) (mletterP q)) := ⟨_, rfl⟩
          rw [← hF] at HF HO2 hlk
          clear hF
          have hnew := Lib.hid (heap_alloc_new X (.cells #[.int .i64 d] 3))
          go_wp2_with (at_builtin; refine wpList_append_lies _ rfl _ _ _ rfl w1.heap.size 3 i0 _ 1 8 Try.underlying29 HI.out.1 HI.out.2.1 HI.out.2.2.1 HI.out.2.2.2 rfl (by omega) _ F.length (intL F) rfl (HO2.out.alloc _) ⟨X.heap.size, 0, none⟩ 1 1 [.int .i64 d] rfl rfl (World.news_of_block hnew.out) (by simp [Value.oneCell']) (by omega) (by unfold maxLen; omega) (by omega) (by (try simp only [World.size_alloc]); omega) _ rfl ?_; intro gg cap w9 hown1 hgrow hat hlt9)
          have HO9 := Lib.hid (show w9.ownsRow w1.heap.size 3 1 (.slice (some ⟨gg, 0, none⟩) (F.length + 1) cap) (F ++ [d]).length (intL (F ++ [d])) by
            rw [intL_snoc, List.length_append, List.length_singleton]; exact hown1)
          have HB9 := Lib.hid (show Bl w1 w9 from Below.grown (HZ2.out.tr (by go_grown)) hgrow (by (try simp only [World.size_alloc]); omega) (fun j hj => (HO2.out.lt j hj).1))
          clear hown1 hgrow hat
          go_roundw
          case rel => exact ⟨k + 1, _, rfl, by omega, by go_num, by rw [HF.out]; exact HO9.out, HB9.out⟩
          case measure => simp [RowKit.intOf]; omega
        · have hp : selB (vL L n) (mletterP q) d = false := HP.out.trans (decide_eq_false hq)
          have HF := Lib.hid (show (l.take (k + 1)).filter (selB (vL L n) (mletterP q)) = (l.take k).filter (selB (vL L n) (mletterP q)) by rw [HT.out, List.filter_append]; simp [hp])
          have HO2 := Lib.hid (own_bN HO.out HX.out)
          have HZ2 := Lib.hid (HZ.out.tr HX.out)
          clear hp
          go_wp2_with fail
          go_roundw
          case rel => exact ⟨k + 1, _, rfl, by omega, by go_num, by rw [HF.out]; exact HO2.out, HZ2.out⟩
          case measure => simp [RowKit.intOf]; omega
      · obtain rfl : k = m := by omega
        have HF := Lib.hid (show (l.take k).filter (selB (vL L n) (mletterP q)) = l.filter (selB (vL L n) (mletterP q)) by rw [HM.out, List.take_length])
        rw [HF.out] at HO
        go_wp2_with fail
        go_ret2
        have HB9 := B1.out.tr HZ.out
        refine ⟨HB9, .inr ⟨HC.out, _, rfl, ?_⟩⟩
        rw [← pick_pick, ← HLL.out]
        exact own_mono HO.out z1
  · have HC := Lib.hid hc
    have HC1n := Lib.hid (show (lC L n q != 0) = true by simpa using hc)
    clear hA hn hc
    obtain ⟨C, hCC⟩ : ∃ C, C = lC L n q := ⟨_, rfl⟩
    rw [← hCC] at HC HC1n HR
    rw [← hCC]
    clear hCC
    have hC1n := HC1n.out
    go_enter Try.func39, Try.ntmps39
    go_wp2_with fail
    refine (HR.out _ (by go_grown)).mono ?_
    rintro e1 w1 ⟨rfl, hb⟩
    go_wp2_with fail
    go_ret2
    exact ⟨hb, .inl ⟨HC.out, rfl⟩⟩
end Go.Proofs.Ytiaamhlcdnlahaa
