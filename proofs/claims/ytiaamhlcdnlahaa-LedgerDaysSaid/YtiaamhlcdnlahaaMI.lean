/-
  Package ledger: Unfound: slices.IndexFunc and slices.DeleteFunc with a closure that allocates.
-/
import Derived.Test.YtiaamhlcdnlahaaMG
import Derived.Lib.SliceRun
import Derived.Deep.Upon
import Derived.Shelf.SlSortFuncK.RowK2
namespace Go.Proofs.Ytiaamhlcdnlahaa
open Go.RowKit Go.Maps Go.Shelf
set_option linter.unusedSimpArgs false
set_option linter.unusedVariables false

set_option maxHeartbeats 800000 in
theorem unfC_any (p B n : Nat) (L : Nat → En) (d : Int) (w : World) (h : w.cell? ⟨p, 0, none⟩ = some (.map (some B))) (hR : Rec w B n (vL L n)) (hd : rng d) :
    Calls Try.prog 71 #[.int .i64 d, .pointer (some ⟨p, 0, none⟩)] w fun e w' => e = .returned (.bool (lst L d true n).isSome) ∧ Bl w w' := by
  have HR := Lib.hid hR
  have HD := Lib.hid hd
  clear hR hd
  go_enter Try.func71, Try.ntmps71
  go_wp2_with fail
  refine (has_any B n _ d true _ (HR.out.below (by first | exact Bl.rf _ | go_grown)) HD.out).mono ?_
  rintro e1 w1 ⟨rfl, hb⟩
  go_wp2_with fail
  go_ret
  exact ⟨rfl, hb⟩
/-- What a search returns. -/
def FstAt (l : List Int) (del : Int → Bool) (m : Nat) (i : Int) : Prop := (i = -1 ∧ ∀ j, j < m → del (l.getD j 0) = false) ∨ ∃ k : Nat, i = k ∧ k < m ∧ del (l.getD k 0) = true ∧ ∀ j, j < k → del (l.getD j 0) = false
set_option maxRecDepth 100000 in
set_option maxHeartbeats 1600000 in
theorem indexU_any (A : Option Addr) (m c p : Nat) (l : List Int) (del : Int → Bool) (w : World) (hm : m ≤ 1000) (hA : Sl w A m (fun j => l.getD j 0))
    (hD : ∀ (X : World) (j : Nat), Bl w X → j < m → Calls Try.prog 71 #[.int .i64 (l.getD j 0), .pointer (some ⟨p, 0, none⟩)] X fun e w' => e = .returned (.bool (del (l.getD j 0))) ∧ Bl X w') :
    Calls Try.prog 88 #[.slice A m c, .func (.func 71) #[] #[.pointer (some ⟨p, 0, none⟩)]] w fun e w' => (∃ i : Int, e = .returned (.int .i64 i) ∧ FstAt l del m i) ∧ Bl w w' := by
  have HA := Lib.hid hA
  have HD := Lib.hid hD
  clear hA hD
  go_enter Try.func88, Try.ntmps88
  go_wp2_with fail
  go_loopw [8] (fun i wr => ∃ k : Nat, k ≤ m ∧ i = .int .i64 k ∧ Hid (∀ j, j < k → del (l.getD j 0) = false) ∧ Hid (Bl w wr)) (fun i _ => m - (RowKit.intOf i).toNat)
  case atStart => exact ⟨0, Nat.zero_le _, rfl, fun j hj => absurd hj (by omega), Bl.rf _⟩
  case round =>
    obtain ⟨k, hk, rfl, HN, HB⟩ := hrel
    by_cases hlt : k < m
    · obtain ⟨b', off, rfl, hbb, hc⟩ := (HA.out.below HB.out) (by omega)
      have c0 := hc k hlt
      clear hc
      have HC := Lib.hid (HD.out _ k HB.out hlt)
      obtain ⟨y, hy⟩ : ∃ y, y = l.getD k 0 := ⟨_, rfl⟩
      have HY := Lib.hid hy
      simp only [← hy] at c0 HC
      clear hy
      obtain ⟨q, hq⟩ : ∃ q, q = del y := ⟨_, rfl⟩
      rw [← hq] at HC
      have HQ := Lib.hid hq
      clear hq
      go_wp2_with fail
      refine HC.out.mono ?_
      rintro e w1 ⟨rfl, hb⟩
      have B1 := Lib.hid (HB.out.tr hb)
      clear hb
      cases q with
      | false =>
        have HI := Lib.hid (show ∀ j, j < k + 1 → del (l.getD j 0) = false from fun j hj => by
          by_cases e : j = k
          · rw [e, ← HY.out]; exact HQ.out.symm
          · exact HN.out j (by omega))
        go_wp2_with fail
        go_roundw
        case rel => exact ⟨k + 1, by omega, by go_num, HI.out, B1.out⟩
        case measure => simp [RowKit.intOf]; omega
      | true =>
        go_wp2_with fail
        go_ret
        exact ⟨⟨(k : Int), rfl, .inr ⟨k, rfl, hlt, by rw [← HY.out]; exact HQ.out.symm, HN.out⟩⟩, B1.out⟩
    · obtain rfl : m = k := by omega
      go_wp2_with fail
      go_ret
      exact ⟨⟨-1, rfl, .inl ⟨rfl, HN.out⟩⟩, HB.out⟩
theorem below_setCells {B : Nat} {w : World} (g : Nat) (hg : B ≤ g) : ∀ (vs : List Value) (o : Nat) (X : World), Below B w X → Below B w (X.setCells g o vs)
  | [], _, _, h => h
  | v :: vs, o, X, h => by
    rw [World.setCells]
    exact below_setCells g hg vs (o + 1) _ (h.setCell (p := ⟨g, o, none⟩) hg v)
/-- The cells of a row of numbers, told by a function. -/
def CelF (X : World) (g off m : Nat) (R : Nat → Int) : Prop := ∀ t, t < m → X.cell? ⟨g, off + t, none⟩ = some (.int .i64 (R t)) ∧ X.frozen? ⟨g, off + t, none⟩ = false
theorem CelF.below {X Y : World} {g off m : Nat} {R : Nat → Int} (h : CelF X g off m R) (hb : Bl X Y) : CelF Y g off m R := fun t ht => by
  have h1 := ltb (h t ht).1
  exact ⟨kcb hb (h t ht).1, (hb.frozen (p := ⟨g, off + t, none⟩) h1).trans (h t ht).2⟩
theorem CelF.set {X : World} {g off m i : Nat} {R : Nat → Int} (h : CelF X g off m R) (x : Int) : CelF (X.setCell ⟨g, off + i, none⟩ (.int .i64 x)) g off m (fun t => if t = i then x else R t) := fun t ht => by
  refine ⟨?_, by rw [World.frozen?_setCell]; exact (h t ht).2⟩
  by_cases e : t = i
  · subst e
    show _ = some (Value.int .i64 (if t = t then x else R t))
    rw [if_pos rfl]
    exact World.cell?_setCell_same _ _ _ (h t ht).1
  · show _ = some (Value.int .i64 (if t = i then x else R t))
    rw [if_neg e, World.cell?_setCell_other (h := by intro q; simp only [Addr.mk.injEq] at q; omega)]
    exact (h t ht).1
theorem flt_no {l : List Int} {del : Int → Bool} {j : Nat} (hj : j < l.length) (h : del (l.getD j 0) = true) : (l.take (j + 1)).filter (fun d => !del d) = (l.take j).filter (fun d => !del d) := by
  rw [take_succ_getD l hj, List.filter_append]
  obtain ⟨x, hx⟩ : ∃ x, x = l.getD j 0 := ⟨_, rfl⟩
  rw [← hx] at h ⊢
  simp [h]
theorem flt_yes {l : List Int} {del : Int → Bool} {j : Nat} (hj : j < l.length) (h : del (l.getD j 0) = false) : (l.take (j + 1)).filter (fun d => !del d) = (l.take j).filter (fun d => !del d) ++ [l.getD j 0] := by
  rw [take_succ_getD l hj, List.filter_append]
  obtain ⟨x, hx⟩ : ∃ x, x = l.getD j 0 := ⟨_, rfl⟩
  rw [← hx] at h ⊢
  simp [h]
theorem flt_all {l : List Int} {del : Int → Bool} {k : Nat} (hk : k ≤ l.length) (h : ∀ j, j < k → del (l.getD j 0) = false) : (l.take k).filter (fun d => !del d) = l.take k := by
  refine List.filter_eq_self.2 fun d hd => ?_
  obtain ⟨j, hj, e⟩ := List.mem_iff_getElem.1 hd
  have hj' : j < k := by rw [List.length_take] at hj; omega
  have := h j hj'
  have e2 : l.getD j 0 = d := by rw [← e]; simp [List.getD, show j < l.length by omega]
  rw [e2] at this
  simp [this]
theorem getD_take {l : List Int} {k t : Nat} (ht : t < k) : (l.take k).getD t 0 = l.getD t 0 := by
  simp [List.getD, List.getElem?_take, ht]
theorem getD_snoc (F : List Int) (x : Int) (t : Nat) (ht : t < F.length + 1) : (F ++ [x]).getD t 0 = if t = F.length then x else F.getD t 0 := by
  by_cases e : t = F.length
  · subst e; simp [List.getD]
  · rw [if_neg e]; simp [List.getD, List.getElem?_append_left (show t < F.length by omega)]
set_option maxRecDepth 100000 in
set_option maxHeartbeats 3200000 in
theorem deleteU_any (A : Option Addr) (m c p base : Nat) (l : List Int) (del : Int → Bool) (w : World) (hml : m = l.length) (hm : m ≤ 1000) (hown : w.ownsRow base 3 1 (.slice A m c) m (intL l)) (hbw : base ≤ w.heap.size)
    (hD : ∀ (X : World) (j : Nat), Below base w X → j < m → Calls Try.prog 71 #[.int .i64 (l.getD j 0), .pointer (some ⟨p, 0, none⟩)] X fun e w' => e = .returned (.bool (del (l.getD j 0))) ∧ Bl X w') :
    Calls Try.prog 69 #[.slice A m c, .func (.func 71) #[] #[.pointer (some ⟨p, 0, none⟩)]] w fun e w' => (∃ v, e = .returned v ∧ IsL w' base v (l.filter (fun d => !del d))) ∧ Below base w w' := by
  have HD := Lib.hid hD
  have HML := Lib.hid hml
  obtain ⟨A3, c3, e3, hmc, hcm, hs, hlo⟩ := isL_of_own hml hown
  obtain ⟨rfl, -, rfl⟩ : A = A3 ∧ m = l.length ∧ c = c3 := by simpa using e3
  rw [← hml] at hs hmc
  have HIX := Lib.hid (indexU_any A m c p l del w hm hs (fun X j hX hj => hD X j (hX.mono hbw) hj))
  have HO := Lib.hid hown
  have HS := Lib.hid hs
  clear hD hml e3 hs hown
  unfold maxLen at hcm
  go_enter Try.func69, Try.ntmps69
  go_wp2_with fail
  refine HIX.out.mono ?_
  rintro e w1 ⟨⟨i, rfl, hi⟩, hb⟩
  have B1 := Lib.hid hb
  clear hb
  rcases hi with ⟨rfl, hall⟩ | ⟨k, rfl, hk, hyes, hall⟩
  · have HF := Lib.hid (show l.filter (fun d => !del d) = l by
      have := flt_all (l := l) (k := l.length) (Nat.le_refl _) (fun j hj => hall j (by rw [HML.out]; exact hj))
      rwa [List.take_length] at this)
    go_wp2_with fail
    go_ret
    refine ⟨⟨_, rfl, ?_⟩, B1.out.mono hbw⟩
    rw [HF.out]
    exact isL_of_own HML.out (own_bN HO.out B1.out)
  · obtain ⟨g, off, rfl, hgb, hc⟩ := HS.out (by omega)
    have hlo := hlo _ rfl
    have HR0 := Lib.hid (show CelF w1 g off m (fun t => l.getD t 0) from fun t ht => by
      have ho := own_bN HO.out B1.out
      have ho2 := HO.out
      rcases ho.2 with ⟨e, _⟩ | ⟨g2, cap2, cur, e, _⟩
      · cases e
      · cases e
        rw [Nat.zero_add]
        refine ⟨?_, ho.frozenAt t⟩
        have := hc t ht
        rw [Nat.zero_add] at this
        exact kcb B1.out this)
    have HF0 := Lib.hid (show (l.take (k + 1)).filter (fun d => !del d) = l.take k by
      rw [flt_no (by rw [← HML.out]; exact hk) hyes, flt_all (by rw [← HML.out]; omega) hall])
    have HL0 := Lib.hid (show (l.take k).length = k by rw [List.length_take, ← HML.out]; omega)
    have HBW := Lib.hid (B1.out.mono hbw)
    clear hyes hall hc
    have kne : ¬ ((k : Int) = -1) := by omega
    go_wp2_with fail
    go_loopw [5, 6] (fun a b wr => ∃ (i j : Nat) (R : Nat → Int), a = .int .i64 i ∧ b = .int .i64 j ∧ j ≤ m ∧ i < j ∧ Hid (i = ((l.take j).filter (fun d => !del d)).length) ∧ Hid (∀ t, t < i → R t = ((l.take j).filter (fun d => !del d)).getD t 0) ∧ Hid (∀ t, j ≤ t → R t = l.getD t 0) ∧ Hid (CelF wr g off m R) ∧ Hid (Below base w wr)) (fun _ b _ => m - (RowKit.intOf b).toNat)
    case atStart => exact ⟨k, k + 1, fun t => l.getD t 0, rfl, by go_num, by omega, by omega, (show k = _ by rw [HF0.out, HL0.out]), (fun t ht => by rw [HF0.out, getD_take ht]), (fun t _ => rfl), HR0.out, HBW.out⟩
    case round =>
      clear HR0
      obtain ⟨i, j, R, rfl, rfl, hjm, hij, HLI, HLO, HHI, HR, HB⟩ := hrel
      have zr := HB.out.size
      by_cases hlt : j < m
      · have c0 := (HR.out j hlt).1
        rw [HHI.out j (Nat.le_refl _)] at c0
        have c1 := (HR.out i (by omega)).1
        have f1 := (HR.out i (by omega)).2
        have HC := Lib.hid (HD.out _ j HB.out hlt)
        obtain ⟨y, hy⟩ : ∃ y, y = l.getD j 0 := ⟨_, rfl⟩
        have HY := Lib.hid hy
        rw [← hy] at c0 HC
        clear hy
        obtain ⟨q, hq⟩ : ∃ q, q = del y := ⟨_, rfl⟩
        rw [← hq] at HC
        have HQ := Lib.hid hq
        clear hq
        obtain ⟨ri, hri⟩ : ∃ ri, ri = R i := ⟨_, rfl⟩
        rw [← hri] at c1
        clear hri
        go_wp2_with fail
        refine HC.out.mono ?_
        rintro e X ⟨rfl, hb⟩
        have c1 := kcb hb c1
        have f1 := (hb.frozen (p := ⟨g, off + i, none⟩) (by have := ltb c0; exact this)).trans f1
        have HRX := Lib.hid (HR.out.below hb)
        have HBX := Lib.hid (HB.out.trans (hb.mono (Nat.le_trans hbw zr)))
        have lx := ltb c1
        clear hb
        cases q with
        | true =>
          have HN := Lib.hid (flt_no (l := l) (del := del) (by rw [← HML.out]; exact hlt) (by rw [← HY.out]; exact HQ.out.symm))
          go_wp2_with fail
          go_roundw
          case rel => exact ⟨_, _, _, _, _, _, _, _, _, _, _, _, _, _, _, _, _, _, _, _, _, _, _, ⟨i, j + 1, R, rfl, by go_num, by omega, by omega, by rw [HN.out]; exact HLI.out, (by rw [HN.out]; exact HLO.out), (fun t ht => HHI.out t (by omega)), HRX.out, HBX.out⟩, rfl⟩
          case measure => simp [RowKit.intOf]; omega
        | false =>
          have HN := Lib.hid (flt_yes (l := l) (del := del) (by rw [← HML.out]; exact hlt) (by rw [← HY.out]; exact HQ.out.symm))
          have HR9 := Lib.hid (HRX.out.set (i := i) y)
          have HB9 := Lib.hid (HBX.out.setCell (p := ⟨g, off + i, none⟩) hlo (.int .i64 y))
          go_wp2_with fail
          go_roundw
          case rel =>
            refine ⟨_, _, _, _, _, _, _, _, _, _, _, _, _, _, _, _, _, _, _, _, _, _, _, ⟨i + 1, j + 1, fun t => if t = i then y else R t, by go_num, by go_num, by omega, by omega, ?_, fun t ht => ?_, fun t ht => ?_, HR9.out, HB9.out⟩, rfl⟩
            · show i + 1 = _
              rw [HN.out, List.length_append, List.length_singleton, ← HLI.out]
            · show (if t = i then y else R t) = _
              rw [HN.out, getD_snoc _ _ _ (by rw [← HLI.out]; exact ht), ← HLI.out, ← HY.out]
              by_cases e : t = i
              · rw [if_pos e, if_pos e]
              · rw [if_neg e, if_neg e]; exact HLO.out t (by omega)
            · show (if t = i then y else R t) = _
              rw [if_neg (by omega)]; exact HHI.out t (by omega)
          case measure => simp [RowKit.intOf]; omega
      · obtain rfl : j = m := by omega
        have HFF := Lib.hid (show (l.take j).filter (fun d => !del d) = l.filter (fun d => !del d) by rw [HML.out, List.take_length])
        have hcl : ∀ ty, (Builtin.clear_ #[29] ty #[.slice (some ⟨g, off + i, none⟩) (j - i) (c - i)]).run Try.prog wr = .ok (.tuple #[]) (wr.setCells g (off + i) (List.replicate (j - i) (.int .i64 0))) :=
          fun ty => Lib.run_clear_slice wr _ _ ty _ Try.underlying29 (fun w => by kernel_rfl) rfl rfl g (off + i) _ _ (by omega) (fun t ht => by rw [show off + i + t = off + (i + t) by omega, (HR.out (i + t) (by omega)).1]; rfl) (fun t ht => by rw [show off + i + t = off + (i + t) by omega]; exact (HR.out (i + t) (by omega)).2)
        have HB9 := Lib.hid (below_setCells g hlo (List.replicate (j - i) (.int .i64 0)) (off + i) _ HB.out)
        have HS9 := Lib.hid (show Sl (wr.setCells g (off + i) (List.replicate (j - i) (.int .i64 0))) (some ⟨g, off, none⟩) i (fun t => (l.filter (fun d => !del d)).getD t 0) from fun h0 =>
          ⟨g, off, rfl, by
            have hz := (below_setCells (B := 0) (w := wr) g (Nat.zero_le _) (List.replicate (j - i) (.int .i64 0)) (off + i) wr (Below.refl 0 wr)).size
            have := ltb (HR.out 0 (by omega)).1
            omega, fun t ht => by
            rw [World.cell?_setCells_out _ _ _ _ _ (fun _ _ => .inl (by show off + t < off + i; omega)), (HR.out t (by omega)).1, HLO.out t ht, HFF.out]⟩)
        have HIF := Lib.hid (HLI.out.trans (by rw [HFF.out]))
        go_wp2_with fail
        go_ret
        refine ⟨⟨_, rfl, some ⟨g, off, none⟩, c, by rw [← HIF.out]; rfl, by rw [← HIF.out]; omega, by unfold maxLen; omega, by rw [← HIF.out]; exact HS9.out, fun a e => by cases e; exact hlo⟩, HB9.out⟩
end Go.Proofs.Ytiaamhlcdnlahaa
