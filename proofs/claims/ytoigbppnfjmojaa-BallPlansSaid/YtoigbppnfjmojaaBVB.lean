/-
  Contracts of the reference of package ball: its plan, its second log, two logs compared.
-/
import Derived.Test.YtoigbppnfjmojaaBVA
import Derived.StillTailTactics
namespace Go.Proofs.Ytoigbppnfjmojaa
open Go.RowKit Go.Shelf
set_option linter.unusedSimpArgs false
set_option linter.unusedVariables false

set_option maxRecDepth 100000 in
set_option maxHeartbeats 3200000 in
theorem rplan_any (M : Mst) (w : World) : Calls Try.prog 6 #[encM M] w (PlanPost M w) := by
  by_cases hM : VM M
  · have Q := Lib.hid (show decide (VM M) = true from decide_eq_true hM)
    have HM := Lib.hid hM
    have vno0 := hM.no0
    have vno1 := hM.no1
    have vfu0 := hM.fu0
    have vhf0 := hM.hf0
    have vhf1 := hM.hf1
    clear hM
    go_enter Try.func6, Try.ntmps6
    go_wp2_with fail
    refine (rvalidMast_any M _).mono ?_
    rintro e1 w1 ⟨rfl, hb⟩
    have m0 := kcb hb (b := w.heap.size) (o := 0) (v := .int .i64 M.no) (by go_cell)
    have m1 := kcb hb (b := w.heap.size) (o := 1) (v := .int .i64 M.hf) (by go_cell)
    have m2 := kcb hb (b := w.heap.size) (o := 2) (v := .int .i64 M.fu) (by go_cell)
    have B1 : Bl w w1 := Below.trans (by go_grown) (hb.mono (by (try simp only [World.size_alloc]); omega))
    have l1 := ltb m0
    clear hb
    rw [Q.out]
    go_wp2_with fail
    go_ret2
    have hown := World.ownsRow_lit (base := w.heap.size + 1) (size := 3) (e := 42) w1 #[.int .i64 (M.no - M.hf), .int .i64 2, .int .i64 0, .int .i64 (M.no - M.fu), .int .i64 3, .int .i64 0, .int .i64 M.no, .int .i64 4, .int .i64 0] 3 (by omega) (by unfold maxLen; omega) rfl
    exact ⟨B1.tr (by go_grown), .inl ⟨HM.out, _, 3, rfl, hown⟩⟩
  · have Q := Lib.hid (show decide (VM M) = false from decide_eq_false hM)
    have HM := Lib.hid hM
    clear hM
    go_enter Try.func6, Try.ntmps6
    go_wp2_with fail
    refine (rvalidMast_any M _).mono ?_
    rintro e1 w1 ⟨rfl, hb⟩
    have B1 : Bl w w1 := Below.trans (by go_grown) (hb.mono (by (try simp only [World.size_alloc]); omega))
    clear hb
    rw [Q.out]
    go_wp2_with fail
    go_ret2
    exact ⟨B1, .inr ⟨HM.out, rfl⟩⟩
theorem grown_setV (W : World) (b o : Nat) (v : Value) : W.grownBy (W.setCell ⟨b, o, none⟩ v) (some b) :=
  ⟨rfl, rfl, rfl, (KeepsWalks.setCell W _ v).size, fun k _ hk => Below.heap_setCell _ _ _ k (fun e => hk (by rw [e]))⟩
theorem own_setV {w : World} {base b o : Nat} {e : TypeId} {size n g cap : Nat} {u : Value} {xs : List Value} (h : w.ownsRow base e size (.slice (some ⟨g, 0, none⟩) n cap) n xs) (hb : b < base) : (w.setCell ⟨b, o, none⟩ u).ownsRow base e size (.slice (some ⟨g, 0, none⟩) n cap) n xs := by
  refine h.kept (grown_setV w b o u) (.inr ?_)
  have hl := h.lt g rfl
  simp [Value.ownBlock]
  omega
set_option maxRecDepth 100000 in
set_option maxHeartbeats 6400000 in
theorem rsecond_any (M : Mst) (w : World) : Calls Try.prog 8 #[encM M] w (SecPost M w) := by
  obtain ⟨i0, hi0, hz0, hz1, hz2⟩ := info_parts event_info
  have HI := Lib.hid (And.intro hi0 (And.intro hz0 (And.intro hz1 hz2)))
  clear hi0 hz0 hz1 hz2
  go_enter Try.func8, Try.ntmps8
  go_wp2_with fail
  refine (rplan_any M _).mono ?_
  rintro e1 w1 ⟨hb, ⟨hM, g, cap, rfl, own⟩ | ⟨hM, rfl⟩⟩
  · have HM := Lib.hid hM
    have vno0 := hM.no0
    have vno1 := hM.no1
    have vfu0 := hM.fu0
    have vhf0 := hM.hf0
    have vhf1 := hM.hf1
    have vag0 := hM.ag0
    have vag1 := hM.ag1
    clear hM
    have m0 := kcb hb (b := w.heap.size) (o := 0) (v := .int .i64 M.no) (by go_cell)
    have m1 := kcb hb (b := w.heap.size) (o := 1) (v := .int .i64 M.hf) (by go_cell)
    have m2 := kcb hb (b := w.heap.size) (o := 2) (v := .int .i64 M.fu) (by go_cell)
    have m3 := kcb hb (b := w.heap.size) (o := 3) (v := .int .i64 M.la) (by go_cell)
    have m4 := kcb hb (b := w.heap.size) (o := 4) (v := .int .i64 M.ag) (by go_cell)
    have m5 := kcb hb (b := w.heap.size) (o := 5) (v := .int .i64 M.wi) (by go_cell)
    have HM1 := Lib.hid (show MastAt w1 w.heap.size M from ⟨m0, m1, m2, m3, m4, m5⟩)
    have B1 : Bl w w1 := Below.trans (by go_grown) (hb.mono (by (try simp only [World.size_alloc]); omega))
    have l1 := ltb m0
    have zz1 := B1.size
    have fz1 := fzb hb (b := w.heap.size) (o := 0) (by (try simp only [frozen?_alloc_cells, World.frozen?_setCell]); first | assumption | exact fz_new (by (try simp only [World.size_alloc, World.size_setCell]); omega)) (by (try simp only [World.size_alloc, World.size_setCell]); omega)
    have HF1 := Lib.hid fz1
    have own1 : w1.ownsRow (w.heap.size + 1) 42 3 (.slice (some ⟨g, 0, none⟩) 3 cap) 3 (evC (planE M) 3) := own_mono own (by (try simp only [World.size_alloc]); omega)
    have c7 := own1.cellAt 7 (by omega)
    rw [show (evC (planE M) 3)[7]? = some (.int .i64 4) from rfl] at c7
    have f7 := own1.frozenAt 7
    have cp := own_cap own1
    have HCP := Lib.hid cp.2.1
    obtain ⟨cp1, _, cp3, cp4⟩ := cp
    have HO1 := Lib.hid own1
    have HB1 := Lib.hid B1
    clear own own1 hb B1
    have HO2 := Lib.hid (HO1.out.stored 7 (.int .i64 5)).1
    have HM2 := Lib.hid (HM1.out.far (HO1.out.stored 7 (.int .i64 5)).2 (own_ne HO1.out (by omega)))
    have HB2 := Lib.hid (show Bl w (w1.setCell ⟨g, 7, none⟩ (.int .i64 5)) from grown_bl (h := HB1.out) (hg := (HO1.out.stored 7 (.int .i64 5)).2) (hrow := fun k e => by cases e; omega))
    have hnew2 := Lib.hid (show ((w1.setCell ⟨g, 7, none⟩ (.int .i64 5)).alloc (.cells #[.int .i64 M.no, .int .i64 6, .int .i64 0] 42)).heap[w1.heap.size]? = some (.cells #[.int .i64 M.no, .int .i64 6, .int .i64 0] 42 (0, 0)) by have h := heap_alloc_new (w1.setCell ⟨g, 7, none⟩ (.int .i64 5)) (.cells #[.int .i64 M.no, .int .i64 6, .int .i64 0] 42); (try rw [World.size_setCell] at h); exact h)
    go_wp2_with (first
      | (at_builtin; refine wpList_append_lies _ rfl _ _ _ rfl (w.heap.size + 1) 42 i0 _ 3 24 Try.underlying24 HI.out.1 HI.out.2.1 HI.out.2.2.1 HI.out.2.2.2 rfl (by omega) _ 3 _ rfl (HO2.out.alloc _) ⟨w1.heap.size, 0, none⟩ 1 1 [.int .i64 M.no, .int .i64 6, .int .i64 0] rfl rfl (World.news_of_block hnew2.out) (by simp [Value.oneCell']) (by omega) (by unfold maxLen; omega) (by omega) (by (try simp only [World.size_alloc, World.size_setCell]); omega) _ rfl ?_; intro gh cap4 w4 hown4 hgrow4 hat4 hlt4; have HB4 := Lib.hid (grown_bl (h := Bl.tr HB2.out (by go_grown)) (hg := hgrow4) (hrow := own_row HO2.out (by omega))); have HM4 := Lib.hid ((HM2.out.below (show Bl (w1.setCell ⟨g, 7, none⟩ (.int .i64 5)) _ from by go_grown)).far hgrow4 (own_ne HO2.out (by omega))); have cp4' := own_cap hown4; have HCP4 := Lib.hid cp4'.2.1; have HO5 := Lib.hid (own_setV (o := 0) (u := .int .i64 (M.no + M.ag)) hown4 (show w.heap.size < w.heap.size + 1 by omega)); have hnew5 := Lib.hid (show ((w4.setCell ⟨w.heap.size, 0, none⟩ (.int .i64 (M.no + M.ag))).alloc (.cells #[.int .i64 (M.no + M.ag - M.hf), .int .i64 2, .int .i64 0, .int .i64 (M.no + M.ag - M.fu), .int .i64 3, .int .i64 0, .int .i64 (M.no + M.ag), .int .i64 4, .int .i64 0] 42)).heap[w4.heap.size]? = some (.cells #[.int .i64 (M.no + M.ag - M.hf), .int .i64 2, .int .i64 0, .int .i64 (M.no + M.ag - M.fu), .int .i64 3, .int .i64 0, .int .i64 (M.no + M.ag), .int .i64 4, .int .i64 0] 42 (0, 0)) by have h := heap_alloc_new (w4.setCell ⟨w.heap.size, 0, none⟩ (.int .i64 (M.no + M.ag))) (.cells #[.int .i64 (M.no + M.ag - M.hf), .int .i64 2, .int .i64 0, .int .i64 (M.no + M.ag - M.fu), .int .i64 3, .int .i64 0, .int .i64 (M.no + M.ag), .int .i64 4, .int .i64 0] 42); (try rw [World.size_setCell] at h); exact h); have zw4 := HB4.out.size; have FZ4 := Lib.hid ((hgrow4.frozen_far ⟨w.heap.size, 0, none⟩ (by show w.heap.size < _; (try simp only [World.size_alloc, World.size_setCell]); omega) (own_ne HO2.out (show w.heap.size < w.heap.size + 1 by omega))).trans (by (try simp only [frozen?_alloc_cells, World.frozen?_setCell]); exact HF1.out)); clear m0 m1 m2 m3 m4 m5 c7 f7 fz1 hown4 hgrow4 hat4 cp4'; obtain ⟨m0, m1, m2, m3, m4, m5⟩ := HM4.out; have lw4 := ltb m0; have fz4 := FZ4.out)
      | (at_builtin; refine wpList_append_lies _ rfl _ _ _ rfl (w.heap.size + 1) 42 i0 _ 3 24 Try.underlying24 HI.out.1 HI.out.2.1 HI.out.2.2.1 HI.out.2.2.2 rfl (by omega) _ 4 _ rfl (HO5.out.alloc _) ⟨w4.heap.size, 0, none⟩ 3 3 [.int .i64 (M.no + M.ag - M.hf), .int .i64 2, .int .i64 0, .int .i64 (M.no + M.ag - M.fu), .int .i64 3, .int .i64 0, .int .i64 (M.no + M.ag), .int .i64 4, .int .i64 0] rfl rfl (World.news_of_block hnew5.out) (by simp [Value.oneCell']) (by omega) (by unfold maxLen; omega) (by omega) (by (try simp only [World.size_alloc, World.size_setCell]); omega) _ rfl ?_; intro gi cap7 w7 hown7 hgrow7 hat7 hlt7; have HB7 := Lib.hid (grown_bl (h := Bl.tr (grown_bl (h := HB4.out) (hg := grown_setV w4 w.heap.size 0 (.int .i64 (M.no + M.ag))) (hrow := fun k e => by cases e; omega)) (by go_grown)) (hg := hgrow7) (hrow := own_row HO5.out (by omega)))))
    go_ret2
    exact ⟨HB7.out, .inl ⟨HM.out, gi, cap7, rfl, by rw [secC7']; exact hown7⟩⟩
  · have HM := Lib.hid hM
    have B1 : Bl w w1 := Below.trans (by go_grown) (hb.mono (by (try simp only [World.size_alloc]); omega))
    clear hb hM
    go_wp2_with fail
    go_ret2
    exact ⟨B1, .inr ⟨HM.out, rfl⟩⟩
set_option maxHeartbeats 1600000 in
theorem sameEv_any (A : Option Addr) (n c : Nat) (B : Option Addr) (d : Nat) (T : Nat → Evt) (w : World) (hn : n ≤ maxLen) (hA : El w A n T) (hB : El w B n T) :
    Calls Try.prog 11 #[.slice A n c, .slice B n d] w fun e w' => e = .returned (.bool true) ∧ Bl w w' := by
  unfold maxLen at hn
  have HA := Lib.hid hA
  have HB := Lib.hid hB
  clear hA hB
  go_enter Try.func11, Try.ntmps11
  go_wp2_with fail
  go_loopw [13] (fun i wr => ∃ k N : Nat, k ≤ n ∧ i = .int .i64 k ∧ wr = w.drewN N) (fun i _ => n - (RowKit.intOf i).toNat)
  case atStart => exact ⟨0, 0, Nat.zero_le _, rfl, rfl⟩
  case round =>
    obtain ⟨k, N, hk, rfl, rfl⟩ := hrel
    by_cases hlt : k < n
    · obtain ⟨b, off, eA, hbb, hc⟩ := HA.out (by omega)
      obtain ⟨b', off', eB, hbb', hc'⟩ := HB.out (by omega)
      subst eA eB
      obtain ⟨c0, c1, c2⟩ := hc k hlt
      obtain ⟨d0, d1, d2⟩ := hc' k hlt
      clear hc hc'
      go_wp2_with fail
      go_quiet (fail)
      go_wp2_with fail
      go_roundw
      case rel => exact ⟨k + 1, _, by omega, by go_num, rfl⟩
      case measure => simp [RowKit.intOf]; omega
    · obtain rfl : k = n := by omega
      go_wp2_with fail
      go_ret
      exact ⟨rfl, ⟨rfl, rfl, rfl, Nat.le_refl _, fun _ _ => rfl⟩⟩
end Go.Proofs.Ytoigbppnfjmojaa
