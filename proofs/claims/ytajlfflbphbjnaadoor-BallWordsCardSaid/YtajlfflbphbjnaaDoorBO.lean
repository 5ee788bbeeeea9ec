/-
  Contracts of package ball and of the law: plans, the document's mast.
-/
import Derived.Test.YtajlfflbphbjnaaDoorBL
import Derived.Test.YtajlfflbphbjnaaDoorBN
import Derived.Deep.OwnRows
import Derived.Deep.AppendLies
import Derived.Laws.OwnMore
import Derived.Deep.RegionLaw
namespace Go.Proofs.YtajlfflbphbjnaaDoor
open Go.RowKit Go.Shelf
set_option linter.unusedSimpArgs false
set_option linter.unusedVariables false

theorem event_info : (Tryd.prog.info? 38).map (fun i => (i.zero, i.size, i.bytes)) = some (some (.agg #[.int .i64 0, .int .i64 0, .int .i64 0]), 3, 24) := by kernel_rfl
def cellsE (x : Evt) : List Value := [.int .i64 x.t, .int .i64 x.ki, .int .i64 x.n]
/-- The cells of the first k events. -/
def evC (E : Nat → Evt) : Nat → List Value
  | 0 => []
  | k + 1 => evC E k ++ cellsE (E k)
theorem evC_len (E : Nat → Evt) (k : Nat) : (evC E k).length = k * 3 := by
  induction k with
  | zero => rfl
  | succ k ih => simp only [evC, cellsE, List.length_append, List.length_cons, List.length_nil, ih]; omega
theorem evC_at (E : Nat → Evt) {k j i : Nat} (hj : j < k) (hi : i < 3) : (evC E k)[j * 3 + i]? = (cellsE (E j))[i]? := by
  induction k with
  | zero => omega
  | succ k ih =>
    rw [evC]
    by_cases e : j = k
    · subst e
      rw [List.getElem?_append_right (by rw [evC_len]; omega), evC_len]
      congr 1
      omega
    · rw [List.getElem?_append_left (by rw [evC_len]; omega)]
      exact ih (by omega)
theorem evC_congr {E E' : Nat → Evt} {k : Nat} (h : ∀ j, j < k → E j = E' j) : evC E k = evC E' k := by
  induction k with
  | zero => rfl
  | succ k ih => rw [evC, evC, ih fun j hj => h j (by omega), h k (by omega)]
theorem el_of_own {w : World} {base : Nat} {e : TypeId} {A : Option Addr} {n c : Nat} {E : Nat → Evt} (h : w.ownsRow base e 3 (.slice A n c) n (evC E n)) : El w A n E := fun hn => by
  obtain ⟨g, cap, hv, hg, hlt⟩ := h.form hn
  obtain rfl : A = some ⟨g, 0, none⟩ := by injection hv
  have hat : ∀ j i, j < n → i < 3 → w.cell? ⟨g, 0 + j * 3 + i, none⟩ = (cellsE (E j))[i]? := fun j i hj hi => by
    rw [Nat.zero_add, h.cellAt (j * 3 + i) (by omega), evC_at E hj hi]
  exact ⟨g, 0, rfl, hlt, fun j hj => ⟨hat j 0 hj (by omega), hat j 1 hj (by omega), hat j 2 hj (by omega)⟩⟩
theorem own_cap {w : World} {base : Nat} {e : TypeId} {size g n cap : Nat} {xs : List Value} (h : w.ownsRow base e size (.slice (some ⟨g, 0, none⟩) n cap) n xs) : n ≤ cap ∧ cap ≤ maxLen ∧ base ≤ g ∧ g < w.heap.size := by
  rcases h.2 with ⟨h', _⟩ | ⟨g', cap', cur, h', hb, hg, hnc, hcm, _⟩
  · simp at h'
  · simp only [Value.slice.injEq, Option.some.injEq, Addr.mk.injEq, and_true, true_and] at h'
    obtain ⟨rfl, rfl⟩ := h'
    exact ⟨hnc, hcm, hb, (Array.getElem?_eq_some_iff.1 hg).1⟩
theorem own_b {w w' : World} {base : Nat} {e : TypeId} {size : Nat} {v : Value} {n : Nat} {xs : List Value} (h : w.ownsRow base e size v n xs) (hb : Bl w w') : w'.ownsRow base e size v n xs := by
  have hg : w.grownBy w' none := ⟨hb.os, hb.tape, hb.output, hb.size, fun i hi _ => hb.block i hi⟩
  refine h.kept hg ?_
  cases hv : v.ownBlock with
  | none => exact .inl rfl
  | some k => exact .inr (by simp)

set_option maxHeartbeats 800000 in
theorem raising_any (M : Mst) (d : Int) (base : Nat) (w : World) (hd0 : 0 ≤ d) (hd1 : d < 200000000) (hh : 0 ≤ M.hf ∧ M.hf ≤ 3600000) (hf : 0 ≤ M.fu ∧ M.fu ≤ 3600000) (hb : base ≤ w.heap.size) :
    Calls Tryd.prog 18 #[encM M, .int .i64 d] w fun e w' => ∃ g, e = .returned (.slice (some ⟨g, 0, none⟩) 2 2) ∧ w'.ownsRow base 38 3 (.slice (some ⟨g, 0, none⟩) 2 2) 2 [.int .i64 (d - M.hf), .int .i64 2, .int .i64 0, .int .i64 (d - M.fu), .int .i64 3, .int .i64 0] ∧ Bl w w' := by
  go_enter Tryd.func18, Tryd.ntmps18
  go_wp2
  go_ret
  exact ⟨_, rfl, by
    have := World.ownsRow_lit (base := base) (size := 3) (e := 38) (w.alloc (.cells #[.int .i64 M.no, .int .i64 M.hf, .int .i64 M.fu, .int .i64 M.la, .int .i64 M.ag, .int .i64 M.wi] 35)) #[.int .i64 (d - M.hf), .int .i64 2, .int .i64 0, .int .i64 (d - M.fu), .int .i64 3, .int .i64 0] 2 (by simp; omega) (by unfold maxLen; omega) rfl
    simpa using this, by go_grown⟩
/-- What Plan returns. -/
def PlanPost (M : Mst) (w : World) (e : Ending) (w' : World) : Prop :=
  Bl w w' ∧ ((VM M ∧ ∃ g cap, e = .returned (.tuple #[.slice (some ⟨g, 0, none⟩) 3 cap, .int .i64 0]) ∧ w'.ownsRow (w.heap.size + 1) 38 3 (.slice (some ⟨g, 0, none⟩) 3 cap) 3 (evC (planE M) 3)) ∨
    (¬ VM M ∧ e = .returned (.tuple #[.slice none 0 0, .int .i64 1])))
theorem planC (M : Mst) : evC (planE M) 3 = [.int .i64 (M.no - M.hf), .int .i64 2, .int .i64 0, .int .i64 (M.no - M.fu), .int .i64 3, .int .i64 0] ++ [.int .i64 M.no, .int .i64 4, .int .i64 0] := rfl
theorem grown_bl {w X Y : World} {row : Option Nat} (h : Bl w X) (hg : X.grownBy Y row) (hrow : ∀ k, row = some k → w.heap.size ≤ k) : Bl w Y := Below.grown h hg h.size hrow

set_option maxRecDepth 100000 in
set_option maxHeartbeats 3200000 in
theorem plan_any (M : Mst) (w : World) : Calls Tryd.prog 11 #[encM M] w (PlanPost M w) := by
  obtain ⟨i0, hi0, hz0, hz1, hz2⟩ := info_parts event_info
  have HI := Lib.hid (And.intro hi0 (And.intro hz0 (And.intro hz1 hz2)))
  clear hi0 hz0 hz1 hz2
  by_cases hM : VM M
  · have Q := Lib.hid (show decide (VM M) = true from decide_eq_true hM)
    have HM := Lib.hid hM
    have vno0 := hM.no0
    have vno1 := hM.no1
    have vfu0 := hM.fu0
    have vhf0 := hM.hf0
    have vhf1 := hM.hf1
    clear hM
    go_enter Tryd.func11, Tryd.ntmps11
    go_wp2_with fail
    refine (validMast_any M _).mono ?_
    rintro e1 w1 ⟨rfl, hb⟩
    have m0 := kcb hb (b := w.heap.size) (o := 0) (v := .int .i64 M.no) (by go_cell)
    have m1 := kcb hb (b := w.heap.size) (o := 1) (v := .int .i64 M.hf) (by go_cell)
    have m2 := kcb hb (b := w.heap.size) (o := 2) (v := .int .i64 M.fu) (by go_cell)
    have m3 := kcb hb (b := w.heap.size) (o := 3) (v := .int .i64 M.la) (by go_cell)
    have m4 := kcb hb (b := w.heap.size) (o := 4) (v := .int .i64 M.ag) (by go_cell)
    have m5 := kcb hb (b := w.heap.size) (o := 5) (v := .int .i64 M.wi) (by go_cell)
    have B1 : Bl w w1 := Below.trans (by go_grown) (hb.mono (by (try simp only [World.size_alloc]); omega))
    have l1 := ltb m0
    clear hb
    rw [Q.out]
    go_wp2_with fail
    go_region_law (first
      | (go_simp; go_at_call 18; refine (raising_any M M.no (w.heap.size + 1) _ (by omega) (by omega) (by omega) (by omega) (by simp; omega)).mono ?_; rintro e9 v1 ⟨g1, rfl, own1, hb1⟩; have z1 := hb1.size; have m0 := kcb hb1 (b := w.heap.size) (o := 0) (v := .int .i64 M.no) (by go_cell); have BV := B1.tr (show Bl w1 v1 from Bl.tr (by go_grown) hb1); have zV := BV.size)
      | (refine step_append_lies _ (by rfl) _ _ _ (by rfl) (w.heap.size + 1) 38 i0 _ 3 24 Tryd.underlying31 HI.out.1 HI.out.2.1 HI.out.2.2.1 HI.out.2.2.2 rfl (by omega) _ 2 _ (by rfl) (own1.alloc _) ⟨v1.heap.size, 0, none⟩ 1 1 [.int .i64 M.no, .int .i64 4, .int .i64 0] (by rfl) (by rfl) (World.news_of_block (cs := #[.int .i64 M.no, .int .i64 4, .int .i64 0]) (t := 38) (fr := (0, 0)) (heap_alloc_new v1 _)) (by simp [Value.oneCell']) (by omega) (by unfold maxLen; omega) (by omega) (by have := own_cap own1; (try simp only [World.size_alloc, World.size_drew]); omega) _ rfl ?_; intro gg cap w9 hown1 hgrow hat hlt9; have BW9 : Bl w w9 := grown_bl (h := by go_grown) (hg := hgrow) (hrow := fun k e => by have := own_cap own1; simp only [Value.ownBlock] at e; cases e; omega))
      | (refine step_append_lies _ (by rfl) _ _ _ (by rfl) (w.heap.size + 1) 38 i0 _ 3 24 Tryd.underlying31 HI.out.1 HI.out.2.1 HI.out.2.2.1 HI.out.2.2.2 rfl (by omega) _ 2 _ (by rfl) own1 ⟨w1.heap.size, 0, none⟩ 1 1 [.int .i64 M.no, .int .i64 4, .int .i64 0] (by rfl) (by rfl) (World.news_of_block (cs := #[.int .i64 M.no, .int .i64 4, .int .i64 0]) (t := 38) (fr := (0, 0)) ((hb1.block _ (by simp)).trans (heap_alloc_new w1.drew _))) (by simp [Value.oneCell']) (by omega) (by unfold maxLen; omega) (by omega) (by have := own_cap own1; (try simp only [World.size_alloc, World.size_drew]); omega) _ rfl ?_; intro gg cap w9 hown1 hgrow hat hlt9; have BW9 : Bl w w9 := grown_bl (h := by go_grown) (hg := hgrow) (hrow := fun k e => by have := own_cap own1; simp only [Value.ownBlock] at e; cases e; omega)))
    all_goals
      go_wp2_with fail
      go_ret2
      exact ⟨BW9, .inl ⟨HM.out, gg, cap, rfl, by rw [planC]; exact hown1⟩⟩
  · have Q := Lib.hid (show decide (VM M) = false from decide_eq_false hM)
    have HM := Lib.hid hM
    clear hM
    go_enter Tryd.func11, Tryd.ntmps11
    go_wp2_with fail
    refine (validMast_any M _).mono ?_
    rintro e1 w1 ⟨rfl, hb⟩
    have B1 : Bl w w1 := Below.trans (by go_grown) (hb.mono (by (try simp only [World.size_alloc]); omega))
    clear hb
    rw [Q.out]
    go_wp2_with fail
    go_ret2
    exact ⟨B1, .inr ⟨HM.out, rfl⟩⟩
/-- The mast of the document's example. -/
def exM : Mst := ⟨43200000, 300000, 120000, 200, 3600000, 60⟩
theorem exM_ok : VM exM := by constructor <;> decide
set_option maxHeartbeats 800000 in
theorem mast_any (w : World) : Calls Tryd.prog 12 #[] w fun e w' => e = .returned (.agg #[.int .i64 43200000, .int .i64 300000, .int .i64 120000, .int .i64 200, .int .i64 3600000, .int .i64 60]) ∧ Bl w w' := by
  go_enter Tryd.func12, Tryd.ntmps12
  go_wp2
  exact bodyPost_ret (v := .agg #[.int .i64 43200000, .int .i64 300000, .int .i64 120000, .int .i64 200, .int .i64 3600000, .int .i64 60]) (by simp [results, Tryd.results12, go_sem]) rfl ⟨rfl, by go_grown⟩
end Go.Proofs.YtajlfflbphbjnaaDoor
