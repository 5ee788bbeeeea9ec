/-
  The day of a date and the date of a day, in package span.
-/
import Derived.Test.YtdelgijalnmehaaDoorO
import Derived.RegionIn
namespace Go.Proofs.YtdelgijalnmehaaDoor
open Go.RowKit Go.Shelf Cal
set_option linter.unusedSimpArgs false
set_option linter.unusedVariables false
attribute [local go_sem] Oper.semAt_some

theorem cell_new_l (w : World) (v : Value) (t : TypeId) : (w.alloc (.cells #[v] t)).cell? ⟨w.heap.size, 0, none⟩ = some v ∧ (w.alloc (.cells #[v] t)).frozen? ⟨w.heap.size, 0, none⟩ = false := ⟨by go_cell, by simp⟩
theorem cell_alloc_l {w : World} {a : Addr} {v : Value} (o : Obj) (h : w.cell? a = some v) : (w.alloc o).cell? a = some v := cell_kept h (World.grownBy_alloc w o none) (fun r e => by cases e)
theorem frozen_alloc_l {w : World} {a : Addr} {v : Value} (o : Obj) (h : w.cell? a = some v) (hf : w.frozen? a = false) : (w.alloc o).frozen? a = false := (frozen_kept h (World.grownBy_alloc w o none) (fun r e => by cases e)).trans hf

theorem fd_stops (n yb n₀ : Nat) (y : Int) (h1 : 1700 ≤ y) (h2 : y ≤ 2200) (hn : 1 ≤ n) (hg : 2 < n₀) (w : World) (hb : yb < w.heap.size) (hn₀ : n₀ ≤ w.heap.size) (hM : Mo w) (hyc : w.cell? ⟨yb, 0, none⟩ = some (.int .i64 y)) :
    SeqStopsK Fence.wide n Tryd.prog 46 #[.pointer (some ⟨yb, 0, none⟩)] encMF (Kc yb n₀) (fun ys => ys = upto (mf y h1 h2) 12) (fun pre => ∃ k, k ≤ 12 ∧ pre = upto (mf y h1 h2) k) 12 w := fun l J Jx W hW _ _ hY h0 =>
  fd1_in n l yb n₀ y h1 h2 hn hg J Jx hY W (hM.at hg (hW.mono hn₀)) ((hW.cell (p := ⟨yb, 0, none⟩) hb).trans hyc) h0

set_option maxHeartbeats 1000000 in
theorem firstDays_any (y : Int) (w : World) :
    Calls Tryd.prog 35 #[.int .i64 y] w fun e w' => e = .returned (.func (.func 46) #[] #[.pointer (some ⟨w.heap.size, 0, none⟩)]) ∧ w' = w.alloc (.cells #[.int .i64 y] 3) := by
  go_enter Tryd.func35, Tryd.ntmps35
  go_wp2
  go_ret
  exact ⟨rfl, rfl⟩

theorem kept3 {W w1 : World} (hb : Bl W w1) {b : Nat} {x y z : Value} (h0 : W.cell? ⟨b, 0, none⟩ = some x) (h1 : W.cell? ⟨b, 1, none⟩ = some y) (h2 : W.cell? ⟨b, 2, none⟩ = some z) (hlt : b < W.heap.size) :
    w1.cell? ⟨b, 0, none⟩ = some x ∧ w1.cell? ⟨b, 1, none⟩ = some y ∧ w1.cell? ⟨b, 2, none⟩ = some z ∧ b < w1.heap.size := by
  obtain ⟨hc, hf⟩ := bcell hb
  exact ⟨(hc _ _ hlt).trans h0, (hc _ _ hlt).trans h1, (hc _ _ hlt).trans h2, Nat.lt_of_lt_of_le hlt hb.size⟩

set_option maxRecDepth 100000 in
set_option maxHeartbeats 2000000 in
theorem dayOf_ok (y m d : Int) (w : World) (hM : Mo w) (hv : vD y m d = true) :
    Calls Tryd.prog 20 #[.agg #[.int .i64 y, .int .i64 m, .int .i64 d]] w fun e w' => e = .returned (.tuple #[.int .i64 (ny y + cum y m + d - 1), .int .i64 0]) ∧ Bl w w' := by
  obtain ⟨y1, y2, m1, m2, d1, d2⟩ := vD_iff.1 hv
  have mb := mon_bd y m
  obtain ⟨mb1, mb2⟩ := mb
  have nb := ny_bd y y1 (by omega)
  have cb := cum_bd y m
  have NB := Lib.hid nb
  have CB := Lib.hid cb
  clear nb cb
  have Hv := Lib.hid hv
  have HM := Lib.hid hM
  have hg := hM.2
  clear hv hM
  refine callsIn_wide (n := 5) |>.1 ?_
  refine callsIn_of_wp_marks Tryd.func20 rfl trivial ?_ rfl
  simp only [Tryd.ntmps20, List.size_toArray, List.length_cons, List.length_nil, Nat.reduceAdd, Nat.reduceSub, Array.replicate_succ, Array.replicate_zero, List.push_toArray, List.append_toArray, List.nil_append, List.cons_append]
  gi_wp2_with fail
  refine ⟨trivial, ?_⟩
  refine (callsIn_wide.2 (validDate_any y m d _ (HM.out.below (by go_grown)))).mono ?_
  rintro e w1 ⟨rfl, hb⟩
  obtain ⟨u0, u1, u2, ul⟩ := kept3 (b := w.heap.size) (x := .int .i64 y) (y := .int .i64 m) (z := .int .i64 d) hb (by go_cell) (by go_cell) (by go_cell) (by (try simp only [World.size_alloc]); omega)
  have B1 : Bl w w1 := Bl.tr (by go_grown) hb
  clear hb
  rw [Hv.out]
  gi_wp2_with (refine ⟨trivial, ?_⟩; gi_at_call 35; refine (callsIn_wide.2 (firstDays_any y _)).mono ?_; rintro e w' ⟨rfl, rfl⟩)
  have hd := cell_new_l w1 (.int .i64 (d - 1)) 3
  have hy := cell_new_l (w1.alloc (.cells #[.int .i64 (d - 1)] 3)) (.int .i64 y) 3
  rw [World.size_alloc] at hy
  have hB0 : Below w.heap.size w ((w1.alloc (.cells #[.int .i64 (d - 1)] 3)).alloc (.cells #[.int .i64 y] 3)) := by go_grown
  refine wpIn_rangeFunc_ownF rfl (by omega) (gf := 46) (lb := #[.pointer (some ⟨w1.heap.size + 1, 0, none⟩)]) rfl trivial (enters_of Tryd.func46 (by kernel_rfl) rfl)
    (fd_stops (5 - 1) (w1.heap.size + 1) w.heap.size y y1 y2 (by omega) hg _ (by simp) (by simp; omega) (HM.out.below hB0) hy.1) Kc.t (Kc.b (by simp; omega)) (Below.refl _ _) (fun _ => rfl)
    (fun pre W => ((W.cell? ⟨w1.heap.size, 0, none⟩ = some (.int .i64 (d - 1)) ∧ W.frozen? ⟨w1.heap.size, 0, none⟩ = false) ∧ W.cell? ⟨w.heap.size, 1, none⟩ = some (.int .i64 m) ∧ ∀ x ∈ pre, x.1.1 ≠ m) ∧ Below w.heap.size w W)
    (fun c pre W => (c = .exit 0 ∧ (∃ q x, pre = q ++ [x] ∧ x.1.1 = m ∧ W.cell? ⟨w1.heap.size, 0, none⟩ = some (.int .i64 (d - 1 + x.1.2)))) ∧ Below w.heap.size w W)
    (OwnFrom.and (Own.from (fun s A B row hs hg hr => ⟨⟨cell_kept hs.1.1 hg hr, (frozen_kept hs.1.1 hg hr).trans hs.1.2⟩, cell_kept hs.2.1 hg hr, hs.2.2⟩) _) (ownFrom_below (Nat.le_refl _) (by simp; omega)))
    (fun c => OwnFrom.and (Own.from (fun s A B row hs hg hr => ⟨hs.1, by obtain ⟨q, x, e1, e2, e3⟩ := hs.2; exact ⟨q, x, e1, e2, cell_kept e3 hg hr⟩⟩) _) (ownFrom_below (Nat.le_refl _) (by simp; omega)))
    ⟨⟨⟨cell_alloc_l _ hd.1, frozen_alloc_l _ hd.1 hd.2⟩, cell_alloc_l _ (cell_alloc_l _ u1), by simp⟩, hB0⟩
    (fun x => { tmps := #[.agg #[.int .i64 y, .int .i64 m, .int .i64 d], .pointer (some ⟨w.heap.size, 0, none⟩), .int .i64 0, .int .i64 0, .pointer (some ⟨w1.heap.size, 0, none⟩), .int .i64 x.1.1, .int .i64 x.1.2, .agg #[.int .i64 y, .int .i64 m, .int .i64 d], .bool true, .bool false, .pointer (some ⟨w.heap.size, 2, none⟩), .int .i64 d, .int .i64 (d - 1), .pointer (some ⟨w.heap.size, 0, none⟩), .int .i64 y, .func (.func 46) #[] #[.pointer (some ⟨w1.heap.size + 1, 0, none⟩)], .int .i64 x.1.1, .int .i64 x.1.2, undef, undef, undef, undef, undef, undef, undef, undef], defers := [] }) ?assign ?body ?done ?stop
  case assign =>
    intro l x W K hK
    unfold encMF
    gi_wp2
    exact hK
  case body =>
    rintro l pre ⟨⟨xm, xf⟩, x1, x2, x3, x4⟩ W ⟨⟨⟨hc, hf⟩, hm, hp⟩, hB⟩ _
    simp only at x1 x2 x3 x4
    gi_wp2
    · rename_i hx
      have hx : xm = m := by simpa using hx
      subst hx
      exact ⟨KeepsOthers.setCell _ _ _, ⟨rfl, pre, ⟨(xm, xf), x1, x2, x3, x4⟩, rfl, rfl, World.cell?_setCell_same' _ _ _ (by rw [hc]; rfl)⟩, hB.setCell (p := ⟨w1.heap.size, 0, none⟩) (by show w.heap.size ≤ w1.heap.size; omega) _⟩
    · rename_i hx
      have hx : xm ≠ m := by simpa using hx
      exact ⟨KeepsOthers.refl _, ⟨fun v hv => hv, Below.refl _ _⟩, ⟨⟨hc, hf⟩, hm, fun x hxm => (List.mem_append.1 hxm).elim (hp x) (fun e => by simp at e; subst e; exact hx)⟩, hB⟩
  case done =>
    rintro D ys W hD rfl ⟨⟨_, _, hp⟩, _⟩ _
    exfalso
    refine hp (mf y y1 y2 (m - 1).toNat) (List.mem_map.2 ⟨(m - 1).toNat, by simp; omega, rfl⟩) ?_
    rw [mf_at (by omega)]
    show ((m - 1).toNat : Int) + 1 = m
    omega
  case stop =>
    rintro D c pre W hD ⟨k, hk, rfl⟩ ⟨⟨rfl, q, x, e1, e2, e3⟩, hB⟩ hK
    have hx : x.1.2 = ny y + cum y m := by
      cases k with
      | zero => simp [upto] at e1
      | succ k =>
        rw [upto_succ] at e1
        have e4 := (List.append_inj' e1 rfl).2
        simp at e4
        subst e4
        rw [mf_at (by omega)] at e2 ⊢
        have e2 : (k : Int) + 1 = m := e2
        show ny y + cum y (k + 1) = _
        rw [e2]
    rw [hx] at e3
    clear hx e1 e2 x q
    gi_wp2
    refine ⟨by simp, .inl ⟨_, _, rfl, run_takeDeferred hK, ?_⟩⟩
    have hc5 := cell_kept e3 (grownBy_putObj' _ D (.deferred none)) (fun r e => by cases e; exact ⟨_, hK, rfl⟩)
    refine ⟨.tuple #[.int .i64 (d - 1 + (ny y + cum y m)), .int .i64 0], ?_, by rw [show d - 1 + (ny y + cum y m) = ny y + cum y m + d - 1 by omega], hB.trans (belowK_b (w := w) (Nat.le_refl _) W D _ _ (by simp at hD; omega) hK rfl rfl)⟩
    simp [results, Tryd.results20, go_sem, hc5]
end Go.Proofs.YtdelgijalnmehaaDoor
