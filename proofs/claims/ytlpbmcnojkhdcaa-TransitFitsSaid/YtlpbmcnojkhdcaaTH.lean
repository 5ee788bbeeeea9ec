/-
  The walk of the law on what fits a tube.
-/
import Derived.Test.YtlpbmcnojkhdcaaTG
import Derived.Deep.RegionHeld3
namespace Go.Proofs.Ytlpbmcnojkhdcaa
open Go.RowKit
set_option linter.unusedSimpArgs false
set_option linter.unusedVariables false

theorem lt_cell {w : World} {b o : Nat} {v : Value} (h : w.cell? ⟨b, o, none⟩ = some v) : b < w.heap.size := World.block_lt_of_cell? w ⟨b, o, none⟩ h
/-- A tube's two cells and a transit's five. -/
abbrev H7 (W : World) (p q : Nat) (x0 x1 y0 y1 y2 y3 y4 : Value) (w : World) : Prop :=
  Bl W w ∧ w.cell? ⟨p, 0, none⟩ = some x0 ∧ w.cell? ⟨p, 1, none⟩ = some x1 ∧ w.cell? ⟨q, 0, none⟩ = some y0 ∧ w.cell? ⟨q, 1, none⟩ = some y1 ∧ w.cell? ⟨q, 2, none⟩ = some y2 ∧ w.cell? ⟨q, 3, none⟩ = some y3 ∧ w.cell? ⟨q, 4, none⟩ = some y4 ∧ p < W.heap.size ∧ q < W.heap.size
theorem H7.t {W a b : World} {p q : Nat} {x0 x1 y0 y1 y2 y3 y4 : Value} (h : H7 W p q x0 x1 y0 y1 y2 y3 y4 a) (hb : Bl a b) : H7 W p q x0 x1 y0 y1 y2 y3 y4 b := by
  obtain ⟨h1, c0, c1, d0, d1, d2, d3, d4, l0, l1⟩ := h
  exact ⟨h1.tr hb, kc hb c0, kc hb c1, kc hb d0, kc hb d1, kc hb d2, kc hb d3, kc hb d4, l0, l1⟩
theorem H7.bl {W a : World} {p q : Nat} {x0 x1 y0 y1 y2 y3 y4 : Value} (h : H7 W p q x0 x1 y0 y1 y2 y3 y4 a) : Bl W a := h.1

set_option maxHeartbeats 3200000 in
theorem fits_walk (A : Option Addr) (n c : Nat) (f : Nat → Int) (e : Int) (s : ByteArray) (a h l : Int) (B : Option Addr) (m d : Nat) (g : Nat → Int) (z : Int) (w : World) (hn : n ≤ maxLen) (hm : m ≤ maxLen) (hs : s.size ≤ maxLen) (hA : Sl w A n f) (hB : Sl w B m g) :
    Calls Try.prog 3 #[.agg #[.slice A n c, .int .i64 e], .agg #[.string s, .int .i64 a, .int .i64 h, .int .i64 l, .slice B m d], .int .i64 z] w fun e' w' => e' = .returned (.bool true) ∧ Bl w w' := by
  have HM := Lib.hid hm
  have HNN := Lib.hid hn
  have HS := Lib.hid hs
  have HA := Lib.hid hA
  have HB := Lib.hid hB
  clear hA hB hs hm hn
  obtain ⟨r1, r2, hr⟩ : ∃ r1 r2, crossF n f e s a h l m g = (r1, r2) := ⟨_, _, rfl⟩
  have Hr := Lib.hid hr
  clear hr
  obtain ⟨d1, d2, hr⟩ : ∃ r1 r2, diffF n f e s a h l m g = (r1, r2) := ⟨_, _, rfl⟩
  have Hd := Lib.hid hr
  clear hr
  obtain ⟨f1, f2, hr⟩ : ∃ r1 r2, foldF z = (r1, r2) := ⟨_, _, rfl⟩
  have Hf := Lib.hid hr
  clear hr
  go_enter Try.func3, Try.ntmps3
  go_wp2_with fail
  refine (wide_any A n c e (some ⟨w.heap.size + 1 + 1, 0, none⟩) 1 1 (fun _ => ⟨s, a, h, l, B, m, d⟩) _ HNN.out (by decide) ?tl).mono ?_
  case tl =>
    intro _
    refine ⟨_, _, rfl, by (try simp only [World.size_alloc]); omega, fun j hj => ?_⟩
    obtain rfl : j = 0 := by omega
    exact ⟨by go_cell, by go_cell, by go_cell, by go_cell, by go_cell⟩
  rintro e1 w1 ⟨v, rfl, hb⟩
  have x0 := kc hb (b := w.heap.size) (o := 0) (v := .slice A n c) (by go_cell)
  have x1 := kc hb (b := w.heap.size) (o := 1) (v := .int .i64 e) (by go_cell)
  have x2 := kc hb (b := w.heap.size + 1) (o := 0) (v := .string s) (by go_cell)
  have x3 := kc hb (b := w.heap.size + 1) (o := 1) (v := .int .i64 a) (by go_cell)
  have x4 := kc hb (b := w.heap.size + 1) (o := 2) (v := .int .i64 h) (by go_cell)
  have x5 := kc hb (b := w.heap.size + 1) (o := 3) (v := .int .i64 l) (by go_cell)
  have x6 := kc hb (b := w.heap.size + 1) (o := 4) (v := .slice B m d) (by go_cell)
  have B1 : Bl w w1 := Below.trans (by go_grown) (hb.mono (by (try simp only [World.size_alloc, World.size_setCell, World.size_drew]); omega))
  have z1 := B1.size
  clear hb
  cases v
  case true =>
    go_wp2_with fail
    refine (awake3_any _).mono ?_
    rintro e2 w2 ⟨rfl, hb⟩
    have B2 : Bl w w2 := B1.tr hb
    clear hb
    go_wp2_with fail
    go_ret
    exact ⟨rfl, B2⟩
  case false =>
    go_wp2_with fail
    refine (cross_any A n c f e s a h l B m d g _ HNN.out HM.out HS.out (HA.out.below (by go_grown)) (HB.out.below (by go_grown))).mono ?_
    rintro e2 w2 ⟨rfl, hb⟩
    have x0 := kc hb (b := w.heap.size) (o := 0) (v := .slice A n c) (by go_cell)
    have x1 := kc hb (b := w.heap.size) (o := 1) (v := .int .i64 e) (by go_cell)
    have x2 := kc hb (b := w.heap.size + 1) (o := 0) (v := .string s) (by go_cell)
    have x3 := kc hb (b := w.heap.size + 1) (o := 1) (v := .int .i64 a) (by go_cell)
    have x4 := kc hb (b := w.heap.size + 1) (o := 2) (v := .int .i64 h) (by go_cell)
    have x5 := kc hb (b := w.heap.size + 1) (o := 3) (v := .int .i64 l) (by go_cell)
    have x6 := kc hb (b := w.heap.size + 1) (o := 4) (v := .slice B m d) (by go_cell)
    have B2 : Bl w w2 := Below.trans (by go_grown) (hb.mono (by (try simp only [World.size_alloc, World.size_setCell, World.size_drew]); omega))
    have z2 := B2.size
    clear hb
    rw [Hr.out]
    unfold rI
    go_wp2_with fail
    refine (rcross_any A n c f e s a h l B m d g _ HNN.out HM.out HS.out (HA.out.below (by go_grown)) (HB.out.below (by go_grown))).mono ?_
    rintro e3 w3 ⟨rfl, hb⟩
    have x0 := kc hb (b := w.heap.size) (o := 0) (v := .slice A n c) (by go_cell)
    have x1 := kc hb (b := w.heap.size) (o := 1) (v := .int .i64 e) (by go_cell)
    have x2 := kc hb (b := w.heap.size + 1) (o := 0) (v := .string s) (by go_cell)
    have x3 := kc hb (b := w.heap.size + 1) (o := 1) (v := .int .i64 a) (by go_cell)
    have x4 := kc hb (b := w.heap.size + 1) (o := 2) (v := .int .i64 h) (by go_cell)
    have x5 := kc hb (b := w.heap.size + 1) (o := 3) (v := .int .i64 l) (by go_cell)
    have x6 := kc hb (b := w.heap.size + 1) (o := 4) (v := .slice B m d) (by go_cell)
    have B3 : Bl w w3 := Below.trans (by go_grown) (hb.mono (by (try simp only [World.size_alloc, World.size_setCell, World.size_drew]); omega))
    have z3 := B3.size
    clear hb
    rw [Hr.out]
    unfold rI
    go_wp2_with fail
    refine (diff_any A n c f e s a h l B m d g _ HNN.out HM.out HS.out (HA.out.below (by go_grown)) (HB.out.below (by go_grown))).mono ?_
    rintro e4 w4 ⟨rfl, hb⟩
    have x0 := kc hb (b := w.heap.size) (o := 0) (v := .slice A n c) (by go_cell)
    have x1 := kc hb (b := w.heap.size) (o := 1) (v := .int .i64 e) (by go_cell)
    have x2 := kc hb (b := w.heap.size + 1) (o := 0) (v := .string s) (by go_cell)
    have x3 := kc hb (b := w.heap.size + 1) (o := 1) (v := .int .i64 a) (by go_cell)
    have x4 := kc hb (b := w.heap.size + 1) (o := 2) (v := .int .i64 h) (by go_cell)
    have x5 := kc hb (b := w.heap.size + 1) (o := 3) (v := .int .i64 l) (by go_cell)
    have x6 := kc hb (b := w.heap.size + 1) (o := 4) (v := .slice B m d) (by go_cell)
    have B4 : Bl w w4 := Below.trans (by go_grown) (hb.mono (by (try simp only [World.size_alloc, World.size_setCell, World.size_drew]); omega))
    have z4 := B4.size
    clear hb
    rw [Hd.out]
    unfold rI
    go_wp2_with fail
    refine (rdiff_any A n c f e s a h l B m d g _ HNN.out HM.out HS.out (HA.out.below (by go_grown)) (HB.out.below (by go_grown))).mono ?_
    rintro e5 w5 ⟨rfl, hb⟩
    have x0 := kc hb (b := w.heap.size) (o := 0) (v := .slice A n c) (by go_cell)
    have x1 := kc hb (b := w.heap.size) (o := 1) (v := .int .i64 e) (by go_cell)
    have x2 := kc hb (b := w.heap.size + 1) (o := 0) (v := .string s) (by go_cell)
    have x3 := kc hb (b := w.heap.size + 1) (o := 1) (v := .int .i64 a) (by go_cell)
    have x4 := kc hb (b := w.heap.size + 1) (o := 2) (v := .int .i64 h) (by go_cell)
    have x5 := kc hb (b := w.heap.size + 1) (o := 3) (v := .int .i64 l) (by go_cell)
    have x6 := kc hb (b := w.heap.size + 1) (o := 4) (v := .slice B m d) (by go_cell)
    have B5 : Bl w w5 := Below.trans (by go_grown) (hb.mono (by (try simp only [World.size_alloc, World.size_setCell, World.size_drew]); omega))
    have z5 := B5.size
    clear hb
    rw [Hd.out]
    unfold rI
    go_wp2_with fail
    refine (folded_any _ _).mono ?_
    rintro e6 w6 ⟨rfl, rfl⟩
    rw [Hf.out]
    unfold rI
    go_wp2_with fail
    refine (rfolded_any _ _).mono ?_
    rintro e7 w7 ⟨rfl, rfl⟩
    rw [Hf.out]
    unfold rI
    go_wp2_with fail
    obtain ⟨W, hW⟩ : ∃ W, W = w5 := ⟨_, rfl⟩
    have hS : H7 W w.heap.size (w.heap.size + 1) (.slice A n c) (.int .i64 e) (.string s) (.int .i64 a) (.int .i64 h) (.int .i64 l) (.slice B m d) W := by rw [hW]; exact ⟨Bl.rf _, x0, x1, x2, x3, x4, x5, x6, lt_cell x0, lt_cell x2⟩
    have BW : Bl w W := by rw [hW]; exact B5
    rw [← hW]
    clear hW x0 x1 x2 x3 x4 x5 x6
    have HAW := Lib.hid (show Sl W A n f from HA.out.below BW)
    have HBW := Lib.hid (show Sl W B m g from HB.out.below BW)
    go_region_held3 (fun w' => Bl W w' ∧ w'.cell? ⟨w.heap.size, 0, none⟩ = some (.slice A n c) ∧ w'.cell? ⟨w.heap.size, 1, none⟩ = some (.int .i64 e) ∧ w'.cell? ⟨w.heap.size + 1, 0, none⟩ = some (.string s) ∧ w'.cell? ⟨w.heap.size + 1, 1, none⟩ = some (.int .i64 a) ∧ w'.cell? ⟨w.heap.size + 1, 2, none⟩ = some (.int .i64 h) ∧ w'.cell? ⟨w.heap.size + 1, 3, none⟩ = some (.int .i64 l) ∧ w'.cell? ⟨w.heap.size + 1, 4, none⟩ = some (.slice B m d) ∧ w.heap.size < W.heap.size ∧ w.heap.size + 1 < W.heap.size) (first | exact H7.t hS (Bl.dq _ 1) | exact H7.t (by assumption) hh0 | exact H7.t (by assumption) hh1 | exact H7.t (by assumption) hh2 | exact H7.t (by assumption) hh3 | exact H7.t (by assumption) hh4 | exact H7.t (by assumption) hh5) (first | (go_at_call 20; refine (validStar_any _ _ _ _ _ HS.out).mono ?_; rintro e v0 ⟨rfl, hh0⟩) | (go_at_call 21; refine (rvalidStar_any _ _ _ _ _ HS.out).mono ?_; rintro e v1 ⟨rfl, hh1⟩) | (go_at_call 22; refine (validTube_any A n c f e _ HNN.out (HAW.out.below (H7.bl (by assumption)))).mono ?_; rintro e v2 ⟨rfl, hh2⟩) | (go_at_call 23; refine (rvalidTube_any A n c f e _ HNN.out (HAW.out.below (H7.bl (by assumption)))).mono ?_; rintro e v3 ⟨rfl, hh3⟩) | (go_at_call 24; refine (fits_any A n c f e s a h l B m d g _ HNN.out HM.out HS.out (HAW.out.below (H7.bl (by assumption))) (HBW.out.below (H7.bl (by assumption)))).mono ?_; rintro e v4 ⟨rfl, hh4⟩) | (go_at_call 25; refine (rfits_any A n c f e s a h l B m d g _ HNN.out HM.out HS.out (HAW.out.below (H7.bl (by assumption))) (HBW.out.below (H7.bl (by assumption)))).mono ?_; rintro e v5 ⟨rfl, hh5⟩))
    go_wp2_with fail
    refine (awake3_any _).mono ?_
    rintro e9 w9 ⟨rfl, hb⟩
    go_wp2_with fail
    go_ret
    exact ⟨rfl, (BW.tr (H7.bl (by assumption))).tr hb⟩
end Go.Proofs.Ytlpbmcnojkhdcaa
