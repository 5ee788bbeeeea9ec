/-
  Contracts of package transit and of its reference: what fits a tube.
-/
import Derived.Test.YtlpbmcnojkhdcaaDoorTD
namespace Go.Proofs.YtlpbmcnojkhdcaaDoor
open Go.RowKit
set_option linter.unusedSimpArgs false
set_option linter.unusedVariables false

theorem kc {W w1 : World} (hb : Bl W w1) {b o : Nat} {v : Value} (h : W.cell? ⟨b, o, none⟩ = some v) : w1.cell? ⟨b, o, none⟩ = some v :=
  (hb.cell (p := ⟨b, o, none⟩) (World.block_lt_of_cell? W ⟨b, o, none⟩ h)).trans h
def fitB (n : Nat) (f : Nat → Int) (e : Int) (s : ByteArray) (a h l : Int) (m : Nat) (g : Nat → Int) : Bool := tuB n f e && stB s a h l && decide (m = n) && tmTo g m

set_option maxHeartbeats 1000000 in
theorem fits_any (A : Option Addr) (n c : Nat) (f : Nat → Int) (e : Int) (s : ByteArray) (a h l : Int) (B : Option Addr) (m d : Nat) (g : Nat → Int) (w : World) (hn : n ≤ maxLen) (hm : m ≤ maxLen) (hs : s.size ≤ maxLen) (hA : Sl w A n f) (hB : Sl w B m g) :
    Calls Tryd.prog 23 #[.agg #[.slice A n c, .int .i64 e], .agg #[.string s, .int .i64 a, .int .i64 h, .int .i64 l, .slice B m d]] w fun e' w' => e' = .returned (.bool (fitB n f e s a h l m g)) ∧ Bl w w' := by
  have HM := Lib.hid hm
  have HNN := Lib.hid hn
  have HS := Lib.hid hs
  have HA := Lib.hid hA
  have HB := Lib.hid hB
  clear hA hB hs
  unfold maxLen at hn hm
  by_cases q : tuB n f e = true
  · have H1 := Lib.hid q
    clear q
    by_cases q : stB s a h l = true
    · have H2 := Lib.hid q
      clear q
      by_cases q : m = n
      · have H3 := Lib.hid q
        have q3 : ((m : Int) == (n : Int)) = true := by simp [q]
        clear q
        go_enter Tryd.func23, Tryd.ntmps23
        go_wp2_with fail
        refine (validTube_any A n c f e _ HNN.out (HA.out.below (by go_grown))).mono ?_
        rintro e1 w1 ⟨rfl, hb⟩
        have x0 := kc hb (b := w.heap.size) (o := 0) (v := .slice A n c) (by go_cell)
        have x1 := kc hb (b := w.heap.size) (o := 1) (v := .int .i64 e) (by go_cell)
        have x2 := kc hb (b := w.heap.size + 1) (o := 0) (v := .string s) (by go_cell)
        have x3 := kc hb (b := w.heap.size + 1) (o := 1) (v := .int .i64 a) (by go_cell)
        have x4 := kc hb (b := w.heap.size + 1) (o := 2) (v := .int .i64 h) (by go_cell)
        have x5 := kc hb (b := w.heap.size + 1) (o := 3) (v := .int .i64 l) (by go_cell)
        have x6 := kc hb (b := w.heap.size + 1) (o := 4) (v := .slice B m d) (by go_cell)
        have B1 : Bl w w1 := Below.trans (by go_grown) (hb.mono (by (try simp only [World.size_alloc, World.size_setCell, World.size_drew]); omega))
        have z1 := B1.size
        clear hb
        rw [H1.out]
        go_wp2_with fail
        refine (validStar_any _ _ _ _ _ HS.out).mono ?_
        rintro e2 w2 ⟨rfl, hb⟩
        have x0 := kc hb (b := w.heap.size) (o := 0) (v := .slice A n c) (by go_cell)
        have x1 := kc hb (b := w.heap.size) (o := 1) (v := .int .i64 e) (by go_cell)
        have x2 := kc hb (b := w.heap.size + 1) (o := 0) (v := .string s) (by go_cell)
        have x3 := kc hb (b := w.heap.size + 1) (o := 1) (v := .int .i64 a) (by go_cell)
        have x4 := kc hb (b := w.heap.size + 1) (o := 2) (v := .int .i64 h) (by go_cell)
        have x5 := kc hb (b := w.heap.size + 1) (o := 3) (v := .int .i64 l) (by go_cell)
        have x6 := kc hb (b := w.heap.size + 1) (o := 4) (v := .slice B m d) (by go_cell)
        have B2 : Bl w w2 := Below.trans (by go_grown) (hb.mono (by (try simp only [World.size_alloc, World.size_setCell, World.size_drew]); omega))
        have z2 := B2.size
        clear hb
        rw [H2.out]
        go_wp2_with fail
        refine (areTimes_any B m d g _ HM.out (HB.out.below (by go_grown))).mono ?_
        rintro e3 w3 ⟨rfl, rfl⟩
        go_wp2_with fail
        go_ret
        exact ⟨ret_bool (by rw [fitB, H1.out, H2.out]; simp [H3.out]), by go_grown⟩
      · have H3 := Lib.hid q
        have q3 : ((m : Int) == (n : Int)) = false := by simp; omega
        clear q
        go_enter Tryd.func23, Tryd.ntmps23
        go_wp2_with fail
        refine (validTube_any A n c f e _ HNN.out (HA.out.below (by go_grown))).mono ?_
        rintro e1 w1 ⟨rfl, hb⟩
        have x0 := kc hb (b := w.heap.size) (o := 0) (v := .slice A n c) (by go_cell)
        have x1 := kc hb (b := w.heap.size) (o := 1) (v := .int .i64 e) (by go_cell)
        have x2 := kc hb (b := w.heap.size + 1) (o := 0) (v := .string s) (by go_cell)
        have x3 := kc hb (b := w.heap.size + 1) (o := 1) (v := .int .i64 a) (by go_cell)
        have x4 := kc hb (b := w.heap.size + 1) (o := 2) (v := .int .i64 h) (by go_cell)
        have x5 := kc hb (b := w.heap.size + 1) (o := 3) (v := .int .i64 l) (by go_cell)
        have x6 := kc hb (b := w.heap.size + 1) (o := 4) (v := .slice B m d) (by go_cell)
        have B1 : Bl w w1 := Below.trans (by go_grown) (hb.mono (by (try simp only [World.size_alloc, World.size_setCell, World.size_drew]); omega))
        have z1 := B1.size
        clear hb
        rw [H1.out]
        go_wp2_with fail
        refine (validStar_any _ _ _ _ _ HS.out).mono ?_
        rintro e2 w2 ⟨rfl, hb⟩
        have x0 := kc hb (b := w.heap.size) (o := 0) (v := .slice A n c) (by go_cell)
        have x1 := kc hb (b := w.heap.size) (o := 1) (v := .int .i64 e) (by go_cell)
        have x2 := kc hb (b := w.heap.size + 1) (o := 0) (v := .string s) (by go_cell)
        have x3 := kc hb (b := w.heap.size + 1) (o := 1) (v := .int .i64 a) (by go_cell)
        have x4 := kc hb (b := w.heap.size + 1) (o := 2) (v := .int .i64 h) (by go_cell)
        have x5 := kc hb (b := w.heap.size + 1) (o := 3) (v := .int .i64 l) (by go_cell)
        have x6 := kc hb (b := w.heap.size + 1) (o := 4) (v := .slice B m d) (by go_cell)
        have B2 : Bl w w2 := Below.trans (by go_grown) (hb.mono (by (try simp only [World.size_alloc, World.size_setCell, World.size_drew]); omega))
        have z2 := B2.size
        clear hb
        rw [H2.out]
        go_wp2_with fail
        go_ret
        exact ⟨ret_bool (by rw [fitB, H1.out, H2.out]; simp [H3.out]), by go_grown⟩
    · have H2 := Lib.hid (show stB s a h l = false by simpa using q)
      clear q
      go_enter Tryd.func23, Tryd.ntmps23
      go_wp2_with fail
      refine (validTube_any A n c f e _ HNN.out (HA.out.below (by go_grown))).mono ?_
      rintro e1 w1 ⟨rfl, hb⟩
      have x0 := kc hb (b := w.heap.size) (o := 0) (v := .slice A n c) (by go_cell)
      have x1 := kc hb (b := w.heap.size) (o := 1) (v := .int .i64 e) (by go_cell)
      have x2 := kc hb (b := w.heap.size + 1) (o := 0) (v := .string s) (by go_cell)
      have x3 := kc hb (b := w.heap.size + 1) (o := 1) (v := .int .i64 a) (by go_cell)
      have x4 := kc hb (b := w.heap.size + 1) (o := 2) (v := .int .i64 h) (by go_cell)
      have x5 := kc hb (b := w.heap.size + 1) (o := 3) (v := .int .i64 l) (by go_cell)
      have x6 := kc hb (b := w.heap.size + 1) (o := 4) (v := .slice B m d) (by go_cell)
      have B1 : Bl w w1 := Below.trans (by go_grown) (hb.mono (by (try simp only [World.size_alloc, World.size_setCell, World.size_drew]); omega))
      have z1 := B1.size
      clear hb
      rw [H1.out]
      go_wp2_with fail
      refine (validStar_any _ _ _ _ _ HS.out).mono ?_
      rintro e2 w2 ⟨rfl, hb⟩
      have x0 := kc hb (b := w.heap.size) (o := 0) (v := .slice A n c) (by go_cell)
      have x1 := kc hb (b := w.heap.size) (o := 1) (v := .int .i64 e) (by go_cell)
      have x2 := kc hb (b := w.heap.size + 1) (o := 0) (v := .string s) (by go_cell)
      have x3 := kc hb (b := w.heap.size + 1) (o := 1) (v := .int .i64 a) (by go_cell)
      have x4 := kc hb (b := w.heap.size + 1) (o := 2) (v := .int .i64 h) (by go_cell)
      have x5 := kc hb (b := w.heap.size + 1) (o := 3) (v := .int .i64 l) (by go_cell)
      have x6 := kc hb (b := w.heap.size + 1) (o := 4) (v := .slice B m d) (by go_cell)
      have B2 : Bl w w2 := Below.trans (by go_grown) (hb.mono (by (try simp only [World.size_alloc, World.size_setCell, World.size_drew]); omega))
      have z2 := B2.size
      clear hb
      rw [H2.out]
      go_wp2_with fail
      go_ret
      exact ⟨ret_bool (by rw [fitB, H1.out, H2.out]; rfl), by go_grown⟩
  · have H1 := Lib.hid (show tuB n f e = false by simpa using q)
    clear q
    go_enter Tryd.func23, Tryd.ntmps23
    go_wp2_with fail
    refine (validTube_any A n c f e _ HNN.out (HA.out.below (by go_grown))).mono ?_
    rintro e1 w1 ⟨rfl, hb⟩
    have x0 := kc hb (b := w.heap.size) (o := 0) (v := .slice A n c) (by go_cell)
    have x1 := kc hb (b := w.heap.size) (o := 1) (v := .int .i64 e) (by go_cell)
    have x2 := kc hb (b := w.heap.size + 1) (o := 0) (v := .string s) (by go_cell)
    have x3 := kc hb (b := w.heap.size + 1) (o := 1) (v := .int .i64 a) (by go_cell)
    have x4 := kc hb (b := w.heap.size + 1) (o := 2) (v := .int .i64 h) (by go_cell)
    have x5 := kc hb (b := w.heap.size + 1) (o := 3) (v := .int .i64 l) (by go_cell)
    have x6 := kc hb (b := w.heap.size + 1) (o := 4) (v := .slice B m d) (by go_cell)
    have B1 : Bl w w1 := Below.trans (by go_grown) (hb.mono (by (try simp only [World.size_alloc, World.size_setCell, World.size_drew]); omega))
    have z1 := B1.size
    clear hb
    rw [H1.out]
    go_wp2_with fail
    go_ret
    exact ⟨ret_bool (by rw [fitB, H1.out]; rfl), by go_grown⟩
