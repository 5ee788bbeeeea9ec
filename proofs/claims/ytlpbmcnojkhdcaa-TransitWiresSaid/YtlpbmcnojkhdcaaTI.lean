/-
  Contracts of package transit and of its reference: wired transits.
-/
import Derived.Test.YtlpbmcnojkhdcaaTG
import Derived.Deep.OwnRows
import Derived.Deep.AppendLies
import Derived.Deep.RegionHeld3
namespace Go.Proofs.Ytlpbmcnojkhdcaa
open Go.RowKit
set_option linter.unusedSimpArgs false
set_option linter.unusedVariables false

theorem lt_cell {w : World} {b o : Nat} {v : Value} (h : w.cell? ⟨b, o, none⟩ = some v) : b < w.heap.size := World.block_lt_of_cell? w ⟨b, o, none⟩ h
theorem frozen_beyond {w : World} {b o : Nat} (h : w.heap.size ≤ b) : w.frozen? ⟨b, o, none⟩ = false := by
  have : w.heap[b]? = none := by simp [h]
  simp [World.frozen?, this]
theorem kf {W w1 : World} (hb : Bl W w1) {b o : Nat} (h : W.frozen? ⟨b, o, none⟩ = false) (hl : b < W.heap.size) : w1.frozen? ⟨b, o, none⟩ = false := (hb.frozen (p := ⟨b, o, none⟩) hl).trans h
theorem cell_new (w : World) (C : Array Value) (t : TypeId) (b j : Nat) (hb : b = w.heap.size) : (w.alloc (.cells C t)).cell? ⟨b, j, none⟩ = C[j]? := by
  subst hb
  exact cell_of_row _ _ j C t (0, 0) (heap_alloc_new w _)
/-- The times at the wires. -/
def wtF (f : Nat → Int) (l z : Int) (k : Nat) : Int := z + f k * l / 1000
def wtTo (f : Nat → Int) (l z : Int) : Nat → Bool
  | 0 => true
  | k + 1 => wtTo f l z k && inB (wtF f l z k) 0 86399999
theorem wtTo_no (f : Nat → Int) (l z : Int) {k n : Nat} (hk : k < n) (h : inB (wtF f l z k) 0 86399999 = false) : wtTo f l z n = false := by
  induction n with
  | zero => omega
  | succ n ih =>
    by_cases e : k = n
    · subst e; simp [wtTo, h]
    · simp [wtTo, ih (by omega)]
theorem wtTo_at {f : Nat → Int} {l z : Int} {k n : Nat} (h : wtTo f l z n = true) (hk : k < n) : 0 ≤ wtF f l z k ∧ wtF f l z k ≤ 86399999 := by
  induction n with
  | zero => omega
  | succ n ih =>
    simp only [wtTo, Bool.and_eq_true, inB_iff] at h
    by_cases e : k = n
    · subst e; exact h.2
    · exact ih h.1 (by omega)
def wok (n : Nat) (f : Nat → Int) (e : Int) (s : ByteArray) (a h l : Int) : Bool := tuB n f e && stB s a h l
/-- What Wired returns. -/
def WirePost (n : Nat) (f : Nat → Int) (e : Int) (s : ByteArray) (a h l z : Int) (w : World) (e' : Ending) (w' : World) : Prop :=
  Bl w w' ∧ ((wok n f e s a h l = false ∧ e' = .returned (.tuple #[.agg #[.string ⟨#[]⟩, .int .i64 0, .int .i64 0, .int .i64 0, .slice none 0 0], .int .i64 1])) ∨
    (wok n f e s a h l = true ∧ wtTo f l z n = false ∧ e' = .returned (.tuple #[.agg #[.string ⟨#[]⟩, .int .i64 0, .int .i64 0, .int .i64 0, .slice none 0 0], .int .i64 7])) ∨
    (wok n f e s a h l = true ∧ wtTo f l z n = true ∧ ∃ A c, e' = .returned (.tuple #[.agg #[.string s, .int .i64 a, .int .i64 h, .int .i64 l, .slice A n c], .int .i64 0]) ∧ Sl w' A n (wtF f l z)))
theorem wired_zero : True := trivial

set_option maxRecDepth 100000 in
set_option maxHeartbeats 3200000 in
theorem wired_any (A : Option Addr) (n c : Nat) (f : Nat → Int) (e : Int) (s : ByteArray) (a h l z : Int) (w : World) (hn : n ≤ maxLen) (hs : s.size ≤ maxLen) (hz : -9223372036854775808 ≤ z ∧ z ≤ 9223372036854775807) (hA : Sl w A n f) :
    Calls Try.prog 44 #[.agg #[.slice A n c, .int .i64 e], .agg #[.string s, .int .i64 a, .int .i64 h, .int .i64 l], .int .i64 z] w (WirePost n f e s a h l z w) := by
  have HNN := Lib.hid hn
  have HS := Lib.hid hs
  have HA := Lib.hid hA
  clear hA hs hn
  obtain ⟨hz1, hz2⟩ := hz
  have hmk : ∀ (W : World), 0 < n → n ≤ 7 → (Instr.makeSlice 22 (.int .i64 (n : Int)) (.int .i64 (n : Int))).run Try.prog W = .ok (.slice (some ⟨W.heap.size, 0, none⟩) n n) (W.alloc (.cells (madeCells #[.int .i64 0] n) 3)) :=
    fun W h0 h7 => run_make_row' _ _ _ 8 Try.underlying22 (by kernel_rfl) rfl .i64 .i64 n (by omega) (by omega) W
  have HMK := Lib.hid hmk
  clear hmk
  by_cases q : tuB n f e = true
  · have H1 := Lib.hid q
    clear q
    by_cases q : stB s a h l = true
    · have H2 := Lib.hid q
      clear q
      have F := H1.out
      simp only [tuB, Bool.and_eq_true, decide_eq_true_eq] at F
      obtain ⟨⟨⟨n1, n7⟩, _⟩, ft⟩ := F
      have FB := Lib.hid (fun k (hk : k < n) => tuTo_at ft hk)
      clear ft
      have L := (stB_yes (s := s) (a := a) (h := h) (l := l) (by have := H2.out; simp only [stB, Bool.and_eq_true] at this; exact this.1.1.1)).1 H2.out
      obtain ⟨_, _, l1, l2⟩ := L
      have hmk := fun W => HMK.out W (by omega) n7
      go_enter Try.func44, Try.ntmps44
      go_wp2_with fail
      refine (validTube_any A n c f e _ HNN.out (HA.out.below (by go_grown))).mono ?_
      rintro e1 w1 ⟨rfl, hb⟩
      have x0 := kc hb (b := w.heap.size) (o := 0) (v := .slice A n c) (by go_cell)
      have x1 := kc hb (b := w.heap.size) (o := 1) (v := .int .i64 e) (by go_cell)
      have x2 := kc hb (b := w.heap.size + 1) (o := 0) (v := .string s) (by go_cell)
      have x3 := kc hb (b := w.heap.size + 1) (o := 1) (v := .int .i64 a) (by go_cell)
      have x4 := kc hb (b := w.heap.size + 1) (o := 2) (v := .int .i64 h) (by go_cell)
      have x5 := kc hb (b := w.heap.size + 1) (o := 3) (v := .int .i64 l) (by go_cell)
      have x6 := kc hb (b := w.heap.size + 1 + 1) (o := 0) (v := .string ⟨#[]⟩) (by go_cell)
      have x7 := kc hb (b := w.heap.size + 1 + 1) (o := 1) (v := .int .i64 0) (by go_cell)
      have x8 := kc hb (b := w.heap.size + 1 + 1) (o := 2) (v := .int .i64 0) (by go_cell)
      have x9 := kc hb (b := w.heap.size + 1 + 1) (o := 3) (v := .int .i64 0) (by go_cell)
      have x10 := kc hb (b := w.heap.size + 1 + 1) (o := 4) (v := .slice none 0 0) (by go_cell)
      have y0 := kf hb (b := w.heap.size + 1 + 1) (o := 0) (by (try simp only [frozen?_alloc_cells, World.frozen?_setCell]); first | assumption | exact frozen_beyond (by (try simp only [World.size_alloc]); omega)) (by (try simp only [World.size_alloc]); omega)
      have y1 := kf hb (b := w.heap.size + 1 + 1) (o := 1) (by (try simp only [frozen?_alloc_cells, World.frozen?_setCell]); first | assumption | exact frozen_beyond (by (try simp only [World.size_alloc]); omega)) (by (try simp only [World.size_alloc]); omega)
      have y2 := kf hb (b := w.heap.size + 1 + 1) (o := 2) (by (try simp only [frozen?_alloc_cells, World.frozen?_setCell]); first | assumption | exact frozen_beyond (by (try simp only [World.size_alloc]); omega)) (by (try simp only [World.size_alloc]); omega)
      have y3 := kf hb (b := w.heap.size + 1 + 1) (o := 3) (by (try simp only [frozen?_alloc_cells, World.frozen?_setCell]); first | assumption | exact frozen_beyond (by (try simp only [World.size_alloc]); omega)) (by (try simp only [World.size_alloc]); omega)
      have y4 := kf hb (b := w.heap.size + 1 + 1) (o := 4) (by (try simp only [frozen?_alloc_cells, World.frozen?_setCell]); first | assumption | exact frozen_beyond (by (try simp only [World.size_alloc]); omega)) (by (try simp only [World.size_alloc]); omega)
      have B1 : Bl w w1 := Below.trans (by go_grown) (hb.mono (by (try simp only [World.size_alloc, World.size_setCell, World.size_drew]); omega))
      have z1 := B1.size
      have q1' := lt_cell x6
      have r1' := lt_cell x0
      have t1' := lt_cell x2
      clear hb
      rw [H1.out]
      go_wp2_with fail
      refine (validStar_any _ _ _ _ _ HS.out).mono ?_
      rintro e2 w2 ⟨rfl, hb⟩
      have x0 := kc hb (b := w.heap.size) (o := 0) (v := .slice A n c) (by go_cell)
      have x1 := kc hb (b := w.heap.size) (o := 1) (v := .int .i64 e) (by go_cell)
      have x2 := kc hb (b := w.heap.size + 1) (o := 0) (v := .string s) (by go_cell)
      have x3 := kc hb (b := w.heap.size + 1) (o := 1) (v := .int .i64 a) (by go_cell)
      have x4 := kc hb (b := w.heap.size + 1) (o := 2) (v := .int .i64 h) (by go_cell)
      have x5 := kc hb (b := w.heap.size + 1) (o := 3) (v := .int .i64 l) (by go_cell)
      have x6 := kc hb (b := w.heap.size + 1 + 1) (o := 0) (v := .string ⟨#[]⟩) (by go_cell)
      have x7 := kc hb (b := w.heap.size + 1 + 1) (o := 1) (v := .int .i64 0) (by go_cell)
      have x8 := kc hb (b := w.heap.size + 1 + 1) (o := 2) (v := .int .i64 0) (by go_cell)
      have x9 := kc hb (b := w.heap.size + 1 + 1) (o := 3) (v := .int .i64 0) (by go_cell)
      have x10 := kc hb (b := w.heap.size + 1 + 1) (o := 4) (v := .slice none 0 0) (by go_cell)
      have y0 := kf hb (b := w.heap.size + 1 + 1) (o := 0) (by (try simp only [frozen?_alloc_cells, World.frozen?_setCell]); first | assumption | exact frozen_beyond (by (try simp only [World.size_alloc]); omega)) (by (try simp only [World.size_alloc]); omega)
      have y1 := kf hb (b := w.heap.size + 1 + 1) (o := 1) (by (try simp only [frozen?_alloc_cells, World.frozen?_setCell]); first | assumption | exact frozen_beyond (by (try simp only [World.size_alloc]); omega)) (by (try simp only [World.size_alloc]); omega)
      have y2 := kf hb (b := w.heap.size + 1 + 1) (o := 2) (by (try simp only [frozen?_alloc_cells, World.frozen?_setCell]); first | assumption | exact frozen_beyond (by (try simp only [World.size_alloc]); omega)) (by (try simp only [World.size_alloc]); omega)
      have y3 := kf hb (b := w.heap.size + 1 + 1) (o := 3) (by (try simp only [frozen?_alloc_cells, World.frozen?_setCell]); first | assumption | exact frozen_beyond (by (try simp only [World.size_alloc]); omega)) (by (try simp only [World.size_alloc]); omega)
      have y4 := kf hb (b := w.heap.size + 1 + 1) (o := 4) (by (try simp only [frozen?_alloc_cells, World.frozen?_setCell]); first | assumption | exact frozen_beyond (by (try simp only [World.size_alloc]); omega)) (by (try simp only [World.size_alloc]); omega)
      have B2 : Bl w w2 := Below.trans (by go_grown) (hb.mono (by (try simp only [World.size_alloc, World.size_setCell, World.size_drew]); omega))
      have z2 := B2.size
      have q2' := lt_cell x6
      have r2' := lt_cell x0
      have t2' := lt_cell x2
      clear hb
      rw [H2.out]
      go_wp2_with fail
      clear hmk
      have HA2 := Lib.hid (show Sl w2 A n f from HA.out.below B2)
      go_loopw [28] (fun i wr => ∃ (k : Nat) (Cc : Array Value), k ≤ n ∧ i = .int .i64 k ∧ Cc.size = n ∧ Hid (∀ j, j < k → Cc[j]? = some (.int .i64 (wtF f l z j))) ∧ Hid (wtTo f l z k = true) ∧ wr = w2.alloc (.cells Cc 3)) (fun i _ => n - (intOf i).toNat)
      case atStart => exact ⟨0, _, Nat.zero_le _, rfl, size_madeCells _ _, fun j hj => absurd hj (by omega), rfl, rfl⟩
      case round =>
        obtain ⟨k, Cc, hk, rfl, hsz, HC, HO, rfl⟩ := hrel
        by_cases hlt : k < n
        · obtain ⟨b, off, rfl, hbb, hc⟩ := HA2.out (by omega)
          have c1 := hc k hlt
          clear hc
          obtain ⟨f1, f2⟩ := FB.out k hlt
          obtain ⟨p1, p2⟩ := wl_bd f1 f2 l1 l2
          obtain ⟨q, hq⟩ : ∃ q, q = f k * l / 1000 := ⟨_, rfl⟩
          have q1 : -1000000 ≤ q := by omega
          have q2 : q ≤ 1000000 := by omega
          have HW := Lib.hid (show wtF f l z k = z + q by rw [wtF, hq])
          have HQ := Lib.hid hq
          clear hq
          by_cases r1 : z + q < 0
          · have HN := Lib.hid (wtTo_no f l z (k := k) (n := n) hlt (inB_no.2 (by rw [HW.out]; omega)))
            go_wp2_with fail
            refine (quoDown_any _ _ _ (by omega) (by omega) (by omega) (by omega)).mono ?_
            rintro e3 w3 ⟨rfl, rfl⟩
            rw [← HQ.out]
            have r2 : z < -q := by omega
            go_wp2_with fail
            exact bodyPost_ret (v := .tuple #[.agg #[.string ⟨#[]⟩, .int .i64 0, .int .i64 0, .int .i64 0, .slice none 0 0], .int .i64 7]) (by simp [results, Try.results44, go_sem, x6, x7, x8, x9, x10, q2']) rfl ⟨by go_grown, .inr (.inl ⟨by simp [wok, H1.out, H2.out], HN.out, rfl⟩)⟩
          · by_cases r3 : 86399999 < z + q
            · have HN := Lib.hid (wtTo_no f l z (k := k) (n := n) hlt (inB_no.2 (by rw [HW.out]; omega)))
              go_wp2_with fail
              refine (quoDown_any _ _ _ (by omega) (by omega) (by omega) (by omega)).mono ?_
              rintro e3 w3 ⟨rfl, rfl⟩
              rw [← HQ.out]
              have r2 : -q ≤ z := by omega
              have r4 : 86400000 - q ≤ z := by omega
              clear r1
              go_wp2_with fail
              exact bodyPost_ret (v := .tuple #[.agg #[.string ⟨#[]⟩, .int .i64 0, .int .i64 0, .int .i64 0, .slice none 0 0], .int .i64 7]) (by simp [results, Try.results44, go_sem, x6, x7, x8, x9, x10, q2']) rfl ⟨by go_grown, .inr (.inl ⟨by simp [wok, H1.out, H2.out], HN.out, rfl⟩)⟩
            · have HY := Lib.hid (show wtTo f l z (k + 1) = true by rw [wtTo, HO.out, HW.out]; simp [inB]; omega)
              go_wp2_with fail
              refine (quoDown_any _ _ _ (by omega) (by omega) (by omega) (by omega)).mono ?_
              rintro e3 w3 ⟨rfl, rfl⟩
              rw [← HQ.out]
              have r2 : -q ≤ z := by omega
              have r4 : z < 86400000 - q := by omega
              clear r1 r3
              have hcc : Cc[k]? = some (Cc[k]'(by omega)) := Array.getElem?_eq_getElem (by omega)
              go_wp2_with fail
              go_roundw
              case rel =>
                refine ⟨k + 1, _, by omega, by go_num, by simpa using hsz, fun j hj => ?_, HY.out, rfl⟩
                by_cases e : j = k
                · subst e
                  rw [Array.getElem?_setIfInBounds_self_of_lt (by omega), HW.out]
                · rw [Array.getElem?_setIfInBounds_ne (by omega)]
                  exact HC.out j (by omega)
              case measure => simp [intOf]; omega
        · obtain rfl : n = k := by omega
          go_wp2_with fail
          refine bodyPost_ret (v := .tuple #[.agg #[.string s, .int .i64 a, .int .i64 h, .int .i64 l, .slice (some ⟨w2.heap.size, 0, none⟩) n n], .int .i64 0]) (by simp [results, Try.results44, go_sem, x6, x7, x8, x9, x10, q2']) rfl ⟨by go_grown, .inr (.inr ⟨by simp [wok, H1.out, H2.out], HO.out, some ⟨w2.heap.size, 0, none⟩, n, rfl, fun _ => ⟨w2.heap.size, 0, rfl, by simp, fun j hj => ?_⟩⟩)⟩
          have hj2 := HC.out j hj
          rw [Nat.zero_add, cell_new _ _ _ _ _ (by simp)]
          exact hj2
    · have H2 := Lib.hid (show stB s a h l = false by simpa using q)
      clear q
      go_enter Try.func44, Try.ntmps44
      go_wp2_with fail
      refine (validTube_any A n c f e _ HNN.out (HA.out.below (by go_grown))).mono ?_
      rintro e1 w1 ⟨rfl, hb⟩
      have x0 := kc hb (b := w.heap.size) (o := 0) (v := .slice A n c) (by go_cell)
      have x1 := kc hb (b := w.heap.size) (o := 1) (v := .int .i64 e) (by go_cell)
      have x2 := kc hb (b := w.heap.size + 1) (o := 0) (v := .string s) (by go_cell)
      have x3 := kc hb (b := w.heap.size + 1) (o := 1) (v := .int .i64 a) (by go_cell)
      have x4 := kc hb (b := w.heap.size + 1) (o := 2) (v := .int .i64 h) (by go_cell)
      have x5 := kc hb (b := w.heap.size + 1) (o := 3) (v := .int .i64 l) (by go_cell)
      have x6 := kc hb (b := w.heap.size + 1 + 1) (o := 0) (v := .string ⟨#[]⟩) (by go_cell)
      have x7 := kc hb (b := w.heap.size + 1 + 1) (o := 1) (v := .int .i64 0) (by go_cell)
      have x8 := kc hb (b := w.heap.size + 1 + 1) (o := 2) (v := .int .i64 0) (by go_cell)
      have x9 := kc hb (b := w.heap.size + 1 + 1) (o := 3) (v := .int .i64 0) (by go_cell)
      have x10 := kc hb (b := w.heap.size + 1 + 1) (o := 4) (v := .slice none 0 0) (by go_cell)
      have y0 := kf hb (b := w.heap.size + 1 + 1) (o := 0) (by (try simp only [frozen?_alloc_cells, World.frozen?_setCell]); first | assumption | exact frozen_beyond (by (try simp only [World.size_alloc]); omega)) (by (try simp only [World.size_alloc]); omega)
      have y1 := kf hb (b := w.heap.size + 1 + 1) (o := 1) (by (try simp only [frozen?_alloc_cells, World.frozen?_setCell]); first | assumption | exact frozen_beyond (by (try simp only [World.size_alloc]); omega)) (by (try simp only [World.size_alloc]); omega)
      have y2 := kf hb (b := w.heap.size + 1 + 1) (o := 2) (by (try simp only [frozen?_alloc_cells, World.frozen?_setCell]); first | assumption | exact frozen_beyond (by (try simp only [World.size_alloc]); omega)) (by (try simp only [World.size_alloc]); omega)
      have y3 := kf hb (b := w.heap.size + 1 + 1) (o := 3) (by (try simp only [frozen?_alloc_cells, World.frozen?_setCell]); first | assumption | exact frozen_beyond (by (try simp only [World.size_alloc]); omega)) (by (try simp only [World.size_alloc]); omega)
      have y4 := kf hb (b := w.heap.size + 1 + 1) (o := 4) (by (try simp only [frozen?_alloc_cells, World.frozen?_setCell]); first | assumption | exact frozen_beyond (by (try simp only [World.size_alloc]); omega)) (by (try simp only [World.size_alloc]); omega)
      have B1 : Bl w w1 := Below.trans (by go_grown) (hb.mono (by (try simp only [World.size_alloc, World.size_setCell, World.size_drew]); omega))
      have z1 := B1.size
      have q1' := lt_cell x6
      have r1' := lt_cell x0
      have t1' := lt_cell x2
      clear hb
      rw [H1.out]
      go_wp2_with fail
      refine (validStar_any _ _ _ _ _ HS.out).mono ?_
      rintro e2 w2 ⟨rfl, hb⟩
      have x0 := kc hb (b := w.heap.size) (o := 0) (v := .slice A n c) (by go_cell)
      have x1 := kc hb (b := w.heap.size) (o := 1) (v := .int .i64 e) (by go_cell)
      have x2 := kc hb (b := w.heap.size + 1) (o := 0) (v := .string s) (by go_cell)
      have x3 := kc hb (b := w.heap.size + 1) (o := 1) (v := .int .i64 a) (by go_cell)
      have x4 := kc hb (b := w.heap.size + 1) (o := 2) (v := .int .i64 h) (by go_cell)
      have x5 := kc hb (b := w.heap.size + 1) (o := 3) (v := .int .i64 l) (by go_cell)
      have x6 := kc hb (b := w.heap.size + 1 + 1) (o := 0) (v := .string ⟨#[]⟩) (by go_cell)
      have x7 := kc hb (b := w.heap.size + 1 + 1) (o := 1) (v := .int .i64 0) (by go_cell)
      have x8 := kc hb (b := w.heap.size + 1 + 1) (o := 2) (v := .int .i64 0) (by go_cell)
      have x9 := kc hb (b := w.heap.size + 1 + 1) (o := 3) (v := .int .i64 0) (by go_cell)
      have x10 := kc hb (b := w.heap.size + 1 + 1) (o := 4) (v := .slice none 0 0) (by go_cell)
      have y0 := kf hb (b := w.heap.size + 1 + 1) (o := 0) (by (try simp only [frozen?_alloc_cells, World.frozen?_setCell]); first | assumption | exact frozen_beyond (by (try simp only [World.size_alloc]); omega)) (by (try simp only [World.size_alloc]); omega)
      have y1 := kf hb (b := w.heap.size + 1 + 1) (o := 1) (by (try simp only [frozen?_alloc_cells, World.frozen?_setCell]); first | assumption | exact frozen_beyond (by (try simp only [World.size_alloc]); omega)) (by (try simp only [World.size_alloc]); omega)
      have y2 := kf hb (b := w.heap.size + 1 + 1) (o := 2) (by (try simp only [frozen?_alloc_cells, World.frozen?_setCell]); first | assumption | exact frozen_beyond (by (try simp only [World.size_alloc]); omega)) (by (try simp only [World.size_alloc]); omega)
      have y3 := kf hb (b := w.heap.size + 1 + 1) (o := 3) (by (try simp only [frozen?_alloc_cells, World.frozen?_setCell]); first | assumption | exact frozen_beyond (by (try simp only [World.size_alloc]); omega)) (by (try simp only [World.size_alloc]); omega)
      have y4 := kf hb (b := w.heap.size + 1 + 1) (o := 4) (by (try simp only [frozen?_alloc_cells, World.frozen?_setCell]); first | assumption | exact frozen_beyond (by (try simp only [World.size_alloc]); omega)) (by (try simp only [World.size_alloc]); omega)
      have B2 : Bl w w2 := Below.trans (by go_grown) (hb.mono (by (try simp only [World.size_alloc, World.size_setCell, World.size_drew]); omega))
      have z2 := B2.size
      have q2' := lt_cell x6
      have r2' := lt_cell x0
      have t2' := lt_cell x2
      clear hb
      rw [H2.out]
      go_wp2_with fail
      exact bodyPost_ret (v := .tuple #[.agg #[.string ⟨#[]⟩, .int .i64 0, .int .i64 0, .int .i64 0, .slice none 0 0], .int .i64 1]) (by simp [results, Try.results44, go_sem, x6, x7, x8, x9, x10]) rfl ⟨by go_grown, .inl ⟨by simp [wok, H1.out, H2.out], rfl⟩⟩
  · have H1 := Lib.hid (show tuB n f e = false by simpa using q)
    clear q
    go_enter Try.func44, Try.ntmps44
    go_wp2_with fail
    refine (validTube_any A n c f e _ HNN.out (HA.out.below (by go_grown))).mono ?_
    rintro e1 w1 ⟨rfl, hb⟩
    have x0 := kc hb (b := w.heap.size) (o := 0) (v := .slice A n c) (by go_cell)
    have x1 := kc hb (b := w.heap.size) (o := 1) (v := .int .i64 e) (by go_cell)
    have x2 := kc hb (b := w.heap.size + 1) (o := 0) (v := .string s) (by go_cell)
    have x3 := kc hb (b := w.heap.size + 1) (o := 1) (v := .int .i64 a) (by go_cell)
    have x4 := kc hb (b := w.heap.size + 1) (o := 2) (v := .int .i64 h) (by go_cell)
    have x5 := kc hb (b := w.heap.size + 1) (o := 3) (v := .int .i64 l) (by go_cell)
    have x6 := kc hb (b := w.heap.size + 1 + 1) (o := 0) (v := .string ⟨#[]⟩) (by go_cell)
    have x7 := kc hb (b := w.heap.size + 1 + 1) (o := 1) (v := .int .i64 0) (by go_cell)
    have x8 := kc hb (b := w.heap.size + 1 + 1) (o := 2) (v := .int .i64 0) (by go_cell)
    have x9 := kc hb (b := w.heap.size + 1 + 1) (o := 3) (v := .int .i64 0) (by go_cell)
    have x10 := kc hb (b := w.heap.size + 1 + 1) (o := 4) (v := .slice none 0 0) (by go_cell)
    have y0 := kf hb (b := w.heap.size + 1 + 1) (o := 0) (by (try simp only [frozen?_alloc_cells, World.frozen?_setCell]); first | assumption | exact frozen_beyond (by (try simp only [World.size_alloc]); omega)) (by (try simp only [World.size_alloc]); omega)
    have y1 := kf hb (b := w.heap.size + 1 + 1) (o := 1) (by (try simp only [frozen?_alloc_cells, World.frozen?_setCell]); first | assumption | exact frozen_beyond (by (try simp only [World.size_alloc]); omega)) (by (try simp only [World.size_alloc]); omega)
    have y2 := kf hb (b := w.heap.size + 1 + 1) (o := 2) (by (try simp only [frozen?_alloc_cells, World.frozen?_setCell]); first | assumption | exact frozen_beyond (by (try simp only [World.size_alloc]); omega)) (by (try simp only [World.size_alloc]); omega)
    have y3 := kf hb (b := w.heap.size + 1 + 1) (o := 3) (by (try simp only [frozen?_alloc_cells, World.frozen?_setCell]); first | assumption | exact frozen_beyond (by (try simp only [World.size_alloc]); omega)) (by (try simp only [World.size_alloc]); omega)
    have y4 := kf hb (b := w.heap.size + 1 + 1) (o := 4) (by (try simp only [frozen?_alloc_cells, World.frozen?_setCell]); first | assumption | exact frozen_beyond (by (try simp only [World.size_alloc]); omega)) (by (try simp only [World.size_alloc]); omega)
    have B1 : Bl w w1 := Below.trans (by go_grown) (hb.mono (by (try simp only [World.size_alloc, World.size_setCell, World.size_drew]); omega))
    have z1 := B1.size
    have q1' := lt_cell x6
    have r1' := lt_cell x0
    have t1' := lt_cell x2
    clear hb
    rw [H1.out]
    go_wp2_with fail
    exact bodyPost_ret (v := .tuple #[.agg #[.string ⟨#[]⟩, .int .i64 0, .int .i64 0, .int .i64 0, .slice none 0 0], .int .i64 1]) (by simp [results, Try.results44, go_sem, x6, x7, x8, x9, x10]) rfl ⟨by go_grown, .inl ⟨by simp [wok, H1.out], rfl⟩⟩
end Go.Proofs.Ytlpbmcnojkhdcaa
