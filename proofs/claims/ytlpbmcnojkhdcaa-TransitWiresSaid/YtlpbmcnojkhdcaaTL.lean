/-
  The walk of the law on wired transits.
-/
import Derived.Test.YtlpbmcnojkhdcaaTK
namespace Go.Proofs.Ytlpbmcnojkhdcaa
open Go.RowKit
set_option linter.unusedSimpArgs false
set_option linter.unusedVariables false

theorem smK_wired (f : Nat → Int) (l z : Int) (m : Nat) (ht : ∀ k, k < m → 0 ≤ wtF f l z k) (k : Nat) (hk : k ≤ m) : 1000 * (z * (k : Int)) - 999 * (k : Int) ≤ smK f (wtF f l z) l k ∧ smK f (wtF f l z) l k ≤ 1000 * (z * (k : Int)) ∧ cnK (wtF f l z) k = k := by
  induction k with
  | zero => simp [smK, cnK]
  | succ k ih =>
    obtain ⟨i1, i2, i3⟩ := ih (by omega)
    have i4 := ht k (by omega)
    have hz : z * ((k + 1 : Nat) : Int) = z * (k : Int) + z := by rw [Int.natCast_add, Int.mul_add]; simp
    have hne : ¬ wtF f l z k = -1 := by omega
    simp only [smK, cnK, if_neg hne, hz]
    unfold wtF at *
    refine ⟨?_, ?_, by omega⟩ <;> omega
/-- The crossing of a wired transit is the time, or one less. -/
theorem cross_wired {n : Nat} {f : Nat → Int} {e : Int} {s : ByteArray} {a h l z : Int} (hw : wok n f e s a h l = true) (ht : wtTo f l z n = true) :
    ∃ r, crossF n f e s a h l n (wtF f l z) = (r, 0) ∧ (r = z ∨ r = z - 1) := by
  simp only [wok, Bool.and_eq_true] at hw
  have hn := hw.1
  simp only [tuB, Bool.and_eq_true, decide_eq_true_eq] at hn
  have htm : ∀ k, k ≤ n → tmTo (wtF f l z) k = true := by
    intro k
    induction k with
    | zero => intro _; rfl
    | succ k ih =>
      intro hk
      have := wtTo_at ht (k := k) (by omega)
      rw [tmTo, ih (by omega)]
      simp [inB]; omega
  have hf : fitB n f e s a h l n (wtF f l z) = true := by simp [fitB, hw.1, hw.2, htm n (Nat.le_refl _)]
  obtain ⟨h1, h2, h3⟩ := smK_wired f l z n (fun k hk => (wtTo_at ht hk).1) n (Nat.le_refl _)
  have hn0 : n ≠ 0 := by omega
  refine ⟨smK f (wtF f l z) l n / (1000 * (n : Int)), by rw [crossF, if_pos hf, h3, if_neg hn0], ?_⟩
  have hd : (0 : Int) < 1000 * (n : Int) := by omega
  have hc : z * (n : Int) * 1000 = z * (1000 * (n : Int)) := by rw [Int.mul_assoc, Int.mul_comm (n : Int) 1000]
  have hc2 : (z + 1) * (1000 * (n : Int)) = z * (1000 * (n : Int)) + 1000 * (n : Int) := by rw [Int.add_mul, Int.one_mul]
  have hc3 : (z - 1) * (1000 * (n : Int)) = z * (1000 * (n : Int)) - 1000 * (n : Int) := by rw [Int.sub_mul, Int.one_mul]
  have u1 : z - 1 ≤ smK f (wtF f l z) l n / (1000 * (n : Int)) := by
    rw [Int.le_ediv_iff_mul_le hd]; omega
  have u2 : smK f (wtF f l z) l n / (1000 * (n : Int)) < z + 1 := by
    rw [Int.ediv_lt_iff_lt_mul hd]; omega
  omega

theorem wired_bad (A : Option Addr) (n c : Nat) (f : Nat → Int) (e : Int) (s : ByteArray) (a h l z : Int) (w : World) (hn : n ≤ maxLen) (hs : s.size ≤ maxLen) (hz : -9223372036854775808 ≤ z ∧ z ≤ 9223372036854775807) (hA : Sl w A n f) (q : wok n f e s a h l = false) :
    Calls Try.prog 44 #[.agg #[.slice A n c, .int .i64 e], .agg #[.string s, .int .i64 a, .int .i64 h, .int .i64 l], .int .i64 z] w fun e' w' => e' = .returned (.tuple #[.agg #[.string ⟨#[]⟩, .int .i64 0, .int .i64 0, .int .i64 0, .slice none 0 0], .int .i64 1]) ∧ Bl w w' :=
  (wired_any A n c f e s a h l z w hn hs hz hA).mono fun e' w' ⟨hb, hd⟩ => by
    rcases hd with ⟨_, h2⟩ | ⟨h1, _⟩ | ⟨h1, _⟩
    · exact ⟨h2, hb⟩
    · rw [q] at h1; cases h1
    · rw [q] at h1; cases h1
theorem wired_rng (A : Option Addr) (n c : Nat) (f : Nat → Int) (e : Int) (s : ByteArray) (a h l z : Int) (w : World) (hn : n ≤ maxLen) (hs : s.size ≤ maxLen) (hz : -9223372036854775808 ≤ z ∧ z ≤ 9223372036854775807) (hA : Sl w A n f) (q : wok n f e s a h l = true) (t : wtTo f l z n = false) :
    Calls Try.prog 44 #[.agg #[.slice A n c, .int .i64 e], .agg #[.string s, .int .i64 a, .int .i64 h, .int .i64 l], .int .i64 z] w fun e' w' => e' = .returned (.tuple #[.agg #[.string ⟨#[]⟩, .int .i64 0, .int .i64 0, .int .i64 0, .slice none 0 0], .int .i64 7]) ∧ Bl w w' :=
  (wired_any A n c f e s a h l z w hn hs hz hA).mono fun e' w' ⟨hb, hd⟩ => by
    rcases hd with ⟨h1, _⟩ | ⟨_, _, h2⟩ | ⟨_, h1, _⟩
    · rw [q] at h1; cases h1
    · exact ⟨h2, hb⟩
    · rw [t] at h1; cases h1
theorem wired_good (A : Option Addr) (n c : Nat) (f : Nat → Int) (e : Int) (s : ByteArray) (a h l z : Int) (w : World) (hn : n ≤ maxLen) (hs : s.size ≤ maxLen) (hz : -9223372036854775808 ≤ z ∧ z ≤ 9223372036854775807) (hA : Sl w A n f) (q : wok n f e s a h l = true) (t : wtTo f l z n = true) :
    Calls Try.prog 44 #[.agg #[.slice A n c, .int .i64 e], .agg #[.string s, .int .i64 a, .int .i64 h, .int .i64 l], .int .i64 z] w fun e' w' => ∃ A' c', e' = .returned (.tuple #[.agg #[.string s, .int .i64 a, .int .i64 h, .int .i64 l, .slice A' n c'], .int .i64 0]) ∧ Sl w' A' n (wtF f l z) ∧ Bl w w' :=
  (wired_any A n c f e s a h l z w hn hs hz hA).mono fun e' w' ⟨hb, hd⟩ => by
    rcases hd with ⟨h1, _⟩ | ⟨_, h1, _⟩ | ⟨_, _, A', c', h2, h3⟩
    · rw [q] at h1; cases h1
    · rw [t] at h1; cases h1
    · exact ⟨A', c', h2, h3, hb⟩

theorem rwired_bad (A : Option Addr) (n c : Nat) (f : Nat → Int) (e : Int) (s : ByteArray) (a h l z : Int) (w : World) (hn : n ≤ maxLen) (hs : s.size ≤ maxLen) (hz : -9223372036854775808 ≤ z ∧ z ≤ 9223372036854775807) (hA : Sl w A n f) (q : wok n f e s a h l = false) :
    Calls Try.prog 45 #[.agg #[.slice A n c, .int .i64 e], .agg #[.string s, .int .i64 a, .int .i64 h, .int .i64 l], .int .i64 z] w fun e' w' => e' = .returned (.tuple #[.agg #[.string ⟨#[]⟩, .int .i64 0, .int .i64 0, .int .i64 0, .slice none 0 0], .int .i64 1]) ∧ Bl w w' :=
  (rwired_any A n c f e s a h l z w hn hs hz hA).mono fun e' w' ⟨hb, hd⟩ => by
    rcases hd with ⟨_, h2⟩ | ⟨h1, _⟩ | ⟨h1, _⟩
    · exact ⟨h2, hb⟩
    · rw [q] at h1; cases h1
    · rw [q] at h1; cases h1
theorem rwired_rng (A : Option Addr) (n c : Nat) (f : Nat → Int) (e : Int) (s : ByteArray) (a h l z : Int) (w : World) (hn : n ≤ maxLen) (hs : s.size ≤ maxLen) (hz : -9223372036854775808 ≤ z ∧ z ≤ 9223372036854775807) (hA : Sl w A n f) (q : wok n f e s a h l = true) (t : wtTo f l z n = false) :
    Calls Try.prog 45 #[.agg #[.slice A n c, .int .i64 e], .agg #[.string s, .int .i64 a, .int .i64 h, .int .i64 l], .int .i64 z] w fun e' w' => e' = .returned (.tuple #[.agg #[.string ⟨#[]⟩, .int .i64 0, .int .i64 0, .int .i64 0, .slice none 0 0], .int .i64 7]) ∧ Bl w w' :=
  (rwired_any A n c f e s a h l z w hn hs hz hA).mono fun e' w' ⟨hb, hd⟩ => by
    rcases hd with ⟨h1, _⟩ | ⟨_, _, h2⟩ | ⟨_, h1, _⟩
    · rw [q] at h1; cases h1
    · exact ⟨h2, hb⟩
    · rw [t] at h1; cases h1
theorem rwired_good (A : Option Addr) (n c : Nat) (f : Nat → Int) (e : Int) (s : ByteArray) (a h l z : Int) (w : World) (hn : n ≤ maxLen) (hs : s.size ≤ maxLen) (hz : -9223372036854775808 ≤ z ∧ z ≤ 9223372036854775807) (hA : Sl w A n f) (q : wok n f e s a h l = true) (t : wtTo f l z n = true) :
    Calls Try.prog 45 #[.agg #[.slice A n c, .int .i64 e], .agg #[.string s, .int .i64 a, .int .i64 h, .int .i64 l], .int .i64 z] w fun e' w' => ∃ A' c', e' = .returned (.tuple #[.agg #[.string s, .int .i64 a, .int .i64 h, .int .i64 l, .slice A' n c'], .int .i64 0]) ∧ Sl w' A' n (wtF f l z) ∧ Bl w w' :=
  (rwired_any A n c f e s a h l z w hn hs hz hA).mono fun e' w' ⟨hb, hd⟩ => by
    rcases hd with ⟨h1, _⟩ | ⟨_, h1, _⟩ | ⟨_, _, A', c', h2, h3⟩
    · rw [q] at h1; cases h1
    · rw [t] at h1; cases h1
    · exact ⟨A', c', h2, h3, hb⟩

set_option maxRecDepth 100000 in
set_option maxHeartbeats 3200000 in
theorem wires_walk (A : Option Addr) (n c : Nat) (f : Nat → Int) (e : Int) (s : ByteArray) (a h l z : Int) (w : World) (hn : n ≤ maxLen) (hs : s.size ≤ maxLen) (hz : -9223372036854775808 ≤ z ∧ z ≤ 9223372036854775807) (hA : Sl w A n f) :
    Calls Try.prog 7 #[.agg #[.slice A n c, .int .i64 e], .agg #[.string s, .int .i64 a, .int .i64 h, .int .i64 l], .int .i64 z] w fun e' w' => e' = .returned (.bool true) ∧ Bl w w' := by
  have HN := Lib.hid hn
  have HS := Lib.hid hs
  have HA := Lib.hid hA
  have HZ := Lib.hid hz
  have z1 := hz.1
  have z2 := hz.2
  clear hA hs hn hz
  by_cases q : wok n f e s a h l = true
  · have Q1 := Lib.hid q
    clear q
    by_cases q : wtTo f l z n = true
    · have Q2 := Lib.hid q
      clear q
      go_enter Try.func7, Try.ntmps7
      go_wp2_with fail
      refine (wide_any A n c e (some ⟨w.heap.size + 1 + 1, 0, none⟩) 1 1 (fun _ => ⟨s, a, h, l, none, 0, 0⟩) _ HN.out (by decide) ?tl).mono ?_
      case tl =>
        intro _
        refine ⟨_, _, rfl, by (try simp only [World.size_alloc]); omega, fun j hj => ?_⟩
        obtain rfl : j = 0 := by omega
        exact ⟨by go_cell, by go_cell, by go_cell, by go_cell, by go_cell⟩
      rintro e1 w1 ⟨v, rfl, hb⟩
      have x0 := kc hb (b := w.heap.size) (o := 0) (v := .slice A n c) (by go_cell)
      have x1 := kc hb (b := w.heap.size) (o := 1) (v := .int .i64 e) (by go_cell)
      have x2 := kc hb (b := w.heap.size + 1) (o := 0) (v := .string s) (by go_cell)
      have x3 := kc hb (b := w.heap.size + 1) (o := 1) (v := .int .i64 a) (by go_cell)
      have x4 := kc hb (b := w.heap.size + 1) (o := 2) (v := .int .i64 h) (by go_cell)
      have x5 := kc hb (b := w.heap.size + 1) (o := 3) (v := .int .i64 l) (by go_cell)
      have B1 : Bl w w1 := Below.trans (by go_grown) (hb.mono (by (try simp only [World.size_alloc, World.size_setCell, World.size_drew]); omega))
      have z1 := B1.size
      have r1 := lt_cell x0
      have t1 := lt_cell x2
      clear hb
      cases v
      case true =>
        go_wp2_with fail
        refine (awake3_any _).mono ?_
        rintro e2 w2 ⟨rfl, hb⟩
        have B2 : Bl w w2 := B1.tr hb
        clear hb
        go_wp2_with fail
        go_ret
        exact ⟨rfl, B2⟩
      case false =>
        go_wp2_with fail
        refine (wired_good A n c f e s a h l z _ HN.out HS.out HZ.out (HA.out.below B1) Q1.out Q2.out).mono ?_
        rintro e2 w2 ⟨A1, c1, rfl, S1, hb⟩
        have HS1 := Lib.hid S1
        clear S1
        have x0 := kc hb (b := w.heap.size) (o := 0) (v := .slice A n c) (by go_cell)
        have x1 := kc hb (b := w.heap.size) (o := 1) (v := .int .i64 e) (by go_cell)
        have x2 := kc hb (b := w.heap.size + 1) (o := 0) (v := .string s) (by go_cell)
        have x3 := kc hb (b := w.heap.size + 1) (o := 1) (v := .int .i64 a) (by go_cell)
        have x4 := kc hb (b := w.heap.size + 1) (o := 2) (v := .int .i64 h) (by go_cell)
        have x5 := kc hb (b := w.heap.size + 1) (o := 3) (v := .int .i64 l) (by go_cell)
        have B2 : Bl w w2 := Below.trans (by go_grown) (hb.mono (by (try simp only [World.size_alloc, World.size_setCell, World.size_drew]); omega))
        have z2 := B2.size
        have r2 := lt_cell x0
        have t2 := lt_cell x2
        clear hb
        go_wp2_with fail
        refine (rwired_good A n c f e s a h l z _ HN.out HS.out HZ.out (HA.out.below (by go_grown)) Q1.out Q2.out).mono ?_
        rintro e3 w3 ⟨A2, c2, rfl, S2, hb⟩
        have HS2 := Lib.hid S2
        have HS3 := Lib.hid (show Sl w3 A1 n (wtF f l z) from (HS1.out.below (by go_grown)).below hb)
        clear S2
        have x0 := kc hb (b := w.heap.size) (o := 0) (v := .slice A n c) (by go_cell)
        have x1 := kc hb (b := w.heap.size) (o := 1) (v := .int .i64 e) (by go_cell)
        have x2 := kc hb (b := w.heap.size + 1) (o := 0) (v := .string s) (by go_cell)
        have x3 := kc hb (b := w.heap.size + 1) (o := 1) (v := .int .i64 a) (by go_cell)
        have x4 := kc hb (b := w.heap.size + 1) (o := 2) (v := .int .i64 h) (by go_cell)
        have x5 := kc hb (b := w.heap.size + 1) (o := 3) (v := .int .i64 l) (by go_cell)
        have x6 := kc hb (b := w2.heap.size) (o := 0) (v := .string s) (by go_cell)
        have x7 := kc hb (b := w2.heap.size) (o := 1) (v := .int .i64 a) (by go_cell)
        have x8 := kc hb (b := w2.heap.size) (o := 2) (v := .int .i64 h) (by go_cell)
        have x9 := kc hb (b := w2.heap.size) (o := 3) (v := .int .i64 l) (by go_cell)
        have x10 := kc hb (b := w2.heap.size) (o := 4) (v := .slice A1 n c1) (by go_cell)
        have B3 : Bl w w3 := Below.trans (by go_grown) (hb.mono (by (try simp only [World.size_alloc, World.size_setCell, World.size_drew]); omega))
        have z3 := B3.size
        have r3 := lt_cell x0
        have t3 := lt_cell x2
        have v3 := lt_cell x6
        clear hb
        go_wp2_with fail
        refine (sameOne_any (w3.heap.size + 1) (w3.heap.size + 1 + 1) s a h l A1 n c1 (wtF f l z) A2 c2 _ HN.out (HS3.out.below (by go_grown)) (HS2.out.below (by go_grown)) (by go_cell) (by go_cell) (by go_cell) (by go_cell) (by go_cell) (by go_cell) (by go_cell) (by go_cell) (by go_cell) (by go_cell)).mono ?_
        rintro e4 w4 ⟨rfl, hb⟩
        have HS4 := Lib.hid (show Sl w4 A1 n (wtF f l z) from (HS3.out.below (by go_grown)).below hb)
        have BB : Bl w3 w4 := Below.trans (by go_grown) (hb.mono (by (try simp only [World.size_alloc, World.size_setCell, World.size_drew]); omega))
        have x0 := kc BB x0
        have x1 := kc BB x1
        have x2 := kc BB x2
        have x3 := kc BB x3
        have x4 := kc BB x4
        have x5 := kc BB x5
        have x6 := kc BB x6
        have x7 := kc BB x7
        have x8 := kc BB x8
        have x9 := kc BB x9
        have x10 := kc BB x10
        have B4 : Bl w w4 := B3.tr BB
        have z4 := B4.size
        have r4 := lt_cell x0
        have t4 := lt_cell x2
        have v4 := lt_cell x6
        clear hb BB
        go_wp2_with fail
        refine (cross_any A n c f e s a h l A1 n c1 (wtF f l z) _ HN.out HN.out HS.out (HA.out.below B4) HS4.out).mono ?_
        rintro e5 w5 ⟨rfl, hb⟩
        have B5 : Bl w w5 := B4.tr hb
        clear hb
        obtain ⟨r, hr, hrz⟩ := cross_wired Q1.out Q2.out
        rw [hr]
        clear hr
        unfold rI
        rcases hrz with q | q
        · have g1 : (r == z) = true := by simpa using q
          clear q
          go_wp2_with fail
          refine (awake3_any _).mono ?_
          rintro e6 w6 ⟨rfl, hb⟩
          have B6 : Bl w w6 := B5.tr hb
          clear hb
          go_wp2_with fail
          go_ret
          exact ⟨rfl, B6⟩
        · have g0 := wtTo_at Q2.out (k := 0) (by have := Q1.out; simp only [wok, tuB, Bool.and_eq_true, decide_eq_true_eq] at this; omega)
          have g3 : -2000000 ≤ z := by
            have h1 := Q1.out
            simp only [wok, tuB, Bool.and_eq_true, decide_eq_true_eq] at h1
            have h2 := tuTo_at h1.1.2 (k := 0) (by omega)
            have h3 := (stB_yes (s := s) (a := a) (h := h) (l := l) (by have := h1.2; simp only [stB, Bool.and_eq_true] at this; exact this.1.1.1)).1 h1.2
            have h4 := wl_bd h2.1 h2.2 h3.2.2.1 h3.2.2.2
            unfold wtF at g0
            omega
          have g1 : (r == z) = false := by simp; omega
          have g2 : (r == z - 1) = true := by simpa using q
          clear q g0
          go_wp2_with fail
          refine (awake3_any _).mono ?_
          rintro e6 w6 ⟨rfl, hb⟩
          have B6 : Bl w w6 := B5.tr hb
          clear hb
          go_wp2_with fail
          go_ret
          exact ⟨rfl, B6⟩
    · have Q2 := Lib.hid (show wtTo f l z n = false by simpa using q)
      clear q
      go_enter Try.func7, Try.ntmps7
      go_wp2_with fail
      refine (wide_any A n c e (some ⟨w.heap.size + 1 + 1, 0, none⟩) 1 1 (fun _ => ⟨s, a, h, l, none, 0, 0⟩) _ HN.out (by decide) ?tl).mono ?_
      case tl =>
        intro _
        refine ⟨_, _, rfl, by (try simp only [World.size_alloc]); omega, fun j hj => ?_⟩
        obtain rfl : j = 0 := by omega
        exact ⟨by go_cell, by go_cell, by go_cell, by go_cell, by go_cell⟩
      rintro e1 w1 ⟨v, rfl, hb⟩
      have x0 := kc hb (b := w.heap.size) (o := 0) (v := .slice A n c) (by go_cell)
      have x1 := kc hb (b := w.heap.size) (o := 1) (v := .int .i64 e) (by go_cell)
      have x2 := kc hb (b := w.heap.size + 1) (o := 0) (v := .string s) (by go_cell)
      have x3 := kc hb (b := w.heap.size + 1) (o := 1) (v := .int .i64 a) (by go_cell)
      have x4 := kc hb (b := w.heap.size + 1) (o := 2) (v := .int .i64 h) (by go_cell)
      have x5 := kc hb (b := w.heap.size + 1) (o := 3) (v := .int .i64 l) (by go_cell)
      have B1 : Bl w w1 := Below.trans (by go_grown) (hb.mono (by (try simp only [World.size_alloc, World.size_setCell, World.size_drew]); omega))
      have z1 := B1.size
      have r1 := lt_cell x0
      have t1 := lt_cell x2
      clear hb
      cases v
      case true =>
        go_wp2_with fail
        refine (awake3_any _).mono ?_
        rintro e2 w2 ⟨rfl, hb⟩
        have B2 : Bl w w2 := B1.tr hb
        clear hb
        go_wp2_with fail
        go_ret
        exact ⟨rfl, B2⟩
      case false =>
        go_wp2_with fail
        refine (wired_rng A n c f e s a h l z _ HN.out HS.out HZ.out (HA.out.below B1) Q1.out Q2.out).mono ?_
        rintro e2 w2 ⟨rfl, hb⟩
        have x0 := kc hb (b := w.heap.size) (o := 0) (v := .slice A n c) (by go_cell)
        have x1 := kc hb (b := w.heap.size) (o := 1) (v := .int .i64 e) (by go_cell)
        have x2 := kc hb (b := w.heap.size + 1) (o := 0) (v := .string s) (by go_cell)
        have x3 := kc hb (b := w.heap.size + 1) (o := 1) (v := .int .i64 a) (by go_cell)
        have x4 := kc hb (b := w.heap.size + 1) (o := 2) (v := .int .i64 h) (by go_cell)
        have x5 := kc hb (b := w.heap.size + 1) (o := 3) (v := .int .i64 l) (by go_cell)
        have B2 : Bl w w2 := Below.trans (by go_grown) (hb.mono (by (try simp only [World.size_alloc, World.size_setCell, World.size_drew]); omega))
        have z2 := B2.size
        have r2 := lt_cell x0
        have t2 := lt_cell x2
        clear hb
        go_wp2_with fail
        refine (rwired_rng A n c f e s a h l z _ HN.out HS.out HZ.out (HA.out.below (by go_grown)) Q1.out Q2.out).mono ?_
        rintro e3 w3 ⟨rfl, hb⟩
        have x0 := kc hb (b := w.heap.size) (o := 0) (v := .slice A n c) (by go_cell)
        have x1 := kc hb (b := w.heap.size) (o := 1) (v := .int .i64 e) (by go_cell)
        have x2 := kc hb (b := w.heap.size + 1) (o := 0) (v := .string s) (by go_cell)
        have x3 := kc hb (b := w.heap.size + 1) (o := 1) (v := .int .i64 a) (by go_cell)
        have x4 := kc hb (b := w.heap.size + 1) (o := 2) (v := .int .i64 h) (by go_cell)
        have x5 := kc hb (b := w.heap.size + 1) (o := 3) (v := .int .i64 l) (by go_cell)
        have x6 := kc hb (b := w2.heap.size) (o := 0) (v := .string ⟨#[]⟩) (by go_cell)
        have x7 := kc hb (b := w2.heap.size) (o := 1) (v := .int .i64 0) (by go_cell)
        have x8 := kc hb (b := w2.heap.size) (o := 2) (v := .int .i64 0) (by go_cell)
        have x9 := kc hb (b := w2.heap.size) (o := 3) (v := .int .i64 0) (by go_cell)
        have x10 := kc hb (b := w2.heap.size) (o := 4) (v := .slice none 0 0) (by go_cell)
        have B3 : Bl w w3 := Below.trans (by go_grown) (hb.mono (by (try simp only [World.size_alloc, World.size_setCell, World.size_drew]); omega))
        have z3 := B3.size
        have r3 := lt_cell x0
        have t3 := lt_cell x2
        have v3 := lt_cell x6
        clear hb
        go_wp2_with fail
        refine (sameOne_any (w3.heap.size + 1) (w3.heap.size + 1 + 1) ⟨#[]⟩ 0 0 0 none 0 0 (fun _ => 0) none 0 _ (by decide) (fun q => absurd q (by omega)) (fun q => absurd q (by omega)) (by go_cell) (by go_cell) (by go_cell) (by go_cell) (by go_cell) (by go_cell) (by go_cell) (by go_cell) (by go_cell) (by go_cell)).mono ?_
        rintro e4 w4 ⟨rfl, hb⟩
        have B4 : Bl w w4 := Below.trans (by go_grown) (hb.mono (by (try simp only [World.size_alloc]); omega))
        clear hb
        go_wp2_with fail
        refine (awake3_any _).mono ?_
        rintro e5 w5 ⟨rfl, hb⟩
        have B5 : Bl w w5 := B4.tr hb
        clear hb
        go_wp2_with fail
        go_ret
        exact ⟨rfl, B5⟩
  · have Q1 := Lib.hid (show wok n f e s a h l = false by simpa using q)
    clear q
    go_enter Try.func7, Try.ntmps7
    go_wp2_with fail
    refine (wide_any A n c e (some ⟨w.heap.size + 1 + 1, 0, none⟩) 1 1 (fun _ => ⟨s, a, h, l, none, 0, 0⟩) _ HN.out (by decide) ?tl).mono ?_
    case tl =>
      intro _
      refine ⟨_, _, rfl, by (try simp only [World.size_alloc]); omega, fun j hj => ?_⟩
      obtain rfl : j = 0 := by omega
      exact ⟨by go_cell, by go_cell, by go_cell, by go_cell, by go_cell⟩
    rintro e1 w1 ⟨v, rfl, hb⟩
    have x0 := kc hb (b := w.heap.size) (o := 0) (v := .slice A n c) (by go_cell)
    have x1 := kc hb (b := w.heap.size) (o := 1) (v := .int .i64 e) (by go_cell)
    have x2 := kc hb (b := w.heap.size + 1) (o := 0) (v := .string s) (by go_cell)
    have x3 := kc hb (b := w.heap.size + 1) (o := 1) (v := .int .i64 a) (by go_cell)
    have x4 := kc hb (b := w.heap.size + 1) (o := 2) (v := .int .i64 h) (by go_cell)
    have x5 := kc hb (b := w.heap.size + 1) (o := 3) (v := .int .i64 l) (by go_cell)
    have B1 : Bl w w1 := Below.trans (by go_grown) (hb.mono (by (try simp only [World.size_alloc, World.size_setCell, World.size_drew]); omega))
    have z1 := B1.size
    have r1 := lt_cell x0
    have t1 := lt_cell x2
    clear hb
    cases v
    case true =>
      go_wp2_with fail
      refine (awake3_any _).mono ?_
      rintro e2 w2 ⟨rfl, hb⟩
      have B2 : Bl w w2 := B1.tr hb
      clear hb
      go_wp2_with fail
      go_ret
      exact ⟨rfl, B2⟩
    case false =>
      go_wp2_with fail
      refine (wired_bad A n c f e s a h l z _ HN.out HS.out HZ.out (HA.out.below B1) Q1.out).mono ?_
      rintro e2 w2 ⟨rfl, hb⟩
      have x0 := kc hb (b := w.heap.size) (o := 0) (v := .slice A n c) (by go_cell)
      have x1 := kc hb (b := w.heap.size) (o := 1) (v := .int .i64 e) (by go_cell)
      have x2 := kc hb (b := w.heap.size + 1) (o := 0) (v := .string s) (by go_cell)
      have x3 := kc hb (b := w.heap.size + 1) (o := 1) (v := .int .i64 a) (by go_cell)
      have x4 := kc hb (b := w.heap.size + 1) (o := 2) (v := .int .i64 h) (by go_cell)
      have x5 := kc hb (b := w.heap.size + 1) (o := 3) (v := .int .i64 l) (by go_cell)
      have B2 : Bl w w2 := Below.trans (by go_grown) (hb.mono (by (try simp only [World.size_alloc, World.size_setCell, World.size_drew]); omega))
      have z2 := B2.size
      have r2 := lt_cell x0
      have t2 := lt_cell x2
      clear hb
      go_wp2_with fail
      refine (rwired_bad A n c f e s a h l z _ HN.out HS.out HZ.out (HA.out.below (by go_grown)) Q1.out).mono ?_
      rintro e3 w3 ⟨rfl, hb⟩
      have x0 := kc hb (b := w.heap.size) (o := 0) (v := .slice A n c) (by go_cell)
      have x1 := kc hb (b := w.heap.size) (o := 1) (v := .int .i64 e) (by go_cell)
      have x2 := kc hb (b := w.heap.size + 1) (o := 0) (v := .string s) (by go_cell)
      have x3 := kc hb (b := w.heap.size + 1) (o := 1) (v := .int .i64 a) (by go_cell)
      have x4 := kc hb (b := w.heap.size + 1) (o := 2) (v := .int .i64 h) (by go_cell)
      have x5 := kc hb (b := w.heap.size + 1) (o := 3) (v := .int .i64 l) (by go_cell)
      have x6 := kc hb (b := w2.heap.size) (o := 0) (v := .string ⟨#[]⟩) (by go_cell)
      have x7 := kc hb (b := w2.heap.size) (o := 1) (v := .int .i64 0) (by go_cell)
      have x8 := kc hb (b := w2.heap.size) (o := 2) (v := .int .i64 0) (by go_cell)
      have x9 := kc hb (b := w2.heap.size) (o := 3) (v := .int .i64 0) (by go_cell)
      have x10 := kc hb (b := w2.heap.size) (o := 4) (v := .slice none 0 0) (by go_cell)
      have B3 : Bl w w3 := Below.trans (by go_grown) (hb.mono (by (try simp only [World.size_alloc, World.size_setCell, World.size_drew]); omega))
      have z3 := B3.size
      have r3 := lt_cell x0
      have t3 := lt_cell x2
      have v3 := lt_cell x6
      clear hb
      go_wp2_with fail
      refine (sameOne_any (w3.heap.size + 1) (w3.heap.size + 1 + 1) ⟨#[]⟩ 0 0 0 none 0 0 (fun _ => 0) none 0 _ (by decide) (fun q => absurd q (by omega)) (fun q => absurd q (by omega)) (by go_cell) (by go_cell) (by go_cell) (by go_cell) (by go_cell) (by go_cell) (by go_cell) (by go_cell) (by go_cell) (by go_cell)).mono ?_
      rintro e4 w4 ⟨rfl, hb⟩
      have B4 : Bl w w4 := Below.trans (by go_grown) (hb.mono (by (try simp only [World.size_alloc]); omega))
      clear hb
      go_wp2_with fail
      refine (awake3_any _).mono ?_
      rintro e5 w5 ⟨rfl, hb⟩
      have B5 : Bl w w5 := B4.tr hb
      clear hb
      go_wp2_with fail
      go_ret
      exact ⟨rfl, B5⟩
end Go.Proofs.Ytlpbmcnojkhdcaa
