/-
  The contract of the reference's Ring; the walk of GunFirst.
-/
import Derived.Test.YtangijdonkkglaaGM
import Derived.Test.YtangijdonkkglaaGU
namespace Go.Proofs.Ytangijdonkkglaa
open Go.RowKit
set_option linter.unusedSimpArgs false
set_option linter.unusedVariables false

/-- What the first D distances say. -/
def RingI (a : Air) (lag D l m : Int) : Prop :=
  (l = -1 ∧ m = -1 ∧ ∀ e, 0 ≤ e → e < D → ¬ hasL a lag e) ∨ (0 ≤ l ∧ l ≤ m ∧ m < D ∧ ∀ e, 0 ≤ e → e < D → (hasL a lag e ↔ l ≤ e ∧ e ≤ m))
theorem RingI_zero (a : Air) (lag : Int) : RingI a lag 0 (-1) (-1) := .inl ⟨rfl, rfl, fun e h1 h2 => by omega⟩
theorem RingI_bd {a : Air} {lag D l m : Int} (h : RingI a lag D l m) (hD : 0 ≤ D) : -1 ≤ l ∧ l ≤ m ∧ m < D := by
  rcases h with ⟨rfl, rfl, _⟩ | ⟨h1, h2, h3, _⟩ <;> omega
/-- A distance that has it. -/
theorem RingI_yes {a : Air} (ha : VA a) {lag D l m : Int} (hD : 0 ≤ D) (h : RingI a lag D l m) (hh : hasL a lag D) : RingI a lag (D + 1) (if l < 0 then D else l) D := by
  rcases h with ⟨rfl, rfl, h3⟩ | ⟨h1, h2, h3, h4⟩
  · refine .inr ⟨by rw [if_pos (by omega)]; omega, by rw [if_pos (by omega)]; omega, by omega, fun e e0 e1 => ?_⟩
    rw [if_pos (by omega)]
    by_cases he : e = D
    · subst he; exact ⟨fun _ => ⟨by omega, by omega⟩, fun _ => hh⟩
    · exact ⟨fun g => absurd g (h3 e e0 (by omega)), fun g => by omega⟩
  · rw [if_neg (by omega)]
    refine .inr ⟨h1, by omega, by omega, fun e e0 e1 => ⟨fun g => ?_, fun g => ?_⟩⟩
    · by_cases he : e = D
      · omega
      · have := (h4 e e0 (by omega)).1 g; omega
    · have hl := (h4 l h1 (by omega)).2 ⟨by omega, h2⟩
      have m1 := ringL_mono ha g.1
      have m2 := ringL_mono ha g.2
      exact ⟨by have := hh.1; omega, by have := hl.2; omega⟩
/-- A distance that is not yet heard so late. -/
theorem RingI_no {a : Air} (ha : VA a) {lag D l m : Int} (h : RingI a lag D l m) (hD : 0 ≤ D) (hh : (ringL a D).2 < lag) : RingI a lag (D + 1) l m := by
  have hn : ¬ hasL a lag D := fun g => by have := g.2; omega
  rcases h with ⟨h1, h2, h3⟩ | ⟨h1, h2, h3, h4⟩
  · refine .inl ⟨h1, h2, fun e e0 e1 => ?_⟩
    by_cases he : e = D
    · subst he; exact hn
    · exact h3 e e0 (by omega)
  · have hl := (h4 l h1 (by omega)).2 ⟨by omega, h2⟩
    have := (ringL_mono ha (show l ≤ D by omega)).2
    exact absurd hl.2 (by omega)
/-- From the distance on that is heard too late there is none. -/
theorem RingI_end {a : Air} (ha : VA a) {lag D l m : Int} (hD : 0 ≤ D) (hD1 : D ≤ 200001) (h : RingI a lag D l m) (hb : D = 200001 ∨ lag < (ringL a D).1) : (l < 0 → RingS a lag (0, 0, 8)) ∧ (¬ l < 0 → RingS a lag (l, m, 0)) := by
  have hn : ∀ e, D ≤ e → e ≤ 200000 → ¬ hasL a lag e := fun e e0 e1 g => by
    rcases hb with rfl | hb
    · omega
    · have := (ringL_mono ha e0).1
      have := g.1
      omega
  rcases h with ⟨h1, h2, h3⟩ | ⟨h1, h2, h3, h4⟩
  · refine ⟨fun _ => .inr ⟨rfl, fun e e0 e1 => ?_⟩, fun g => by omega⟩
    by_cases he : e < D
    · exact h3 e e0 he
    · exact hn e (by omega) e1
  · refine ⟨fun g => by omega, fun _ => .inl ⟨rfl, h1, h2, by dsimp only; omega, fun e e0 e1 => ?_⟩⟩
    by_cases he : e < D
    · exact h4 e e0 he
    · exact ⟨fun g => absurd g (hn e (by omega) e1), fun g => by have := g.2; dsimp only at this; omega⟩

set_option maxRecDepth 100000 in
set_option maxHeartbeats 6400000 in
theorem rRing_any (a : Air) (p : Pt) (lag : Int) (w : World) :
    Calls Try.prog 42 #[encA a, encP p, .int .i64 lag] w fun e w' => (∃ r, e = .returned (r3 r) ∧ RingOk a p lag r) ∧ Bl w w' := by
  by_cases ha : VA a
  · have Q0 := Lib.hid (show decide (VA a) = true from decide_eq_true ha)
    have HAA := Lib.hid ha
    by_cases hp : isP p
    · have Q1 := Lib.hid (show decide (isP p) = true from decide_eq_true hp)
      by_cases hl : 0 ≤ lag ∧ lag ≤ 1000000
      · have Q2 := Lib.hid (show decide (0 ≤ lag ∧ lag ≤ 1000000) = true from decide_eq_true hl)
        have HI := Lib.hid (show isP p ∧ 0 ≤ lag ∧ lag ≤ 1000000 from ⟨hp, hl⟩)
        clear ha hp hl
        go_enter Try.func42, Try.ntmps42
        go_wp2_with fail
        refine (rvalidAir_any a _).mono ?_
        rintro q1 w1 ⟨rfl, hb⟩
        have xa0 := kcb hb (b := w.heap.size) (o := 0) (v := .int .i64 a.s) (by first | assumption | (refine cellUp ?_; assumption) | go_cell)
        have xa1 := kcb hb (b := w.heap.size) (o := 1) (v := .int .i64 a.w) (by first | assumption | (refine cellUp ?_; assumption) | go_cell)
        have xp0 := kcb hb (b := w.heap.size + 1) (o := 0) (v := .int .i64 p.x) (by first | assumption | (refine cellUp ?_; assumption) | go_cell)
        have xp1 := kcb hb (b := w.heap.size + 1) (o := 1) (v := .int .i64 p.y) (by first | assumption | (refine cellUp ?_; assumption) | go_cell)
        have B1 : Bl w w1 := Below.trans (by go_grown) (hb.mono (by (try simp only [World.size_alloc, World.size_setCell]); omega))
        have l1 := ltb xp1
        have l1_1 := ltb xa1
        have zz1 := B1.size
        clear hb
        rw [Q0.out]
        go_wp2_with fail
        refine (place5_any p _).mono ?_
        rintro q2 w2 ⟨rfl, hb⟩
        have xa0 := kcb hb (b := w.heap.size) (o := 0) (v := .int .i64 a.s) (by first | assumption | (refine cellUp ?_; assumption) | go_cell)
        have xa1 := kcb hb (b := w.heap.size) (o := 1) (v := .int .i64 a.w) (by first | assumption | (refine cellUp ?_; assumption) | go_cell)
        have xp0 := kcb hb (b := w.heap.size + 1) (o := 0) (v := .int .i64 p.x) (by first | assumption | (refine cellUp ?_; assumption) | go_cell)
        have xp1 := kcb hb (b := w.heap.size + 1) (o := 1) (v := .int .i64 p.y) (by first | assumption | (refine cellUp ?_; assumption) | go_cell)
        have B2 : Bl w w2 := Below.trans (by go_grown) (hb.mono (by (try simp only [World.size_alloc, World.size_setCell]); omega))
        have l2 := ltb xp1
        have l2_1 := ltb xa1
        have zz2 := B2.size
        clear hb
        rw [Q1.out]
        go_wp2_with fail
        refine (within5_any _ _ _ _).mono ?_
        rintro e9 w9 ⟨rfl, rfl⟩
        rw [Q2.out]
        go_wp2_with fail
        obtain ⟨V, hV⟩ : ∃ V, V = w2 := ⟨_, rfl⟩
        rw [← hV]
        have va0 : V.cell? ⟨w.heap.size, 0, none⟩ = some (.int .i64 a.s) := by rw [hV]; exact xa0
        have va1 : V.cell? ⟨w.heap.size, 1, none⟩ = some (.int .i64 a.w) := by rw [hV]; exact xa1
        have BV : Bl w V := by rw [hV]; exact B2
        clear hV
        go_loopw [6, 7, 9] (fun u v i wr => ∃ l m D : Int, u = .int .i64 l ∧ v = .int .i64 m ∧ i = .int .i64 D ∧ 0 ≤ D ∧ D ≤ 200001 ∧ Hid (RingI a lag D l m) ∧ wr.cell? ⟨w.heap.size, 0, none⟩ = some (.int .i64 a.s) ∧ wr.cell? ⟨w.heap.size, 1, none⟩ = some (.int .i64 a.w) ∧ Bl w wr) (fun _ _ i _ => (200001 - RowKit.intOf i).toNat)
        case atStart => exact ⟨-1, -1, 0, rfl, rfl, rfl, by omega, by omega, RingI_zero a lag, va0, va1, BV⟩
        case round =>
          obtain ⟨l, m, D, rfl, rfl, rfl, d0, d1, HR, ca0, ca1, hB⟩ := hrel
          have zB := hB.size
          have la := ltb ca0
          obtain ⟨b1, b2, b3⟩ := RingI_bd HR.out d0
          by_cases hlt : D ≤ 200000
          · obtain ⟨u, v, huv⟩ : ∃ u v, ringL a D = (u, v) := ⟨_, _, rfl⟩
            have HUV := Lib.hid (show lagO a (1000 * D) (1000 * D) = (u, v) by rw [← huv]; unfold ringL; rw [Int.mul_comm])
            go_wp2_with fail
            refine (took_any a (1000 * D) (1000 * D) _ HAA.out (by omega) (by omega) (by omega) (by omega)).mono ?_
            rintro q4 w4 ⟨rfl, hb⟩
            rw [HUV.out]
            have X4 : Bl wr w4 := by first | exact hb | exact Below.trans (by go_grown) (hb.mono (by (try simp only [World.size_alloc, World.size_setCell]); omega))
            have z4 := X4.size
            have ca0 := kcb X4 ca0
            have ca1 := kcb X4 ca1
            have la4 := ltb ca0
            have B4 := hB.tr X4
            clear hb
            by_cases q1 : lag < u
            · have HE := Lib.hid (RingI_end HAA.out d0 d1 HR.out (.inr (by rw [huv]; exact q1)))
              clear huv
              by_cases q3 : l < 0
              · have HF := Lib.hid (HE.out.1 q3)
                go_wp2_with fail
                exact bodyPost_ret (v := r3 (0, 0, 8)) (by simp [results, Try.results42, go_sem, r3]) rfl ⟨⟨_, rfl, .inr (.inr ⟨HAA.out, HI.out, HF.out⟩)⟩, by go_grown⟩
              · have HF := Lib.hid (HE.out.2 q3)
                go_wp2_with fail
                exact bodyPost_ret (v := r3 (l, m, 0)) (by simp [results, Try.results42, go_sem, r3]) rfl ⟨⟨_, rfl, .inr (.inr ⟨HAA.out, HI.out, HF.out⟩)⟩, by go_grown⟩
            · by_cases q2 : lag ≤ v
              · have HY := Lib.hid (RingI_yes HAA.out d0 HR.out (show hasL a lag D by unfold hasL; rw [huv]; exact ⟨Int.not_lt.1 q1, q2⟩))
                clear huv
                by_cases q3 : l < 0
                · have HY1 : Hid (RingI a lag (D + 1) D D) := Lib.hid (by have := HY.out; rw [if_pos q3] at this; exact this)
                  go_wp2_with fail
                  go_roundw
                  case rel => exact ⟨D, D, D + 1, by go_num, by go_num, by go_num, by omega, by omega, HY1, by first | assumption | (refine cellUp ?_; assumption), by first | assumption | (refine cellUp ?_; assumption), by go_grown⟩
                  case measure => simp [RowKit.intOf]; omega
                · have HY1 : Hid (RingI a lag (D + 1) l D) := Lib.hid (by have := HY.out; rw [if_neg q3] at this; exact this)
                  go_wp2_with fail
                  go_roundw
                  case rel => exact ⟨l, D, D + 1, by go_num, by go_num, by go_num, by omega, by omega, HY1, by first | assumption | (refine cellUp ?_; assumption), by first | assumption | (refine cellUp ?_; assumption), by go_grown⟩
                  case measure => simp [RowKit.intOf]; omega
              · have HY1 := Lib.hid (RingI_no HAA.out HR.out d0 (show (ringL a D).2 < lag by rw [huv]; exact Int.not_le.1 q2))
                clear huv
                go_wp2_with fail
                go_roundw
                case rel => exact ⟨l, m, D + 1, by go_num, by go_num, by go_num, by omega, by omega, HY1, by first | assumption | (refine cellUp ?_; assumption), by first | assumption | (refine cellUp ?_; assumption), by go_grown⟩
                case measure => simp [RowKit.intOf]; omega
          · have HE := Lib.hid (RingI_end HAA.out d0 d1 HR.out (.inl (by omega)))
            by_cases q3 : l < 0
            · have HF := Lib.hid (HE.out.1 q3)
              go_wp2_with fail
              refine bodyPost_ret (v := r3 (0, 0, 8)) (by simp [results, Try.results42, go_sem, r3]) rfl ⟨?_, by go_grown⟩
              first | exact ⟨_, rfl, .inr (.inr ⟨HAA.out, HI.out, HF.out⟩)⟩ | exact ⟨_, _, _, rfl, .inr (.inr ⟨HAA.out, HI.out, HF.out⟩)⟩ | trace_state
            · have HF := Lib.hid (HE.out.2 q3)
              go_wp2_with fail
              refine bodyPost_ret (v := r3 (l, m, 0)) (by simp [results, Try.results42, go_sem, r3]) rfl ⟨?_, by go_grown⟩
              first | exact ⟨_, rfl, .inr (.inr ⟨HAA.out, HI.out, HF.out⟩)⟩ | exact ⟨_, _, _, rfl, .inr (.inr ⟨HAA.out, HI.out, HF.out⟩)⟩ | trace_state
      · have Q2 := Lib.hid (show decide (0 ≤ lag ∧ lag ≤ 1000000) = false from decide_eq_false hl)
        have HI := Lib.hid (show ¬ (isP p ∧ 0 ≤ lag ∧ lag ≤ 1000000) from fun g => hl g.2)
        clear ha hp hl
        go_enter Try.func42, Try.ntmps42
        go_wp2_with fail
        refine (rvalidAir_any a _).mono ?_
        rintro q1 w1 ⟨rfl, hb⟩
        have xa0 := kcb hb (b := w.heap.size) (o := 0) (v := .int .i64 a.s) (by first | assumption | (refine cellUp ?_; assumption) | go_cell)
        have xa1 := kcb hb (b := w.heap.size) (o := 1) (v := .int .i64 a.w) (by first | assumption | (refine cellUp ?_; assumption) | go_cell)
        have xp0 := kcb hb (b := w.heap.size + 1) (o := 0) (v := .int .i64 p.x) (by first | assumption | (refine cellUp ?_; assumption) | go_cell)
        have xp1 := kcb hb (b := w.heap.size + 1) (o := 1) (v := .int .i64 p.y) (by first | assumption | (refine cellUp ?_; assumption) | go_cell)
        have B1 : Bl w w1 := Below.trans (by go_grown) (hb.mono (by (try simp only [World.size_alloc, World.size_setCell]); omega))
        have l1 := ltb xp1
        have l1_1 := ltb xa1
        have zz1 := B1.size
        clear hb
        rw [Q0.out]
        go_wp2_with fail
        refine (place5_any p _).mono ?_
        rintro q2 w2 ⟨rfl, hb⟩
        have xa0 := kcb hb (b := w.heap.size) (o := 0) (v := .int .i64 a.s) (by first | assumption | (refine cellUp ?_; assumption) | go_cell)
        have xa1 := kcb hb (b := w.heap.size) (o := 1) (v := .int .i64 a.w) (by first | assumption | (refine cellUp ?_; assumption) | go_cell)
        have xp0 := kcb hb (b := w.heap.size + 1) (o := 0) (v := .int .i64 p.x) (by first | assumption | (refine cellUp ?_; assumption) | go_cell)
        have xp1 := kcb hb (b := w.heap.size + 1) (o := 1) (v := .int .i64 p.y) (by first | assumption | (refine cellUp ?_; assumption) | go_cell)
        have B2 : Bl w w2 := Below.trans (by go_grown) (hb.mono (by (try simp only [World.size_alloc, World.size_setCell]); omega))
        have l2 := ltb xp1
        have l2_1 := ltb xa1
        have zz2 := B2.size
        clear hb
        rw [Q1.out]
        go_wp2_with fail
        refine (within5_any _ _ _ _).mono ?_
        rintro e9 w9 ⟨rfl, rfl⟩
        rw [Q2.out]
        go_wp2_with fail
        exact bodyPost_ret (v := r3 (0, 0, 7)) (by simp [results, Try.results42, go_sem, r3]) rfl ⟨⟨_, rfl, .inr (.inl ⟨HAA.out, HI.out, rfl⟩)⟩, by go_grown⟩
    · have Q1 := Lib.hid (show decide (isP p) = false from decide_eq_false hp)
      have HI := Lib.hid (show ¬ (isP p ∧ 0 ≤ lag ∧ lag ≤ 1000000) from fun g => hp g.1)
      clear ha hp
      go_enter Try.func42, Try.ntmps42
      go_wp2_with fail
      refine (rvalidAir_any a _).mono ?_
      rintro q1 w1 ⟨rfl, hb⟩
      have xa0 := kcb hb (b := w.heap.size) (o := 0) (v := .int .i64 a.s) (by first | assumption | (refine cellUp ?_; assumption) | go_cell)
      have xa1 := kcb hb (b := w.heap.size) (o := 1) (v := .int .i64 a.w) (by first | assumption | (refine cellUp ?_; assumption) | go_cell)
      have xp0 := kcb hb (b := w.heap.size + 1) (o := 0) (v := .int .i64 p.x) (by first | assumption | (refine cellUp ?_; assumption) | go_cell)
      have xp1 := kcb hb (b := w.heap.size + 1) (o := 1) (v := .int .i64 p.y) (by first | assumption | (refine cellUp ?_; assumption) | go_cell)
      have B1 : Bl w w1 := Below.trans (by go_grown) (hb.mono (by (try simp only [World.size_alloc, World.size_setCell]); omega))
      have l1 := ltb xp1
      have l1_1 := ltb xa1
      have zz1 := B1.size
      clear hb
      rw [Q0.out]
      go_wp2_with fail
      refine (place5_any p _).mono ?_
      rintro q2 w2 ⟨rfl, hb⟩
      have xa0 := kcb hb (b := w.heap.size) (o := 0) (v := .int .i64 a.s) (by first | assumption | (refine cellUp ?_; assumption) | go_cell)
      have xa1 := kcb hb (b := w.heap.size) (o := 1) (v := .int .i64 a.w) (by first | assumption | (refine cellUp ?_; assumption) | go_cell)
      have xp0 := kcb hb (b := w.heap.size + 1) (o := 0) (v := .int .i64 p.x) (by first | assumption | (refine cellUp ?_; assumption) | go_cell)
      have xp1 := kcb hb (b := w.heap.size + 1) (o := 1) (v := .int .i64 p.y) (by first | assumption | (refine cellUp ?_; assumption) | go_cell)
      have B2 : Bl w w2 := Below.trans (by go_grown) (hb.mono (by (try simp only [World.size_alloc, World.size_setCell]); omega))
      have l2 := ltb xp1
      have l2_1 := ltb xa1
      have zz2 := B2.size
      clear hb
      rw [Q1.out]
      go_wp2_with fail
      exact bodyPost_ret (v := r3 (0, 0, 7)) (by simp [results, Try.results42, go_sem, r3]) rfl ⟨⟨_, rfl, .inr (.inl ⟨HAA.out, HI.out, rfl⟩)⟩, by go_grown⟩
  · have Q0 := Lib.hid (show decide (VA a) = false from decide_eq_false ha)
    have HI := Lib.hid ha
    clear ha
    go_enter Try.func42, Try.ntmps42
    go_wp2_with fail
    refine (rvalidAir_any a _).mono ?_
    rintro q1 w1 ⟨rfl, hb⟩
    have xa0 := kcb hb (b := w.heap.size) (o := 0) (v := .int .i64 a.s) (by first | assumption | (refine cellUp ?_; assumption) | go_cell)
    have xa1 := kcb hb (b := w.heap.size) (o := 1) (v := .int .i64 a.w) (by first | assumption | (refine cellUp ?_; assumption) | go_cell)
    have xp0 := kcb hb (b := w.heap.size + 1) (o := 0) (v := .int .i64 p.x) (by first | assumption | (refine cellUp ?_; assumption) | go_cell)
    have xp1 := kcb hb (b := w.heap.size + 1) (o := 1) (v := .int .i64 p.y) (by first | assumption | (refine cellUp ?_; assumption) | go_cell)
    have B1 : Bl w w1 := Below.trans (by go_grown) (hb.mono (by (try simp only [World.size_alloc, World.size_setCell]); omega))
    have l1 := ltb xp1
    have l1_1 := ltb xa1
    have zz1 := B1.size
    clear hb
    rw [Q0.out]
    go_wp2_with fail
    exact bodyPost_ret (v := r3 (0, 0, 1)) (by simp [results, Try.results42, go_sem, r3]) rfl ⟨⟨_, rfl, .inl ⟨HI.out, rfl⟩⟩, by go_grown⟩

set_option maxRecDepth 100000 in
set_option maxHeartbeats 6400000 in
theorem first_walk (a : Air) (A : Option Addr) (n c : Nat) (T : Nat → Pt) (x0 x1 x2 : Int) (w : World) (hn : n ≤ maxLen) (hc : n ≤ c ∧ c ≤ maxLen) (hA : Pl w A n T) : Calls Try.prog 8 #[encA a, .slice A n c, .agg #[.int .i64 x0, .int .i64 x1, .int .i64 x2]] w fun e w' => e = .returned (.bool true) ∧ Bl w w' := by
  have HA := Lib.hid hA
  have HN := Lib.hid hn
  obtain ⟨f1, f2, hf⟩ : ∃ f1 f2, firR a ⟨x0, x1⟩ T n = (f1, f2) := ⟨_, _, rfl⟩
  have HF := Lib.hid hf
  clear hA hc hf
  unfold maxLen at hn
  by_cases h50 : 50 < n
  · skip
    go_enter Try.func8, Try.ntmps8
    go_wp2_with fail
    refine (awakeG_any _).mono ?_
    rintro q1 w1 ⟨rfl, hb⟩
    have xa0 := kcb hb (b := w.heap.size) (o := 0) (v := .int .i64 a.s) (by first | assumption | (refine cellUp ?_; assumption) | go_cell)
    have xa1 := kcb hb (b := w.heap.size) (o := 1) (v := .int .i64 a.w) (by first | assumption | (refine cellUp ?_; assumption) | go_cell)
    have xx0 := kcb hb (b := w.heap.size + 1) (o := 0) (v := .int .i64 x0) (by first | assumption | (refine cellUp ?_; assumption) | go_cell)
    have xx1 := kcb hb (b := w.heap.size + 1) (o := 1) (v := .int .i64 x1) (by first | assumption | (refine cellUp ?_; assumption) | go_cell)
    have xx2 := kcb hb (b := w.heap.size + 1) (o := 2) (v := .int .i64 x2) (by first | assumption | (refine cellUp ?_; assumption) | go_cell)
    have B1 : Bl w w1 := Below.trans (by go_grown) (hb.mono (by (try simp only [World.size_alloc, World.size_setCell]); omega))
    have l1 := ltb xx2
    have l1_1 := ltb xa1
    have zz1 := B1.size
    clear hb
    go_wp2_with fail
    go_ret
    exact ⟨rfl, by go_grown⟩
  · skip
    go_enter Try.func8, Try.ntmps8
    go_wp2_with fail
    refine (First_any a ⟨x0, x1⟩ A n c T _ (HA.out.below (by go_grown)) HN.out).mono ?_
    rintro q1 w1 ⟨rfl, hb⟩
    have xa0 := kcb hb (b := w.heap.size) (o := 0) (v := .int .i64 a.s) (by first | assumption | (refine cellUp ?_; assumption) | go_cell)
    have xa1 := kcb hb (b := w.heap.size) (o := 1) (v := .int .i64 a.w) (by first | assumption | (refine cellUp ?_; assumption) | go_cell)
    have xx0 := kcb hb (b := w.heap.size + 1) (o := 0) (v := .int .i64 x0) (by first | assumption | (refine cellUp ?_; assumption) | go_cell)
    have xx1 := kcb hb (b := w.heap.size + 1) (o := 1) (v := .int .i64 x1) (by first | assumption | (refine cellUp ?_; assumption) | go_cell)
    have xx2 := kcb hb (b := w.heap.size + 1) (o := 2) (v := .int .i64 x2) (by first | assumption | (refine cellUp ?_; assumption) | go_cell)
    have xp0 := kcb hb (b := w.heap.size + 1 + 1) (o := 0) (v := .int .i64 x0) (by first | assumption | (refine cellUp ?_; assumption) | go_cell)
    have xp1 := kcb hb (b := w.heap.size + 1 + 1) (o := 1) (v := .int .i64 x1) (by first | assumption | (refine cellUp ?_; assumption) | go_cell)
    have B1 : Bl w w1 := Below.trans (by go_grown) (hb.mono (by (try simp only [World.size_alloc, World.size_setCell]); omega))
    have l1 := ltb xp1
    have l1_1 := ltb xx2
    have l1_2 := ltb xa1
    have zz1 := B1.size
    clear hb
    rw [HF.out]
    unfold r2
    go_wp2_with fail
    refine (rFirst_any a ⟨x0, x1⟩ A n c T _ (HA.out.below (by exact B1)) HN.out).mono ?_
    rintro q2 w2 ⟨rfl, hb⟩
    have xa0 := kcb hb (b := w.heap.size) (o := 0) (v := .int .i64 a.s) (by first | assumption | (refine cellUp ?_; assumption) | go_cell)
    have xa1 := kcb hb (b := w.heap.size) (o := 1) (v := .int .i64 a.w) (by first | assumption | (refine cellUp ?_; assumption) | go_cell)
    have xx0 := kcb hb (b := w.heap.size + 1) (o := 0) (v := .int .i64 x0) (by first | assumption | (refine cellUp ?_; assumption) | go_cell)
    have xx1 := kcb hb (b := w.heap.size + 1) (o := 1) (v := .int .i64 x1) (by first | assumption | (refine cellUp ?_; assumption) | go_cell)
    have xx2 := kcb hb (b := w.heap.size + 1) (o := 2) (v := .int .i64 x2) (by first | assumption | (refine cellUp ?_; assumption) | go_cell)
    have xp0 := kcb hb (b := w.heap.size + 1 + 1) (o := 0) (v := .int .i64 x0) (by first | assumption | (refine cellUp ?_; assumption) | go_cell)
    have xp1 := kcb hb (b := w.heap.size + 1 + 1) (o := 1) (v := .int .i64 x1) (by first | assumption | (refine cellUp ?_; assumption) | go_cell)
    have B2 : Bl w w2 := Below.trans (by go_grown) (hb.mono (by (try simp only [World.size_alloc, World.size_setCell]); omega))
    have l2 := ltb xp1
    have l2_1 := ltb xx2
    have l2_2 := ltb xa1
    have zz2 := B2.size
    clear hb
    rw [HF.out]
    unfold r2
    go_wp2_with fail
    refine (Ring_any a ⟨x0, x1⟩ x2 _).mono ?_
    rintro q3 w3 ⟨⟨⟨s1, s2, s3⟩, rfl, hs⟩, hb⟩
    have xa0 := kcb hb (b := w.heap.size) (o := 0) (v := .int .i64 a.s) (by first | assumption | (refine cellUp ?_; assumption) | go_cell)
    have xa1 := kcb hb (b := w.heap.size) (o := 1) (v := .int .i64 a.w) (by first | assumption | (refine cellUp ?_; assumption) | go_cell)
    have xx0 := kcb hb (b := w.heap.size + 1) (o := 0) (v := .int .i64 x0) (by first | assumption | (refine cellUp ?_; assumption) | go_cell)
    have xx1 := kcb hb (b := w.heap.size + 1) (o := 1) (v := .int .i64 x1) (by first | assumption | (refine cellUp ?_; assumption) | go_cell)
    have xx2 := kcb hb (b := w.heap.size + 1) (o := 2) (v := .int .i64 x2) (by first | assumption | (refine cellUp ?_; assumption) | go_cell)
    have xp0 := kcb hb (b := w.heap.size + 1 + 1) (o := 0) (v := .int .i64 x0) (by first | assumption | (refine cellUp ?_; assumption) | go_cell)
    have xp1 := kcb hb (b := w.heap.size + 1 + 1) (o := 1) (v := .int .i64 x1) (by first | assumption | (refine cellUp ?_; assumption) | go_cell)
    have B3 : Bl w w3 := Below.trans (by go_grown) (hb.mono (by (try simp only [World.size_alloc, World.size_setCell]); omega))
    have l3 := ltb xp1
    have l3_1 := ltb xx2
    have l3_2 := ltb xa1
    have zz3 := B3.size
    clear hb
    have HS := Lib.hid hs
    clear hs
    unfold r3
    go_wp2_with fail
    refine (rRing_any a ⟨x0, x1⟩ x2 _).mono ?_
    rintro q4 w4 ⟨⟨⟨t1, t2, t3⟩, rfl, ht⟩, hb⟩
    have xa0 := kcb hb (b := w.heap.size) (o := 0) (v := .int .i64 a.s) (by first | assumption | (refine cellUp ?_; assumption) | go_cell)
    have xa1 := kcb hb (b := w.heap.size) (o := 1) (v := .int .i64 a.w) (by first | assumption | (refine cellUp ?_; assumption) | go_cell)
    have xx0 := kcb hb (b := w.heap.size + 1) (o := 0) (v := .int .i64 x0) (by first | assumption | (refine cellUp ?_; assumption) | go_cell)
    have xx1 := kcb hb (b := w.heap.size + 1) (o := 1) (v := .int .i64 x1) (by first | assumption | (refine cellUp ?_; assumption) | go_cell)
    have xx2 := kcb hb (b := w.heap.size + 1) (o := 2) (v := .int .i64 x2) (by first | assumption | (refine cellUp ?_; assumption) | go_cell)
    have xp0 := kcb hb (b := w.heap.size + 1 + 1) (o := 0) (v := .int .i64 x0) (by first | assumption | (refine cellUp ?_; assumption) | go_cell)
    have xp1 := kcb hb (b := w.heap.size + 1 + 1) (o := 1) (v := .int .i64 x1) (by first | assumption | (refine cellUp ?_; assumption) | go_cell)
    have B4 : Bl w w4 := Below.trans (by go_grown) (hb.mono (by (try simp only [World.size_alloc, World.size_setCell]); omega))
    have l4 := ltb xp1
    have l4_1 := ltb xx2
    have l4_2 := ltb xa1
    have zz4 := B4.size
    clear hb
    have e := RingOk_one HS.out ht
    simp only [Prod.mk.injEq] at e
    obtain ⟨rfl, rfl, rfl⟩ := e
    clear ht
    unfold r3
    go_wp2_with fail
    refine (awakeG_any _).mono ?_
    rintro q5 w5 ⟨rfl, hb⟩
    have xa0 := kcb hb (b := w.heap.size) (o := 0) (v := .int .i64 a.s) (by first | assumption | (refine cellUp ?_; assumption) | go_cell)
    have xa1 := kcb hb (b := w.heap.size) (o := 1) (v := .int .i64 a.w) (by first | assumption | (refine cellUp ?_; assumption) | go_cell)
    have xx0 := kcb hb (b := w.heap.size + 1) (o := 0) (v := .int .i64 x0) (by first | assumption | (refine cellUp ?_; assumption) | go_cell)
    have xx1 := kcb hb (b := w.heap.size + 1) (o := 1) (v := .int .i64 x1) (by first | assumption | (refine cellUp ?_; assumption) | go_cell)
    have xx2 := kcb hb (b := w.heap.size + 1) (o := 2) (v := .int .i64 x2) (by first | assumption | (refine cellUp ?_; assumption) | go_cell)
    have xp0 := kcb hb (b := w.heap.size + 1 + 1) (o := 0) (v := .int .i64 x0) (by first | assumption | (refine cellUp ?_; assumption) | go_cell)
    have xp1 := kcb hb (b := w.heap.size + 1 + 1) (o := 1) (v := .int .i64 x1) (by first | assumption | (refine cellUp ?_; assumption) | go_cell)
    have B5 : Bl w w5 := Below.trans (by go_grown) (hb.mono (by (try simp only [World.size_alloc, World.size_setCell]); omega))
    have l5 := ltb xp1
    have l5_1 := ltb xx2
    have l5_2 := ltb xa1
    have zz5 := B5.size
    clear hb
    go_wp2_with fail
    go_ret
    exact ⟨rfl, by go_grown⟩
end Go.Proofs.Ytangijdonkkglaa
