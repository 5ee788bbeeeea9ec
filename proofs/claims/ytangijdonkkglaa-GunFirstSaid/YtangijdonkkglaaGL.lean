/-
  Contracts of package gun: Ring, by sort.Search over closures.
-/
import Derived.Test.YtangijdonkkglaaGG
namespace Go.Proofs.Ytangijdonkkglaa
open Go.RowKit
set_option linter.unusedSimpArgs false
set_option linter.unusedVariables false

/-- The lag over d metres; whether it has a number. -/
def ringL (a : Air) (d : Int) : Int × Int := lagO a (d * 1000) (d * 1000)
def hasL (a : Air) (lag d : Int) : Prop := (ringL a d).1 ≤ lag ∧ lag ≤ (ringL a d).2
theorem ringL_mono {a : Air} (h : VA a) {d e : Int} (h1 : d ≤ e) : (ringL a d).1 ≤ (ringL a e).1 ∧ (ringL a d).2 ≤ (ringL a e).2 := by
  obtain ⟨p1, p2, _⟩ := air_pos h
  exact ⟨Int.ediv_le_ediv p1 (by omega), up_mono p2 (by omega)⟩
def RingS (a : Air) (lag : Int) (r : Int × Int × Int) : Prop :=
  (r.2.2 = 0 ∧ 0 ≤ r.1 ∧ r.1 ≤ r.2.1 ∧ r.2.1 ≤ 200000 ∧ ∀ d, 0 ≤ d → d ≤ 200000 → (hasL a lag d ↔ r.1 ≤ d ∧ d ≤ r.2.1)) ∨ (r = (0, 0, 8) ∧ ∀ d, 0 ≤ d → d ≤ 200000 → ¬ hasL a lag d)
theorem RingS_one {a : Air} {lag : Int} {r s : Int × Int × Int} (h : RingS a lag r) (g : RingS a lag s) : r = s := by
  obtain ⟨r1, r2, r3⟩ := r
  obtain ⟨s1, s2, s3⟩ := s
  rcases h with ⟨h1, h2, h3, h4, h5⟩ | ⟨h1, h2⟩ <;> rcases g with ⟨g1, g2, g3, g4, g5⟩ | ⟨g1, g2⟩
  · dsimp only at *
    have a1 := (g5 r1 h2 (by omega)).1 ((h5 r1 h2 (by omega)).2 ⟨by omega, h3⟩)
    have a2 := (h5 s1 g2 (by omega)).1 ((g5 s1 g2 (by omega)).2 ⟨by omega, g3⟩)
    have a3 := (g5 r2 (by omega) h4).1 ((h5 r2 (by omega) h4).2 ⟨h3, by omega⟩)
    have a4 := (h5 s2 (by omega) g4).1 ((g5 s2 (by omega) g4).2 ⟨g3, by omega⟩)
    obtain rfl : r1 = s1 := by omega
    obtain rfl : r2 = s2 := by omega
    rw [h1, g1]
  · dsimp only at *
    exact absurd ((h5 r1 h2 (by omega)).2 ⟨by omega, h3⟩) (g2 r1 h2 (by omega))
  · dsimp only at *
    exact absurd ((g5 s1 g2 (by omega)).2 ⟨by omega, g3⟩) (h2 s1 g2 (by omega))
  · rw [h1, g1]
/-- What Ring answers. -/
def RingOk (a : Air) (p : Pt) (lag : Int) (r : Int × Int × Int) : Prop :=
  (¬ VA a ∧ r = (0, 0, 1)) ∨ (VA a ∧ ¬ (isP p ∧ 0 ≤ lag ∧ lag ≤ 1000000) ∧ r = (0, 0, 7)) ∨ (VA a ∧ (isP p ∧ 0 ≤ lag ∧ lag ≤ 1000000) ∧ RingS a lag r)
theorem RingOk_one {a : Air} {p : Pt} {lag : Int} {r s : Int × Int × Int} (h : RingOk a p lag r) (g : RingOk a p lag s) : r = s := by
  rcases h with ⟨h1, h2⟩ | ⟨h1, h2, h3⟩ | ⟨h1, h2, h3⟩ <;> rcases g with ⟨g1, g2⟩ | ⟨g1, g2, g3⟩ | ⟨g1, g2, g3⟩
  · rw [h2, g2]
  · exact absurd g1 h1
  · exact absurd g1 h1
  · exact absurd h1 g1
  · rw [h3, g3]
  · exact absurd g2 h2
  · exact absurd h1 g1
  · exact absurd h2 g2
  · exact RingS_one h3 g3
def atL (a : Air) (lag d : Int) : Bool := decide (lag ≤ (ringL a d).2)
def beyL (a : Air) (lag d : Int) : Bool := decide (lag < (ringL a d).1)
/-- What a search for the least number leaves. -/
def LeastOf (P : Int → Bool) (n r : Int) : Prop := 0 ≤ r ∧ r ≤ n ∧ (∀ d, 0 ≤ d → d < r → P d = false) ∧ ∀ d, r ≤ d → d < n → P d = true
theorem ring_none {a : Air} {lag x y : Int} (hx : LeastOf (atL a lag) 200001 x) (hy : LeastOf (beyL a lag) 200001 y) (h : y - 1 < x) : RingS a lag (0, 0, 8) := by
  obtain ⟨x0, x1, x2, x3⟩ := hx
  obtain ⟨y0, y1, y2, y3⟩ := hy
  refine .inr ⟨rfl, fun d d0 d1 ⟨g1, g2⟩ => ?_⟩
  by_cases hd : d < x
  · have := x2 d d0 hd
    simp [atL] at this; omega
  · have := y3 d (by omega) (by omega)
    simp [beyL] at this; omega
theorem ring_some {a : Air} {lag x y : Int} (hx : LeastOf (atL a lag) 200001 x) (hy : LeastOf (beyL a lag) 200001 y) (h : ¬ y - 1 < x) : RingS a lag (x, y - 1, 0) := by
  obtain ⟨x0, x1, x2, x3⟩ := hx
  obtain ⟨y0, y1, y2, y3⟩ := hy
  refine .inl ⟨rfl, x0, by dsimp only; omega, by dsimp only; omega, fun d d0 d1 => ⟨fun ⟨g1, g2⟩ => ⟨?_, ?_⟩, fun ⟨k1, k2⟩ => ⟨?_, ?_⟩⟩⟩
  · refine Int.not_lt.1 fun hd => ?_
    have := x2 d d0 hd
    simp [atL] at this; omega
  · refine Int.not_lt.1 fun hd => ?_
    have := y3 d (by dsimp only at hd; omega) (by omega)
    simp [beyL] at this; omega
  · dsimp only at k2
    have := y2 d d0 (by omega)
    simp [beyL] at this; omega
  · have := x3 d k1 (by omega)
    simp [atL] at this; omega
theorem atL_up {a : Air} (h : VA a) (lag : Int) {d e : Int} (hde : d ≤ e) (hd : atL a lag d = true) : atL a lag e = true := by
  have := (ringL_mono h hde).2
  simp [atL] at *; omega
theorem beyL_up {a : Air} (h : VA a) (lag : Int) {d e : Int} (hde : d ≤ e) (hd : beyL a lag d = true) : beyL a lag e = true := by
  have := (ringL_mono h hde).1
  simp [beyL] at *; omega
theorem up_false {P : Int → Bool} (hP : ∀ d e, d ≤ e → P d = true → P e = true) {h : Int} (hf : P h = false) {d : Int} (hd : d ≤ h) : P d = false := by
  cases hp : P d with
  | false => rfl
  | true => rw [hP d h hd hp] at hf; cases hf

/-- The boxes that the closures hold: what is asked, the air, the lag. -/
abbrev Sr (w : World) (fn bl : Nat) (b3 b2 : Nat) (a : Air) (lag : Int) (X : World) : Prop :=
  Bl w X ∧ X.cell? ⟨b3, 0, none⟩ = some (.func (.func fn) #[] #[.pointer (some ⟨bl, 0, none⟩)]) ∧ X.cell? ⟨b2, 0, none⟩ = some (.int .i64 a.s) ∧ X.cell? ⟨b2, 1, none⟩ = some (.int .i64 a.w) ∧ X.cell? ⟨bl, 0, none⟩ = some (.int .i64 lag) ∧ b3 < X.heap.size ∧ b2 < X.heap.size ∧ bl < X.heap.size
theorem Sr.t {w X X' : World} {fn bl b3 b2 : Nat} {a : Air} {lag : Int} (h : Sr w fn bl b3 b2 a lag X) (hb : Bl X X') : Sr w fn bl b3 b2 a lag X' := by
  obtain ⟨h0, h1, h2, h3, h4, h5, h6, h7⟩ := h
  exact ⟨h0.tr hb, kcb hb h1, kcb hb h2, kcb hb h3, kcb hb h4, Nat.lt_of_lt_of_le h5 hb.size, Nat.lt_of_lt_of_le h6 hb.size, Nat.lt_of_lt_of_le h7 hb.size⟩

set_option maxHeartbeats 800000 in
theorem ask1_any (u v lag : Int) (bl : Nat) (w : World) (hc : w.cell? ⟨bl, 0, none⟩ = some (.int .i64 lag)) :
    Calls Try.prog 80 #[.agg #[.int .i64 u, .int .i64 v], .pointer (some ⟨bl, 0, none⟩)] w fun e w' => e = .returned (.bool (decide (lag ≤ v))) ∧ Bl w w' := by
  have lb := ltb hc
  go_enter Try.func80, Try.ntmps80
  go_wp2
  go_ret
  exact ⟨ret_bool (by first | rfl | (rw [Bool.eq_iff_iff]; simp)), by go_grown⟩
set_option maxRecDepth 100000 in
set_option maxHeartbeats 3200000 in
theorem until1_in (a : Air) (lag d : Int) (b3 b2 bl : Nat) (w : World) (ha : VA a) (d0 : 0 ≤ d) (d1 : d ≤ 200000) (hS : Sr w 80 bl b3 b2 a lag w) :
    Calls Try.prog 96 #[.int .i64 d, .pointer (some ⟨b3, 0, none⟩), .pointer (some ⟨b2, 0, none⟩)] w fun e w' => e = .returned (.bool (atL a lag d)) ∧ Bl w w' := by
  obtain ⟨u, v, huv⟩ : ∃ u v, lagO a (d * 1000) (d * 1000) = (u, v) := ⟨_, _, rfl⟩
  have HI := Lib.hid (show decide (lag ≤ v) = atL a lag d by unfold atL ringL; rw [huv])
  have HUV := Lib.hid huv
  have HAA := Lib.hid ha
  clear huv ha
  have e1 : IntKind.i64.wrap (d * 1000) = d * 1000 := IntWalk.i64_in _ (by omega)
  have p1 : 0 ≤ d * 1000 := by omega
  have p2 : d * 1000 ≤ 1000000000 := by omega
  go_enter Try.func96, Try.ntmps96
  go_wp2_with fail
  go_region_held3 (fun w' => Bl w w' ∧ w'.cell? ⟨b3, 0, none⟩ = some (.func (.func 80) #[] #[.pointer (some ⟨bl, 0, none⟩)]) ∧ w'.cell? ⟨b2, 0, none⟩ = some (.int .i64 a.s) ∧ w'.cell? ⟨b2, 1, none⟩ = some (.int .i64 a.w) ∧ w'.cell? ⟨bl, 0, none⟩ = some (.int .i64 lag) ∧ b3 < w'.heap.size ∧ b2 < w'.heap.size ∧ bl < w'.heap.size) (first | exact Sr.t hS (Bl.dr _ 1) | exact Sr.t (by assumption) hh0 | exact Sr.t (by assumption) hh1) (first | (go_at_call 86; refine (lagOver_any a _ _ _ HAA.out p1 p2 p1 p2).mono ?_; rintro e v0 ⟨rfl, hh0⟩; rw [HUV.out]; have hl0 := kcb hh0 (show World.cell? _ ⟨bl, 0, none⟩ = some (.int .i64 lag) by first | assumption | exact hS.2.2.2.2.1)) | (go_at_call 80; refine (ask1_any u v lag bl _ (by assumption)).mono ?_; rintro e v1 ⟨rfl, hh1⟩))
  all_goals
    go_wp2_with fail
    rename_i hHeld
    go_ret
    exact ⟨ret_bool HI.out, hHeld.1⟩
set_option maxRecDepth 100000 in
set_option maxHeartbeats 3200000 in
theorem search1_any (a : Air) (lag : Int) (b3 b2 bl : Nat) (w : World) (ha : VA a) (hS : Sr w 80 bl b3 b2 a lag w) :
    Calls Try.prog 95 #[.int .i64 200001, .func (.func 96) #[] #[.pointer (some ⟨b3, 0, none⟩), .pointer (some ⟨b2, 0, none⟩)]] w fun e w' => (∃ r, e = .returned (.int .i64 r) ∧ LeastOf (atL a lag) 200001 r) ∧ Bl w w' := by
  have HS := Lib.hid hS
  have HAA := Lib.hid ha
  clear hS ha
  go_enter Try.func95, Try.ntmps95
  go_wp2_with fail
  go_loopw [5, 6] (fun u v wr => ∃ x y : Int, u = .int .i64 x ∧ v = .int .i64 y ∧ 0 ≤ x ∧ x ≤ y ∧ y ≤ 200001 ∧ Hid (∀ d, 0 ≤ d → d < x → atL a lag d = false) ∧ Hid (∀ d, y ≤ d → d < 200001 → atL a lag d = true) ∧ Bl w wr) (fun u v _ => (RowKit.intOf v - RowKit.intOf u).toNat)
  case atStart => exact ⟨0, 200001, rfl, rfl, by omega, by omega, by omega, Lib.hid (fun d h1 h2 => by omega), Lib.hid (fun d h1 h2 => by omega), Bl.rf _⟩
  case round =>
    obtain ⟨x, y, rfl, rfl, x0, xy, y1, L, R, BW⟩ := hrel
    by_cases q : x < y
    · obtain ⟨m, hm⟩ : ∃ m, m = (x + y) / 2 := ⟨_, rfl⟩
      have m1 : x ≤ m := by omega
      have m2 : m < y := by omega
      have hm2 : (x + y) / 2 = m := hm.symm
      clear hm
      have SR := Sr.t HS.out BW
      have SR := (⟨Bl.rf _, SR.2⟩ : Sr wr 80 bl b3 b2 a lag wr)
      have HSR := Lib.hid SR
      clear SR
      go_wp2_with fail
      (try rw [hm2])
      refine (until1_in a lag m b3 b2 bl _ HAA.out (by omega) (by omega) HSR.out).mono ?_
      rintro e w1 ⟨rfl, hb⟩
      have B1 : Bl w w1 := BW.tr hb
      clear hb
      cases hq : atL a lag m with
      | true =>
        have R' : Hid (∀ d, m ≤ d → d < 200001 → atL a lag d = true) := Lib.hid (fun d h1 h2 => atL_up HAA.out lag h1 hq)
        go_wp2_with fail
        go_roundw
        case rel => exact ⟨x, m, by go_num, by go_num, x0, m1, by omega, L, R', B1⟩
        case measure => simp [RowKit.intOf]; omega
      | false =>
        have L' : Hid (∀ d, 0 ≤ d → d < m + 1 → atL a lag d = false) := Lib.hid (fun d h1 h2 => up_false (fun d e h => atL_up HAA.out lag h) hq (by omega))
        go_wp2_with fail
        go_roundw
        case rel => exact ⟨m + 1, y, by go_num, by go_num, by omega, by omega, y1, L', R, B1⟩
        case measure => simp [RowKit.intOf]; omega
    · obtain rfl : x = y := by omega
      go_wp2_with fail
      go_ret
      exact ⟨⟨x, rfl, x0, y1, L.out, R.out⟩, BW⟩
set_option maxRecDepth 100000 in
set_option maxHeartbeats 1600000 in
theorem until1_any (a : Air) (lag : Int) (bl : Nat) (w : World) (ha : VA a) (hc : w.cell? ⟨bl, 0, none⟩ = some (.int .i64 lag)) :
    Calls Try.prog 79 #[encA a, .func (.func 80) #[] #[.pointer (some ⟨bl, 0, none⟩)]] w fun e w' => (∃ r, e = .returned (.int .i64 r) ∧ LeastOf (atL a lag) 200001 r) ∧ Bl w w' := by
  have lb := ltb hc
  have HAA := Lib.hid ha
  clear ha
  go_enter Try.func79, Try.ntmps79
  go_wp2_with fail
  refine (search1_any a lag (w.heap.size + 1) w.heap.size bl _ HAA.out ⟨Bl.rf _, by go_cell, by go_cell, by go_cell, by go_cell, by (try simp only [World.size_alloc]); omega, by (try simp only [World.size_alloc]); omega, by (try simp only [World.size_alloc]); omega⟩).mono ?_
  rintro e w1 ⟨⟨r, rfl, hr⟩, hb⟩
  have B1 : Bl w w1 := Below.trans (by go_grown) (hb.mono (by (try simp only [World.size_alloc, World.size_setCell]); omega))
  have HR := Lib.hid hr
  clear hr hb
  go_wp2_with fail
  go_ret
  exact ⟨⟨r, rfl, HR.out⟩, B1⟩

set_option maxHeartbeats 800000 in
theorem ask2_any (u v lag : Int) (bl : Nat) (w : World) (hc : w.cell? ⟨bl, 0, none⟩ = some (.int .i64 lag)) :
    Calls Try.prog 81 #[.agg #[.int .i64 u, .int .i64 v], .pointer (some ⟨bl, 0, none⟩)] w fun e w' => e = .returned (.bool (decide (lag < u))) ∧ Bl w w' := by
  have lb := ltb hc
  go_enter Try.func81, Try.ntmps81
  go_wp2
  go_ret
  exact ⟨ret_bool (by first | rfl | (rw [Bool.eq_iff_iff]; simp)), by go_grown⟩
set_option maxRecDepth 100000 in
set_option maxHeartbeats 3200000 in
theorem until2_in (a : Air) (lag d : Int) (b3 b2 bl : Nat) (w : World) (ha : VA a) (d0 : 0 ≤ d) (d1 : d ≤ 200000) (hS : Sr w 81 bl b3 b2 a lag w) :
    Calls Try.prog 96 #[.int .i64 d, .pointer (some ⟨b3, 0, none⟩), .pointer (some ⟨b2, 0, none⟩)] w fun e w' => e = .returned (.bool (beyL a lag d)) ∧ Bl w w' := by
  obtain ⟨u, v, huv⟩ : ∃ u v, lagO a (d * 1000) (d * 1000) = (u, v) := ⟨_, _, rfl⟩
  have HI := Lib.hid (show decide (lag < u) = beyL a lag d by unfold beyL ringL; rw [huv])
  have HUV := Lib.hid huv
  have HAA := Lib.hid ha
  clear huv ha
  have e1 : IntKind.i64.wrap (d * 1000) = d * 1000 := IntWalk.i64_in _ (by omega)
  have p1 : 0 ≤ d * 1000 := by omega
  have p2 : d * 1000 ≤ 1000000000 := by omega
  go_enter Try.func96, Try.ntmps96
  go_wp2_with fail
  go_region_held3 (fun w' => Bl w w' ∧ w'.cell? ⟨b3, 0, none⟩ = some (.func (.func 81) #[] #[.pointer (some ⟨bl, 0, none⟩)]) ∧ w'.cell? ⟨b2, 0, none⟩ = some (.int .i64 a.s) ∧ w'.cell? ⟨b2, 1, none⟩ = some (.int .i64 a.w) ∧ w'.cell? ⟨bl, 0, none⟩ = some (.int .i64 lag) ∧ b3 < w'.heap.size ∧ b2 < w'.heap.size ∧ bl < w'.heap.size) (first | exact Sr.t hS (Bl.dr _ 1) | exact Sr.t (by assumption) hh0 | exact Sr.t (by assumption) hh1) (first | (go_at_call 86; refine (lagOver_any a _ _ _ HAA.out p1 p2 p1 p2).mono ?_; rintro e v0 ⟨rfl, hh0⟩; rw [HUV.out]; have hl0 := kcb hh0 (show World.cell? _ ⟨bl, 0, none⟩ = some (.int .i64 lag) by first | assumption | exact hS.2.2.2.2.1)) | (go_at_call 81; refine (ask2_any u v lag bl _ (by assumption)).mono ?_; rintro e v1 ⟨rfl, hh1⟩))
  all_goals
    go_wp2_with fail
    rename_i hHeld
    go_ret
    exact ⟨ret_bool HI.out, hHeld.1⟩
set_option maxRecDepth 100000 in
set_option maxHeartbeats 3200000 in
theorem search2_any (a : Air) (lag : Int) (b3 b2 bl : Nat) (w : World) (ha : VA a) (hS : Sr w 81 bl b3 b2 a lag w) :
    Calls Try.prog 95 #[.int .i64 200001, .func (.func 96) #[] #[.pointer (some ⟨b3, 0, none⟩), .pointer (some ⟨b2, 0, none⟩)]] w fun e w' => (∃ r, e = .returned (.int .i64 r) ∧ LeastOf (beyL a lag) 200001 r) ∧ Bl w w' := by
  have HS := Lib.hid hS
  have HAA := Lib.hid ha
  clear hS ha
  go_enter Try.func95, Try.ntmps95
  go_wp2_with fail
  go_loopw [5, 6] (fun u v wr => ∃ x y : Int, u = .int .i64 x ∧ v = .int .i64 y ∧ 0 ≤ x ∧ x ≤ y ∧ y ≤ 200001 ∧ Hid (∀ d, 0 ≤ d → d < x → beyL a lag d = false) ∧ Hid (∀ d, y ≤ d → d < 200001 → beyL a lag d = true) ∧ Bl w wr) (fun u v _ => (RowKit.intOf v - RowKit.intOf u).toNat)
  case atStart => exact ⟨0, 200001, rfl, rfl, by omega, by omega, by omega, Lib.hid (fun d h1 h2 => by omega), Lib.hid (fun d h1 h2 => by omega), Bl.rf _⟩
  case round =>
    obtain ⟨x, y, rfl, rfl, x0, xy, y1, L, R, BW⟩ := hrel
    by_cases q : x < y
    · obtain ⟨m, hm⟩ : ∃ m, m = (x + y) / 2 := ⟨_, rfl⟩
      have m1 : x ≤ m := by omega
      have m2 : m < y := by omega
      have hm2 : (x + y) / 2 = m := hm.symm
      clear hm
      have SR := Sr.t HS.out BW
      have SR := (⟨Bl.rf _, SR.2⟩ : Sr wr 81 bl b3 b2 a lag wr)
      have HSR := Lib.hid SR
      clear SR
      go_wp2_with fail
      (try rw [hm2])
      refine (until2_in a lag m b3 b2 bl _ HAA.out (by omega) (by omega) HSR.out).mono ?_
      rintro e w1 ⟨rfl, hb⟩
      have B1 : Bl w w1 := BW.tr hb
      clear hb
      cases hq : beyL a lag m with
      | true =>
        have R' : Hid (∀ d, m ≤ d → d < 200001 → beyL a lag d = true) := Lib.hid (fun d h1 h2 => beyL_up HAA.out lag h1 hq)
        go_wp2_with fail
        go_roundw
        case rel => exact ⟨x, m, by go_num, by go_num, x0, m1, by omega, L, R', B1⟩
        case measure => simp [RowKit.intOf]; omega
      | false =>
        have L' : Hid (∀ d, 0 ≤ d → d < m + 1 → beyL a lag d = false) := Lib.hid (fun d h1 h2 => up_false (fun d e h => beyL_up HAA.out lag h) hq (by omega))
        go_wp2_with fail
        go_roundw
        case rel => exact ⟨m + 1, y, by go_num, by go_num, by omega, by omega, y1, L', R, B1⟩
        case measure => simp [RowKit.intOf]; omega
    · obtain rfl : x = y := by omega
      go_wp2_with fail
      go_ret
      exact ⟨⟨x, rfl, x0, y1, L.out, R.out⟩, BW⟩
set_option maxRecDepth 100000 in
set_option maxHeartbeats 1600000 in
theorem until2_any (a : Air) (lag : Int) (bl : Nat) (w : World) (ha : VA a) (hc : w.cell? ⟨bl, 0, none⟩ = some (.int .i64 lag)) :
    Calls Try.prog 79 #[encA a, .func (.func 81) #[] #[.pointer (some ⟨bl, 0, none⟩)]] w fun e w' => (∃ r, e = .returned (.int .i64 r) ∧ LeastOf (beyL a lag) 200001 r) ∧ Bl w w' := by
  have lb := ltb hc
  have HAA := Lib.hid ha
  clear ha
  go_enter Try.func79, Try.ntmps79
  go_wp2_with fail
  refine (search2_any a lag (w.heap.size + 1) w.heap.size bl _ HAA.out ⟨Bl.rf _, by go_cell, by go_cell, by go_cell, by go_cell, by (try simp only [World.size_alloc]); omega, by (try simp only [World.size_alloc]); omega, by (try simp only [World.size_alloc]); omega⟩).mono ?_
  rintro e w1 ⟨⟨r, rfl, hr⟩, hb⟩
  have B1 : Bl w w1 := Below.trans (by go_grown) (hb.mono (by (try simp only [World.size_alloc, World.size_setCell]); omega))
  have HR := Lib.hid hr
  clear hr hb
  go_wp2_with fail
  go_ret
  exact ⟨⟨r, rfl, HR.out⟩, B1⟩
end Go.Proofs.Ytangijdonkkglaa
