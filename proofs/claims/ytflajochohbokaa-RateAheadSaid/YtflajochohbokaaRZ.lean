/-
  The walk of RateAhead.
-/
import Derived.Test.YtflajochohbokaaRY
import Derived.Test.YtflajochohbokaaRP
namespace Go.Proofs.Ytflajochohbokaa
open Go.RowKit
set_option linter.unusedSimpArgs false
set_option linter.unusedVariables false

theorem sl_of_ownL {w : World} {base : Nat} {e : TypeId} {v : Value} {xs : List Int} (h : w.ownsRow base e 1 v xs.length (xs.map (Value.int .i64))) : ∃ A cap, v = .slice A xs.length cap ∧ cap ≤ maxLen ∧ xs.length ≤ cap ∧ Sl w A xs.length (fun j => xs.getD j 0) := by
  rcases h.2 with ⟨rfl, h0⟩ | ⟨g, cap, cur, rfl, hb, hg, hnc, hcm, _⟩
  · exact ⟨none, 0, by rw [h0], by decide, by omega, fun hn => absurd hn (by omega)⟩
  · refine ⟨some ⟨g, 0, none⟩, cap, rfl, hcm, hnc, fun hn => ⟨g, 0, rfl, (Array.getElem?_eq_some_iff.1 hg).1, fun j hj => ?_⟩⟩
    rw [Nat.zero_add]
    refine (h.cellAt j (by omega)).trans ?_
    rw [List.getElem?_map, List.getElem?_eq_getElem hj]
    simp [List.getD, hj]
def lvK (s : ByteArray) (n : Nat) (E : Nat → Int) (most : Int) : Nat := if vbB s n E = true ∧ 0 ≤ most then (lpL (stF (stF E)) most (n - 1 - 1)).length else 0
def lvF (n : Nat) (E : Nat → Int) (most : Int) (j : Nat) : Int := (lpL (stF (stF E)) most (n - 1 - 1)).getD j 0
def lvE (s : ByteArray) (n : Nat) (E : Nat → Int) (most : Int) : Int := if vbB s n E = false then 1 else if most < 0 then 7 else 0
theorem lv_use {s : ByteArray} {n : Nat} {E : Nat → Int} {most : Int} {w : World} {e : Ending} {w' : World} (h : LvPost s n E most w e w') :
    Bl w w' ∧ ∃ A c, e = .returned (.tuple #[.slice A (lvK s n E most) c, .int .i64 (lvE s n E most)]) ∧ Sl w' A (lvK s n E most) (lvF n E most) ∧ lvK s n E most ≤ maxLen := by
  obtain ⟨hb, ⟨hv, he⟩ | ⟨hv, hm, he⟩ | ⟨hv, hm, v, base, he, ho⟩⟩ := h
  · refine ⟨hb, none, 0, ?_, ?_, ?_⟩
    · rw [lvK, if_neg (by rw [hv]; simp), lvE, if_pos hv]; exact he
    · rw [lvK, if_neg (by rw [hv]; simp)]; exact fun hn => absurd hn (by omega)
    · rw [lvK, if_neg (by rw [hv]; simp)]; decide
  · refine ⟨hb, none, 0, ?_, ?_, ?_⟩
    · rw [lvK, if_neg (by omega), lvE, if_neg (by rw [hv]; decide), if_pos hm]; exact he
    · rw [lvK, if_neg (by omega)]; exact fun hn => absurd hn (by omega)
    · rw [lvK, if_neg (by omega)]; decide
  · obtain ⟨A, cap, rfl, h1, h2, h3⟩ := sl_of_ownL ho
    refine ⟨hb, A, cap, ?_, ?_, ?_⟩
    · rw [lvK, if_pos ⟨hv, hm⟩, lvE, if_neg (by rw [hv]; decide), if_neg (by omega)]; exact he
    · rw [lvK, if_pos ⟨hv, hm⟩]; exact h3
    · rw [lvK, if_pos ⟨hv, hm⟩]; omega
theorem ah_cases (s : ByteArray) (n : Nat) (E : Nat → Int) (last days : Int) :
    (∃ e, e ≠ 0 ∧ ahR s n E last days = spV 0 0 e) ∨ (vbB s n E = true ∧ ∃ L : Nat, last = L ∧ 1 ≤ L ∧ L ≤ n - 1 ∧ 2 ≤ n ∧ 1 ≤ days ∧ days ≤ 400) := by
  by_cases hv : vbB s n E = true
  · by_cases h2 : last < 1 ∨ days < 1 ∨ 400 < days
    · exact .inl ⟨7, by decide, ahR_rng hv h2⟩
    · by_cases h3 : (n : Int) - 1 < last
      · exact .inl ⟨8, by decide, ahR_non hv h2 h3⟩
      · obtain ⟨_, n2, _⟩ := vbB_iff.1 hv
        exact .inr ⟨hv, last.toNat, by omega, by omega, by omega, n2, by omega, by omega⟩
  · exact .inl ⟨1, by decide, ahR_bad (by simpa using hv)⟩
theorem mul_wide {d m a g : Int} (h1 : 1 ≤ d) (h2 : d ≤ m) (h : a ≤ g) : d * g - d * a ≤ m * g - m * a := by
  rw [← Int.mul_sub, ← Int.mul_sub]
  exact Int.mul_le_mul_of_nonneg_right h2 (by omega)

set_option maxRecDepth 100000 in
set_option maxHeartbeats 6400000 in
theorem aheads_walk (X : Bx) (last days more most : Int) (w : World) (hX : BxOk w X) :
    Calls Try.prog 8 #[encB X.s X.A X.n X.c, .int .i64 last, .int .i64 days, .int .i64 more, .int .i64 most] w fun e w' => e = .returned (.bool true) ∧ Bl w w' := by
  obtain ⟨s, A, n, c, E⟩ := X
  have HX := Lib.hid hX
  obtain ⟨hs, hn, hc, hA⟩ := hX
  dsimp only at hs hn hc hA
  have HA := Lib.hid hA
  have HS := Lib.hid hs
  have HC := Lib.hid hc
  have HNC := Lib.hid hn
  have HN := Lib.hid (show n ≤ maxLen by omega)
  clear hA hs
  unfold maxLen at hc
  obtain ⟨K, hK⟩ : ∃ K, K = lvK s n E most := ⟨_, rfl⟩
  obtain ⟨F, hF⟩ : ∃ F, F = lvF n E most := ⟨_, rfl⟩
  obtain ⟨e2, he2⟩ : ∃ e, e = lvE s n E most := ⟨_, rfl⟩
  have HLV := Lib.hid (fun (w : World) (e : Ending) (w' : World) (h : LvPost s n E most w e w') => (show Bl w w' ∧ ∃ A c, e = .returned (.tuple #[.slice A K c, .int .i64 e2]) ∧ Sl w' A K F ∧ K ≤ maxLen by
    have h := lv_use h; rw [← hK, ← hF, ← he2] at h; exact h))
  clear hK hF he2
  have HSAME := Lib.hid (sIB_same K F)
  by_cases hf : ftF (fun _ => ⟨s, A, n, c, E⟩) 1 = true
  rotate_left
  · have HF := Lib.hid (show ftF (fun _ => ⟨s, A, n, c, E⟩) 1 = false by simpa using hf)
    clear hf
    go_enter Try.func8, Try.ntmps8
    go_wp2_with fail
    refine (fit_any _ 1 1 (fun _ => ⟨s, A, n, c, E⟩) _ (bxl_one (x := ⟨s, A, n, c, E⟩) (by go_cell) (by go_cell)) (fun j _ => HX.out.below (by go_grown)) (by decide)).mono ?_
    rintro q1 w1 ⟨rfl, hb⟩
    have x0 := kcb hb (b := w.heap.size) (o := 0) (v := .string s) (by first | assumption | (refine cellUp ?_; assumption) | go_cell)
    have x1 := kcb hb (b := w.heap.size) (o := 1) (v := .slice A n c) (by first | assumption | (refine cellUp ?_; assumption) | go_cell)
    have B1 : Bl w w1 := Below.trans (by go_grown) (hb.mono (by (try simp only [World.size_alloc, World.size_setCell, World.size_drew]); omega))
    have l1 := ltb x1
    have zz1 := B1.size
    clear hb
    rw [HF.out]
    go_wp2_with fail
    refine (awakeR_any _).mono ?_
    rintro e w2 ⟨rfl, hb⟩
    go_wp2_with fail
    go_ret
    exact ⟨rfl, Below.trans B1 (Below.trans (by go_grown) (hb.mono (by (try simp only [World.size_alloc, World.size_setCell, World.size_drew]); omega)))⟩
  · have HF := Lib.hid hf
    clear hf
    rcases ah_cases s n E last days with ⟨e1, he1, hA1⟩ | ⟨hv, L, rfl, L1, Ln, n2, d1, d4⟩
    · have HA1 := Lib.hid hA1
      unfold spV at HA1
      have e0 : (e1 != 0) = true := by simpa using he1
      clear hA1 he1
      go_enter Try.func8, Try.ntmps8
      go_wp2_with fail
      refine (fit_any _ 1 1 (fun _ => ⟨s, A, n, c, E⟩) _ (bxl_one (x := ⟨s, A, n, c, E⟩) (by go_cell) (by go_cell)) (fun j _ => HX.out.below (by go_grown)) (by decide)).mono ?_
      rintro q1 w1 ⟨rfl, hb⟩
      have x0 := kcb hb (b := w.heap.size) (o := 0) (v := .string s) (by first | assumption | (refine cellUp ?_; assumption) | go_cell)
      have x1 := kcb hb (b := w.heap.size) (o := 1) (v := .slice A n c) (by first | assumption | (refine cellUp ?_; assumption) | go_cell)
      have B1 : Bl w w1 := Below.trans (by go_grown) (hb.mono (by (try simp only [World.size_alloc, World.size_setCell, World.size_drew]); omega))
      have l1 := ltb x1
      have zz1 := B1.size
      clear hb
      rw [HF.out]
      go_wp2_with fail
      refine (ahead_any s A n c E last days _ HS.out (HA.out.below B1) HNC.out HC.out).mono ?_
      rintro q2 w2 ⟨rfl, hb⟩
      have x0 := kcb hb (b := w.heap.size) (o := 0) (v := .string s) (by first | assumption | (refine cellUp ?_; assumption) | go_cell)
      have x1 := kcb hb (b := w.heap.size) (o := 1) (v := .slice A n c) (by first | assumption | (refine cellUp ?_; assumption) | go_cell)
      have B2 : Bl w w2 := Below.trans (by go_grown) (hb.mono (by (try simp only [World.size_alloc, World.size_setCell, World.size_drew]); omega))
      have l2 := ltb x1
      have zz2 := B2.size
      clear hb
      rw [HA1.out]
      go_wp2_with fail
      refine (rahead_any s A n c E last days _ HS.out (HA.out.below (Bl.tr B2 (by go_grown))) HNC.out HC.out).mono ?_
      rintro q3 w3 ⟨rfl, hb⟩
      have x0 := kcb hb (b := w.heap.size) (o := 0) (v := .string s) (by first | assumption | (refine cellUp ?_; assumption) | go_cell)
      have x1 := kcb hb (b := w.heap.size) (o := 1) (v := .slice A n c) (by first | assumption | (refine cellUp ?_; assumption) | go_cell)
      have a0 := kcb hb (b := w2.heap.size) (o := 0) (v := .int .i64 0) (by first | assumption | (refine cellUp ?_; assumption) | go_cell)
      have a1 := kcb hb (b := w2.heap.size) (o := 1) (v := .int .i64 0) (by first | assumption | (refine cellUp ?_; assumption) | go_cell)
      have B3 : Bl w w3 := Below.trans (by go_grown) (hb.mono (by (try simp only [World.size_alloc, World.size_setCell, World.size_drew]); omega))
      have l3 := ltb a1
      have l3_1 := ltb x1
      have zz3 := B3.size
      clear hb
      rw [HA1.out]
      go_wp2_with fail
      refine (leaps_any s A n c E most _ HS.out (HA.out.below (Bl.tr B3 (by go_grown))) HNC.out HC.out).mono ?_
      rintro q4 w4 hL
      obtain ⟨hb, A4, c4, rfl, hA4, hK4⟩ := HLV.out _ _ _ hL
      have x0 := kcb hb (b := w.heap.size) (o := 0) (v := .string s) (by first | assumption | (refine cellUp ?_; assumption) | go_cell)
      have x1 := kcb hb (b := w.heap.size) (o := 1) (v := .slice A n c) (by first | assumption | (refine cellUp ?_; assumption) | go_cell)
      have a0 := kcb hb (b := w2.heap.size) (o := 0) (v := .int .i64 0) (by first | assumption | (refine cellUp ?_; assumption) | go_cell)
      have a1 := kcb hb (b := w2.heap.size) (o := 1) (v := .int .i64 0) (by first | assumption | (refine cellUp ?_; assumption) | go_cell)
      have b0 := kcb hb (b := w3.heap.size) (o := 0) (v := .int .i64 0) (by first | assumption | (refine cellUp ?_; assumption) | go_cell)
      have b1 := kcb hb (b := w3.heap.size) (o := 1) (v := .int .i64 0) (by first | assumption | (refine cellUp ?_; assumption) | go_cell)
      have B4 : Bl w w4 := Below.trans B3 (Below.trans (by go_grown) (hb.mono (by (try simp only [World.size_alloc, World.size_setCell, World.size_drew]); omega)))
      have l4 := ltb x0
      have l4_1 := ltb a0
      have l4_2 := ltb b0
      have zz4 := B4.size
      have HA4 := Lib.hid hA4
      have HK4 := Lib.hid hK4
      clear hb hL hA4 hK4
      go_wp2_with fail
      refine (rleaps_any s A n c E most _ HS.out (HA.out.below B4) HNC.out HC.out).mono ?_
      rintro q5 w5 hL
      obtain ⟨hb, A5, c5, rfl, hA5, hK5⟩ := HLV.out _ _ _ hL
      have x0 := kcb hb (b := w.heap.size) (o := 0) (v := .string s) (by first | assumption | (refine cellUp ?_; assumption) | go_cell)
      have x1 := kcb hb (b := w.heap.size) (o := 1) (v := .slice A n c) (by first | assumption | (refine cellUp ?_; assumption) | go_cell)
      have a0 := kcb hb (b := w2.heap.size) (o := 0) (v := .int .i64 0) (by first | assumption | (refine cellUp ?_; assumption) | go_cell)
      have a1 := kcb hb (b := w2.heap.size) (o := 1) (v := .int .i64 0) (by first | assumption | (refine cellUp ?_; assumption) | go_cell)
      have b0 := kcb hb (b := w3.heap.size) (o := 0) (v := .int .i64 0) (by first | assumption | (refine cellUp ?_; assumption) | go_cell)
      have b1 := kcb hb (b := w3.heap.size) (o := 1) (v := .int .i64 0) (by first | assumption | (refine cellUp ?_; assumption) | go_cell)
      have HA4 := Lib.hid (HA4.out.below hb)
      have HA5 := Lib.hid hA5
      have B5 : Bl w w5 := B4.tr hb
      have l5 := ltb x0
      have l5_1 := ltb a0
      have l5_2 := ltb b0
      have zz5 := B5.size
      clear hb hL hA5 hK5
      go_wp2_with fail
      refine (sameInts_any A4 K c4 F A5 K c5 F _ HK4.out HK4.out HA4.out HA5.out).mono ?_
      rintro q6 w6 ⟨rfl, N, hw⟩
      rw [HSAME.out]
      have hb : Bl w5 w6 := by rw [hw]; exact Bl.dq6 _ N
      clear hw
      have x0 := kcb hb (b := w.heap.size) (o := 0) (v := .string s) (by first | assumption | (refine cellUp ?_; assumption) | go_cell)
      have x1 := kcb hb (b := w.heap.size) (o := 1) (v := .slice A n c) (by first | assumption | (refine cellUp ?_; assumption) | go_cell)
      have a0 := kcb hb (b := w2.heap.size) (o := 0) (v := .int .i64 0) (by first | assumption | (refine cellUp ?_; assumption) | go_cell)
      have a1 := kcb hb (b := w2.heap.size) (o := 1) (v := .int .i64 0) (by first | assumption | (refine cellUp ?_; assumption) | go_cell)
      have b0 := kcb hb (b := w3.heap.size) (o := 0) (v := .int .i64 0) (by first | assumption | (refine cellUp ?_; assumption) | go_cell)
      have b1 := kcb hb (b := w3.heap.size) (o := 1) (v := .int .i64 0) (by first | assumption | (refine cellUp ?_; assumption) | go_cell)
      have B6 : Bl w w6 := B5.tr hb
      have l6 := ltb x0
      have l6_1 := ltb a0
      have l6_2 := ltb b0
      have zz6 := B6.size
      clear hb
      go_wp2_with fail
      refine (awakeR_any _).mono ?_
      rintro e w7 ⟨rfl, hb⟩
      go_wp2_with fail
      go_ret
      exact ⟨rfl, Below.trans B6 (Below.trans (by go_grown) (hb.mono (by (try simp only [World.size_alloc, World.size_setCell, World.size_drew]); omega)))⟩
    · have HV := Lib.hid hv
      have HE := Lib.hid (vbB_iff.1 hv).2.2.2
      have HA1 := Lib.hid (ahR_ok hv (L := L) (days := days) ⟨L1, d1, d4⟩ Ln n2)
      unfold spV at HA1
      obtain ⟨⟨v1, v2, v3⟩, v4, v5⟩ := ah_vS HE.out L1 Ln n2 ⟨d1, d4⟩
      have HLE := Lib.hid (al_bd HE.out L1 Ln).2.1
      obtain ⟨u, hu⟩ : ∃ u, u = E (n - 1) := ⟨_, rfl⟩
      obtain ⟨P, hP⟩ : ∃ P, P = days * alF E n L := ⟨_, rfl⟩
      obtain ⟨Q, hQ⟩ : ∃ Q, Q = days * agF E n L := ⟨_, rfl⟩
      rw [← hu, ← hP, ← hQ] at HA1
      rw [← hP] at v1 v2
      rw [← hQ] at v2 v3
      rw [← hu] at v4 v5
      have HP := Lib.hid hP
      have HQ := Lib.hid hQ
      have HU := Lib.hid hu
      clear hv hu hP hQ
      by_cases hm : more < days
      · skip
        go_enter Try.func8, Try.ntmps8
        go_wp2_with fail
        refine (fit_any _ 1 1 (fun _ => ⟨s, A, n, c, E⟩) _ (bxl_one (x := ⟨s, A, n, c, E⟩) (by go_cell) (by go_cell)) (fun j _ => HX.out.below (by go_grown)) (by decide)).mono ?_
        rintro q1 w1 ⟨rfl, hb⟩
        have x0 := kcb hb (b := w.heap.size) (o := 0) (v := .string s) (by first | assumption | (refine cellUp ?_; assumption) | go_cell)
        have x1 := kcb hb (b := w.heap.size) (o := 1) (v := .slice A n c) (by first | assumption | (refine cellUp ?_; assumption) | go_cell)
        have B1 : Bl w w1 := Below.trans (by go_grown) (hb.mono (by (try simp only [World.size_alloc, World.size_setCell, World.size_drew]); omega))
        have l1 := ltb x1
        have zz1 := B1.size
        clear hb
        rw [HF.out]
        go_wp2_with fail
        refine (ahead_any s A n c E (L : Int) days _ HS.out (HA.out.below B1) HNC.out HC.out).mono ?_
        rintro q2 w2 ⟨rfl, hb⟩
        have x0 := kcb hb (b := w.heap.size) (o := 0) (v := .string s) (by first | assumption | (refine cellUp ?_; assumption) | go_cell)
        have x1 := kcb hb (b := w.heap.size) (o := 1) (v := .slice A n c) (by first | assumption | (refine cellUp ?_; assumption) | go_cell)
        have B2 : Bl w w2 := Below.trans (by go_grown) (hb.mono (by (try simp only [World.size_alloc, World.size_setCell, World.size_drew]); omega))
        have l2 := ltb x1
        have zz2 := B2.size
        clear hb
        rw [HA1.out]
        go_wp2_with fail
        refine (rahead_any s A n c E (L : Int) days _ HS.out (HA.out.below (Bl.tr B2 (by go_grown))) HNC.out HC.out).mono ?_
        rintro q3 w3 ⟨rfl, hb⟩
        have x0 := kcb hb (b := w.heap.size) (o := 0) (v := .string s) (by first | assumption | (refine cellUp ?_; assumption) | go_cell)
        have x1 := kcb hb (b := w.heap.size) (o := 1) (v := .slice A n c) (by first | assumption | (refine cellUp ?_; assumption) | go_cell)
        have a0 := kcb hb (b := w2.heap.size) (o := 0) (v := .int .i64 (u + P)) (by first | assumption | (refine cellUp ?_; assumption) | go_cell)
        have a1 := kcb hb (b := w2.heap.size) (o := 1) (v := .int .i64 (u + Q)) (by first | assumption | (refine cellUp ?_; assumption) | go_cell)
        have B3 : Bl w w3 := Below.trans (by go_grown) (hb.mono (by (try simp only [World.size_alloc, World.size_setCell, World.size_drew]); omega))
        have l3 := ltb a1
        have l3_1 := ltb x1
        have zz3 := B3.size
        clear hb
        rw [HA1.out]
        go_wp2_with fail
        refine (leaps_any s A n c E most _ HS.out (HA.out.below (Bl.tr B3 (by go_grown))) HNC.out HC.out).mono ?_
        rintro q4 w4 hL
        obtain ⟨hb, A4, c4, rfl, hA4, hK4⟩ := HLV.out _ _ _ hL
        have x0 := kcb hb (b := w.heap.size) (o := 0) (v := .string s) (by first | assumption | (refine cellUp ?_; assumption) | go_cell)
        have x1 := kcb hb (b := w.heap.size) (o := 1) (v := .slice A n c) (by first | assumption | (refine cellUp ?_; assumption) | go_cell)
        have a0 := kcb hb (b := w2.heap.size) (o := 0) (v := .int .i64 (u + P)) (by first | assumption | (refine cellUp ?_; assumption) | go_cell)
        have a1 := kcb hb (b := w2.heap.size) (o := 1) (v := .int .i64 (u + Q)) (by first | assumption | (refine cellUp ?_; assumption) | go_cell)
        have b0 := kcb hb (b := w3.heap.size) (o := 0) (v := .int .i64 (u + P)) (by first | assumption | (refine cellUp ?_; assumption) | go_cell)
        have b1 := kcb hb (b := w3.heap.size) (o := 1) (v := .int .i64 (u + Q)) (by first | assumption | (refine cellUp ?_; assumption) | go_cell)
        have B4 : Bl w w4 := Below.trans B3 (Below.trans (by go_grown) (hb.mono (by (try simp only [World.size_alloc, World.size_setCell, World.size_drew]); omega)))
        have l4 := ltb x0
        have l4_1 := ltb a0
        have l4_2 := ltb b0
        have zz4 := B4.size
        have HA4 := Lib.hid hA4
        have HK4 := Lib.hid hK4
        clear hb hL hA4 hK4
        go_wp2_with fail
        refine (rleaps_any s A n c E most _ HS.out (HA.out.below B4) HNC.out HC.out).mono ?_
        rintro q5 w5 hL
        obtain ⟨hb, A5, c5, rfl, hA5, hK5⟩ := HLV.out _ _ _ hL
        have x0 := kcb hb (b := w.heap.size) (o := 0) (v := .string s) (by first | assumption | (refine cellUp ?_; assumption) | go_cell)
        have x1 := kcb hb (b := w.heap.size) (o := 1) (v := .slice A n c) (by first | assumption | (refine cellUp ?_; assumption) | go_cell)
        have a0 := kcb hb (b := w2.heap.size) (o := 0) (v := .int .i64 (u + P)) (by first | assumption | (refine cellUp ?_; assumption) | go_cell)
        have a1 := kcb hb (b := w2.heap.size) (o := 1) (v := .int .i64 (u + Q)) (by first | assumption | (refine cellUp ?_; assumption) | go_cell)
        have b0 := kcb hb (b := w3.heap.size) (o := 0) (v := .int .i64 (u + P)) (by first | assumption | (refine cellUp ?_; assumption) | go_cell)
        have b1 := kcb hb (b := w3.heap.size) (o := 1) (v := .int .i64 (u + Q)) (by first | assumption | (refine cellUp ?_; assumption) | go_cell)
        have HA4 := Lib.hid (HA4.out.below hb)
        have HA5 := Lib.hid hA5
        have B5 : Bl w w5 := B4.tr hb
        have l5 := ltb x0
        have l5_1 := ltb a0
        have l5_2 := ltb b0
        have zz5 := B5.size
        clear hb hL hA5 hK5
        go_wp2_with fail
        refine (sameInts_any A4 K c4 F A5 K c5 F _ HK4.out HK4.out HA4.out HA5.out).mono ?_
        rintro q6 w6 ⟨rfl, N, hw⟩
        rw [HSAME.out]
        have hb : Bl w5 w6 := by rw [hw]; exact Bl.dq6 _ N
        clear hw
        have x0 := kcb hb (b := w.heap.size) (o := 0) (v := .string s) (by first | assumption | (refine cellUp ?_; assumption) | go_cell)
        have x1 := kcb hb (b := w.heap.size) (o := 1) (v := .slice A n c) (by first | assumption | (refine cellUp ?_; assumption) | go_cell)
        have a0 := kcb hb (b := w2.heap.size) (o := 0) (v := .int .i64 (u + P)) (by first | assumption | (refine cellUp ?_; assumption) | go_cell)
        have a1 := kcb hb (b := w2.heap.size) (o := 1) (v := .int .i64 (u + Q)) (by first | assumption | (refine cellUp ?_; assumption) | go_cell)
        have b0 := kcb hb (b := w3.heap.size) (o := 0) (v := .int .i64 (u + P)) (by first | assumption | (refine cellUp ?_; assumption) | go_cell)
        have b1 := kcb hb (b := w3.heap.size) (o := 1) (v := .int .i64 (u + Q)) (by first | assumption | (refine cellUp ?_; assumption) | go_cell)
        have B6 : Bl w w6 := B5.tr hb
        have l6 := ltb x0
        have l6_1 := ltb a0
        have l6_2 := ltb b0
        have zz6 := B6.size
        clear hb
        go_wp2_with fail
        refine (awakeR_any _).mono ?_
        rintro e w7 ⟨rfl, hb⟩
        go_wp2_with fail
        go_ret
        exact ⟨rfl, Below.trans B6 (Below.trans (by go_grown) (hb.mono (by (try simp only [World.size_alloc, World.size_setCell, World.size_drew]); omega)))⟩
      · have hm' : days ≤ more := by omega
        clear hm
        by_cases h4 : 400 < more
        · have HA2 := Lib.hid (ahR_rng HV.out (last := L) (days := more) (.inr (.inr h4)))
          unfold spV at HA2
          go_enter Try.func8, Try.ntmps8
          go_wp2_with fail
          refine (fit_any _ 1 1 (fun _ => ⟨s, A, n, c, E⟩) _ (bxl_one (x := ⟨s, A, n, c, E⟩) (by go_cell) (by go_cell)) (fun j _ => HX.out.below (by go_grown)) (by decide)).mono ?_
          rintro q1 w1 ⟨rfl, hb⟩
          have x0 := kcb hb (b := w.heap.size) (o := 0) (v := .string s) (by first | assumption | (refine cellUp ?_; assumption) | go_cell)
          have x1 := kcb hb (b := w.heap.size) (o := 1) (v := .slice A n c) (by first | assumption | (refine cellUp ?_; assumption) | go_cell)
          have B1 : Bl w w1 := Below.trans (by go_grown) (hb.mono (by (try simp only [World.size_alloc, World.size_setCell, World.size_drew]); omega))
          have l1 := ltb x1
          have zz1 := B1.size
          clear hb
          rw [HF.out]
          go_wp2_with fail
          refine (ahead_any s A n c E (L : Int) days _ HS.out (HA.out.below B1) HNC.out HC.out).mono ?_
          rintro q2 w2 ⟨rfl, hb⟩
          have x0 := kcb hb (b := w.heap.size) (o := 0) (v := .string s) (by first | assumption | (refine cellUp ?_; assumption) | go_cell)
          have x1 := kcb hb (b := w.heap.size) (o := 1) (v := .slice A n c) (by first | assumption | (refine cellUp ?_; assumption) | go_cell)
          have B2 : Bl w w2 := Below.trans (by go_grown) (hb.mono (by (try simp only [World.size_alloc, World.size_setCell, World.size_drew]); omega))
          have l2 := ltb x1
          have zz2 := B2.size
          clear hb
          rw [HA1.out]
          go_wp2_with fail
          refine (rahead_any s A n c E (L : Int) days _ HS.out (HA.out.below (Bl.tr B2 (by go_grown))) HNC.out HC.out).mono ?_
          rintro q3 w3 ⟨rfl, hb⟩
          have x0 := kcb hb (b := w.heap.size) (o := 0) (v := .string s) (by first | assumption | (refine cellUp ?_; assumption) | go_cell)
          have x1 := kcb hb (b := w.heap.size) (o := 1) (v := .slice A n c) (by first | assumption | (refine cellUp ?_; assumption) | go_cell)
          have a0 := kcb hb (b := w2.heap.size) (o := 0) (v := .int .i64 (u + P)) (by first | assumption | (refine cellUp ?_; assumption) | go_cell)
          have a1 := kcb hb (b := w2.heap.size) (o := 1) (v := .int .i64 (u + Q)) (by first | assumption | (refine cellUp ?_; assumption) | go_cell)
          have B3 : Bl w w3 := Below.trans (by go_grown) (hb.mono (by (try simp only [World.size_alloc, World.size_setCell, World.size_drew]); omega))
          have l3 := ltb a1
          have l3_1 := ltb x1
          have zz3 := B3.size
          clear hb
          rw [HA1.out]
          go_wp2_with fail
          refine (leaps_any s A n c E most _ HS.out (HA.out.below (Bl.tr B3 (by go_grown))) HNC.out HC.out).mono ?_
          rintro q4 w4 hL
          obtain ⟨hb, A4, c4, rfl, hA4, hK4⟩ := HLV.out _ _ _ hL
          have x0 := kcb hb (b := w.heap.size) (o := 0) (v := .string s) (by first | assumption | (refine cellUp ?_; assumption) | go_cell)
          have x1 := kcb hb (b := w.heap.size) (o := 1) (v := .slice A n c) (by first | assumption | (refine cellUp ?_; assumption) | go_cell)
          have a0 := kcb hb (b := w2.heap.size) (o := 0) (v := .int .i64 (u + P)) (by first | assumption | (refine cellUp ?_; assumption) | go_cell)
          have a1 := kcb hb (b := w2.heap.size) (o := 1) (v := .int .i64 (u + Q)) (by first | assumption | (refine cellUp ?_; assumption) | go_cell)
          have b0 := kcb hb (b := w3.heap.size) (o := 0) (v := .int .i64 (u + P)) (by first | assumption | (refine cellUp ?_; assumption) | go_cell)
          have b1 := kcb hb (b := w3.heap.size) (o := 1) (v := .int .i64 (u + Q)) (by first | assumption | (refine cellUp ?_; assumption) | go_cell)
          have B4 : Bl w w4 := Below.trans B3 (Below.trans (by go_grown) (hb.mono (by (try simp only [World.size_alloc, World.size_setCell, World.size_drew]); omega)))
          have l4 := ltb x0
          have l4_1 := ltb a0
          have l4_2 := ltb b0
          have zz4 := B4.size
          have HA4 := Lib.hid hA4
          have HK4 := Lib.hid hK4
          clear hb hL hA4 hK4
          go_wp2_with fail
          refine (rleaps_any s A n c E most _ HS.out (HA.out.below B4) HNC.out HC.out).mono ?_
          rintro q5 w5 hL
          obtain ⟨hb, A5, c5, rfl, hA5, hK5⟩ := HLV.out _ _ _ hL
          have x0 := kcb hb (b := w.heap.size) (o := 0) (v := .string s) (by first | assumption | (refine cellUp ?_; assumption) | go_cell)
          have x1 := kcb hb (b := w.heap.size) (o := 1) (v := .slice A n c) (by first | assumption | (refine cellUp ?_; assumption) | go_cell)
          have a0 := kcb hb (b := w2.heap.size) (o := 0) (v := .int .i64 (u + P)) (by first | assumption | (refine cellUp ?_; assumption) | go_cell)
          have a1 := kcb hb (b := w2.heap.size) (o := 1) (v := .int .i64 (u + Q)) (by first | assumption | (refine cellUp ?_; assumption) | go_cell)
          have b0 := kcb hb (b := w3.heap.size) (o := 0) (v := .int .i64 (u + P)) (by first | assumption | (refine cellUp ?_; assumption) | go_cell)
          have b1 := kcb hb (b := w3.heap.size) (o := 1) (v := .int .i64 (u + Q)) (by first | assumption | (refine cellUp ?_; assumption) | go_cell)
          have HA4 := Lib.hid (HA4.out.below hb)
          have HA5 := Lib.hid hA5
          have B5 : Bl w w5 := B4.tr hb
          have l5 := ltb x0
          have l5_1 := ltb a0
          have l5_2 := ltb b0
          have zz5 := B5.size
          clear hb hL hA5 hK5
          go_wp2_with fail
          refine (sameInts_any A4 K c4 F A5 K c5 F _ HK4.out HK4.out HA4.out HA5.out).mono ?_
          rintro q6 w6 ⟨rfl, N, hw⟩
          rw [HSAME.out]
          have hb : Bl w5 w6 := by rw [hw]; exact Bl.dq6 _ N
          clear hw
          have x0 := kcb hb (b := w.heap.size) (o := 0) (v := .string s) (by first | assumption | (refine cellUp ?_; assumption) | go_cell)
          have x1 := kcb hb (b := w.heap.size) (o := 1) (v := .slice A n c) (by first | assumption | (refine cellUp ?_; assumption) | go_cell)
          have a0 := kcb hb (b := w2.heap.size) (o := 0) (v := .int .i64 (u + P)) (by first | assumption | (refine cellUp ?_; assumption) | go_cell)
          have a1 := kcb hb (b := w2.heap.size) (o := 1) (v := .int .i64 (u + Q)) (by first | assumption | (refine cellUp ?_; assumption) | go_cell)
          have b0 := kcb hb (b := w3.heap.size) (o := 0) (v := .int .i64 (u + P)) (by first | assumption | (refine cellUp ?_; assumption) | go_cell)
          have b1 := kcb hb (b := w3.heap.size) (o := 1) (v := .int .i64 (u + Q)) (by first | assumption | (refine cellUp ?_; assumption) | go_cell)
          have B6 : Bl w w6 := B5.tr hb
          have l6 := ltb x0
          have l6_1 := ltb a0
          have l6_2 := ltb b0
          have zz6 := B6.size
          clear hb
          go_wp2_with fail
          refine (ahead_any s A n c E (L : Int) more _ HS.out (HA.out.below B6) HNC.out HC.out).mono ?_
          rintro q7 w7 ⟨rfl, hb⟩
          have x0 := kcb hb (b := w.heap.size) (o := 0) (v := .string s) (by first | assumption | (refine cellUp ?_; assumption) | go_cell)
          have x1 := kcb hb (b := w.heap.size) (o := 1) (v := .slice A n c) (by first | assumption | (refine cellUp ?_; assumption) | go_cell)
          have a0 := kcb hb (b := w2.heap.size) (o := 0) (v := .int .i64 (u + P)) (by first | assumption | (refine cellUp ?_; assumption) | go_cell)
          have a1 := kcb hb (b := w2.heap.size) (o := 1) (v := .int .i64 (u + Q)) (by first | assumption | (refine cellUp ?_; assumption) | go_cell)
          have b0 := kcb hb (b := w3.heap.size) (o := 0) (v := .int .i64 (u + P)) (by first | assumption | (refine cellUp ?_; assumption) | go_cell)
          have b1 := kcb hb (b := w3.heap.size) (o := 1) (v := .int .i64 (u + Q)) (by first | assumption | (refine cellUp ?_; assumption) | go_cell)
          have B7 : Bl w w7 := Below.trans (by go_grown) (hb.mono (by (try simp only [World.size_alloc, World.size_setCell, World.size_drew]); omega))
          have l7 := ltb b1
          have l7_1 := ltb a1
          have l7_2 := ltb x1
          have zz7 := B7.size
          clear hb
          rw [HA2.out]
          go_wp2_with fail
          refine (awakeR_any _).mono ?_
          rintro e w8 ⟨rfl, hb⟩
          go_wp2_with fail
          go_ret
          exact ⟨rfl, Below.trans B7 (Below.trans (by go_grown) (hb.mono (by (try simp only [World.size_alloc, World.size_setCell, World.size_drew]); omega)))⟩
        · have h4' : more ≤ 400 := by omega
          clear h4
          have HA2 := Lib.hid (ahR_ok HV.out (L := L) (days := more) ⟨L1, by omega, h4'⟩ Ln n2)
          unfold spV at HA2
          obtain ⟨⟨w1', w2', w3'⟩, _, _⟩ := ah_vS HE.out L1 Ln n2 ⟨show 1 ≤ more by omega, h4'⟩
          have hwd := mul_wide d1 hm' HLE.out
          obtain ⟨R, hR⟩ : ∃ R, R = more * alF E n L := ⟨_, rfl⟩
          obtain ⟨S, hS⟩ : ∃ S, S = more * agF E n L := ⟨_, rfl⟩
          rw [← HU.out, ← hR, ← hS] at HA2
          rw [← hR] at w1' w2'
          rw [← hS] at w2' w3'
          rw [← hR, ← hS, ← HP.out, ← HQ.out] at hwd
          clear hR hS
          go_enter Try.func8, Try.ntmps8
          go_wp2_with fail
          refine (fit_any _ 1 1 (fun _ => ⟨s, A, n, c, E⟩) _ (bxl_one (x := ⟨s, A, n, c, E⟩) (by go_cell) (by go_cell)) (fun j _ => HX.out.below (by go_grown)) (by decide)).mono ?_
          rintro q1 w1 ⟨rfl, hb⟩
          have x0 := kcb hb (b := w.heap.size) (o := 0) (v := .string s) (by first | assumption | (refine cellUp ?_; assumption) | go_cell)
          have x1 := kcb hb (b := w.heap.size) (o := 1) (v := .slice A n c) (by first | assumption | (refine cellUp ?_; assumption) | go_cell)
          have B1 : Bl w w1 := Below.trans (by go_grown) (hb.mono (by (try simp only [World.size_alloc, World.size_setCell, World.size_drew]); omega))
          have l1 := ltb x1
          have zz1 := B1.size
          clear hb
          rw [HF.out]
          go_wp2_with fail
          refine (ahead_any s A n c E (L : Int) days _ HS.out (HA.out.below B1) HNC.out HC.out).mono ?_
          rintro q2 w2 ⟨rfl, hb⟩
          have x0 := kcb hb (b := w.heap.size) (o := 0) (v := .string s) (by first | assumption | (refine cellUp ?_; assumption) | go_cell)
          have x1 := kcb hb (b := w.heap.size) (o := 1) (v := .slice A n c) (by first | assumption | (refine cellUp ?_; assumption) | go_cell)
          have B2 : Bl w w2 := Below.trans (by go_grown) (hb.mono (by (try simp only [World.size_alloc, World.size_setCell, World.size_drew]); omega))
          have l2 := ltb x1
          have zz2 := B2.size
          clear hb
          rw [HA1.out]
          go_wp2_with fail
          refine (rahead_any s A n c E (L : Int) days _ HS.out (HA.out.below (Bl.tr B2 (by go_grown))) HNC.out HC.out).mono ?_
          rintro q3 w3 ⟨rfl, hb⟩
          have x0 := kcb hb (b := w.heap.size) (o := 0) (v := .string s) (by first | assumption | (refine cellUp ?_; assumption) | go_cell)
          have x1 := kcb hb (b := w.heap.size) (o := 1) (v := .slice A n c) (by first | assumption | (refine cellUp ?_; assumption) | go_cell)
          have a0 := kcb hb (b := w2.heap.size) (o := 0) (v := .int .i64 (u + P)) (by first | assumption | (refine cellUp ?_; assumption) | go_cell)
          have a1 := kcb hb (b := w2.heap.size) (o := 1) (v := .int .i64 (u + Q)) (by first | assumption | (refine cellUp ?_; assumption) | go_cell)
          have B3 : Bl w w3 := Below.trans (by go_grown) (hb.mono (by (try simp only [World.size_alloc, World.size_setCell, World.size_drew]); omega))
          have l3 := ltb a1
          have l3_1 := ltb x1
          have zz3 := B3.size
          clear hb
          rw [HA1.out]
          go_wp2_with fail
          refine (leaps_any s A n c E most _ HS.out (HA.out.below (Bl.tr B3 (by go_grown))) HNC.out HC.out).mono ?_
          rintro q4 w4 hL
          obtain ⟨hb, A4, c4, rfl, hA4, hK4⟩ := HLV.out _ _ _ hL
          have x0 := kcb hb (b := w.heap.size) (o := 0) (v := .string s) (by first | assumption | (refine cellUp ?_; assumption) | go_cell)
          have x1 := kcb hb (b := w.heap.size) (o := 1) (v := .slice A n c) (by first | assumption | (refine cellUp ?_; assumption) | go_cell)
          have a0 := kcb hb (b := w2.heap.size) (o := 0) (v := .int .i64 (u + P)) (by first | assumption | (refine cellUp ?_; assumption) | go_cell)
          have a1 := kcb hb (b := w2.heap.size) (o := 1) (v := .int .i64 (u + Q)) (by first | assumption | (refine cellUp ?_; assumption) | go_cell)
          have b0 := kcb hb (b := w3.heap.size) (o := 0) (v := .int .i64 (u + P)) (by first | assumption | (refine cellUp ?_; assumption) | go_cell)
          have b1 := kcb hb (b := w3.heap.size) (o := 1) (v := .int .i64 (u + Q)) (by first | assumption | (refine cellUp ?_; assumption) | go_cell)
          have B4 : Bl w w4 := Below.trans B3 (Below.trans (by go_grown) (hb.mono (by (try simp only [World.size_alloc, World.size_setCell, World.size_drew]); omega)))
          have l4 := ltb x0
          have l4_1 := ltb a0
          have l4_2 := ltb b0
          have zz4 := B4.size
          have HA4 := Lib.hid hA4
          have HK4 := Lib.hid hK4
          clear hb hL hA4 hK4
          go_wp2_with fail
          refine (rleaps_any s A n c E most _ HS.out (HA.out.below B4) HNC.out HC.out).mono ?_
          rintro q5 w5 hL
          obtain ⟨hb, A5, c5, rfl, hA5, hK5⟩ := HLV.out _ _ _ hL
          have x0 := kcb hb (b := w.heap.size) (o := 0) (v := .string s) (by first | assumption | (refine cellUp ?_; assumption) | go_cell)
          have x1 := kcb hb (b := w.heap.size) (o := 1) (v := .slice A n c) (by first | assumption | (refine cellUp ?_; assumption) | go_cell)
          have a0 := kcb hb (b := w2.heap.size) (o := 0) (v := .int .i64 (u + P)) (by first | assumption | (refine cellUp ?_; assumption) | go_cell)
          have a1 := kcb hb (b := w2.heap.size) (o := 1) (v := .int .i64 (u + Q)) (by first | assumption | (refine cellUp ?_; assumption) | go_cell)
          have b0 := kcb hb (b := w3.heap.size) (o := 0) (v := .int .i64 (u + P)) (by first | assumption | (refine cellUp ?_; assumption) | go_cell)
          have b1 := kcb hb (b := w3.heap.size) (o := 1) (v := .int .i64 (u + Q)) (by first | assumption | (refine cellUp ?_; assumption) | go_cell)
          have HA4 := Lib.hid (HA4.out.below hb)
          have HA5 := Lib.hid hA5
          have B5 : Bl w w5 := B4.tr hb
          have l5 := ltb x0
          have l5_1 := ltb a0
          have l5_2 := ltb b0
          have zz5 := B5.size
          clear hb hL hA5 hK5
          go_wp2_with fail
          refine (sameInts_any A4 K c4 F A5 K c5 F _ HK4.out HK4.out HA4.out HA5.out).mono ?_
          rintro q6 w6 ⟨rfl, N, hw⟩
          rw [HSAME.out]
          have hb : Bl w5 w6 := by rw [hw]; exact Bl.dq6 _ N
          clear hw
          have x0 := kcb hb (b := w.heap.size) (o := 0) (v := .string s) (by first | assumption | (refine cellUp ?_; assumption) | go_cell)
          have x1 := kcb hb (b := w.heap.size) (o := 1) (v := .slice A n c) (by first | assumption | (refine cellUp ?_; assumption) | go_cell)
          have a0 := kcb hb (b := w2.heap.size) (o := 0) (v := .int .i64 (u + P)) (by first | assumption | (refine cellUp ?_; assumption) | go_cell)
          have a1 := kcb hb (b := w2.heap.size) (o := 1) (v := .int .i64 (u + Q)) (by first | assumption | (refine cellUp ?_; assumption) | go_cell)
          have b0 := kcb hb (b := w3.heap.size) (o := 0) (v := .int .i64 (u + P)) (by first | assumption | (refine cellUp ?_; assumption) | go_cell)
          have b1 := kcb hb (b := w3.heap.size) (o := 1) (v := .int .i64 (u + Q)) (by first | assumption | (refine cellUp ?_; assumption) | go_cell)
          have B6 : Bl w w6 := B5.tr hb
          have l6 := ltb x0
          have l6_1 := ltb a0
          have l6_2 := ltb b0
          have zz6 := B6.size
          clear hb
          go_wp2_with fail
          refine (ahead_any s A n c E (L : Int) more _ HS.out (HA.out.below B6) HNC.out HC.out).mono ?_
          rintro q7 w7 ⟨rfl, hb⟩
          have x0 := kcb hb (b := w.heap.size) (o := 0) (v := .string s) (by first | assumption | (refine cellUp ?_; assumption) | go_cell)
          have x1 := kcb hb (b := w.heap.size) (o := 1) (v := .slice A n c) (by first | assumption | (refine cellUp ?_; assumption) | go_cell)
          have a0 := kcb hb (b := w2.heap.size) (o := 0) (v := .int .i64 (u + P)) (by first | assumption | (refine cellUp ?_; assumption) | go_cell)
          have a1 := kcb hb (b := w2.heap.size) (o := 1) (v := .int .i64 (u + Q)) (by first | assumption | (refine cellUp ?_; assumption) | go_cell)
          have b0 := kcb hb (b := w3.heap.size) (o := 0) (v := .int .i64 (u + P)) (by first | assumption | (refine cellUp ?_; assumption) | go_cell)
          have b1 := kcb hb (b := w3.heap.size) (o := 1) (v := .int .i64 (u + Q)) (by first | assumption | (refine cellUp ?_; assumption) | go_cell)
          have B7 : Bl w w7 := Below.trans (by go_grown) (hb.mono (by (try simp only [World.size_alloc, World.size_setCell, World.size_drew]); omega))
          have l7 := ltb b1
          have l7_1 := ltb a1
          have l7_2 := ltb x1
          have zz7 := B7.size
          clear hb
          rw [HA2.out]
          have g1 : u + Q - (u + P) ≤ u + S - (u + R) := by omega
          go_wp2_with fail
          refine (awakeR_any _).mono ?_
          rintro e w8 ⟨rfl, hb⟩
          go_wp2_with fail
          go_ret
          exact ⟨rfl, Below.trans B7 (Below.trans (by go_grown) (hb.mono (by (try simp only [World.size_alloc, World.size_setCell, World.size_drew]); omega)))⟩
end Go.Proofs.Ytflajochohbokaa
