/-
  The walk of GunTables.
-/
import Derived.Test.YtangijdonkkglaaGW
import Derived.Test.YtangijdonkkglaaGX
import Derived.Test.YtangijdonkkglaaGK
namespace Go.Proofs.Ytangijdonkkglaa
open Go.RowKit
set_option linter.unusedSimpArgs false
set_option linter.unusedVariables false

def tabN (a : Air) (p : Pt) (T : Nat → Pt) (n : Nat) : Nat := if VA a ∧ tabOk p T n then n else 0
def tabE (a : Air) (p : Pt) (T : Nat → Pt) (n : Nat) : Int := if VA a then (if tabOk p T n then 0 else 7) else 1
theorem tabN_le (a : Air) (p : Pt) (T : Nat → Pt) (n : Nat) : tabN a p T n ≤ 100 := by
  unfold tabN
  split
  · rename_i h; exact h.2.2.1
  · omega
theorem tab_uni {a : Air} {p : Pt} {T : Nat → Pt} {n : Nat} {w : World} {e : Ending} {w' : World} (h : TabPost a p T n w e w') : (∃ A cap, e = .returned (.tuple #[.slice A (tabN a p T n) cap, .int .i64 (tabE a p T n)]) ∧ Spl w' A (tabN a p T n) (fun j => lagP a p (T j))) ∧ Bl w w' := by
  obtain ⟨hb, ⟨ha, hk, A, cap, rfl, _, _, hs⟩ | ⟨ha, hk, rfl⟩ | ⟨ha, rfl⟩⟩ := h
  · have e1 : tabN a p T n = n := if_pos ⟨ha, hk⟩
    have e2 : tabE a p T n = 0 := by unfold tabE; rw [if_pos ha, if_pos hk]
    rw [e1, e2]
    exact ⟨⟨A, cap, rfl, hs⟩, hb⟩
  · have e1 : tabN a p T n = 0 := if_neg (fun g => hk g.2)
    have e2 : tabE a p T n = 7 := by unfold tabE; rw [if_pos ha, if_neg hk]
    rw [e1, e2]
    exact ⟨⟨none, 0, rfl, fun g => absurd g (by omega)⟩, hb⟩
  · have e1 : tabN a p T n = 0 := if_neg (fun g => ha g.1)
    have e2 : tabE a p T n = 1 := by unfold tabE; rw [if_neg ha]
    rw [e1, e2]
    exact ⟨⟨none, 0, rfl, fun g => absurd g (by omega)⟩, hb⟩
def mirN (S : Nat → Sho) (n : Nat) : Nat := if VSh S n then n else 0
def mirE (S : Nat → Sho) (n : Nat) : Int := if VSh S n then 0 else 1
theorem mirN_le (S : Nat → Sho) (n : Nat) : mirN S n ≤ 6 := by
  unfold mirN
  split
  · rename_i h; exact h.2.1
  · omega
theorem mir_uni {S : Nat → Sho} {n : Nat} {w : World} {e : Ending} {w' : World} (h : MirPost S n w e w') : (∃ A cap, e = .returned (.tuple #[.slice A (mirN S n) cap, .int .i64 (mirE S n)]) ∧ Shl w' A (mirN S n) (fun j => mir (S j))) ∧ Bl w w' := by
  obtain ⟨hb, ⟨ha, A, cap, rfl, _, _, hs⟩ | ⟨ha, rfl⟩⟩ := h
  · have e1 : mirN S n = n := if_pos ha
    have e2 : mirE S n = 0 := if_pos ha
    rw [e1, e2]
    exact ⟨⟨A, cap, rfl, hs⟩, hb⟩
  · have e1 : mirN S n = 0 := if_neg ha
    have e2 : mirE S n = 1 := if_neg ha
    rw [e1, e2]
    exact ⟨⟨none, 0, rfl, fun g => absurd g (by omega)⟩, hb⟩

abbrev Sq (w : World) (b0 b1 b o1 o2 : Nat) (a : Air) (g p q : Pt) (X : World) : Prop :=
  Bl w X ∧ X.cell? ⟨b0, 0, none⟩ = some (.int .i64 a.s) ∧ X.cell? ⟨b0, 1, none⟩ = some (.int .i64 a.w) ∧ X.cell? ⟨b1, 0, none⟩ = some (.int .i64 g.x) ∧ X.cell? ⟨b1, 1, none⟩ = some (.int .i64 g.y) ∧ X.cell? ⟨b, o1, none⟩ = some (.int .i64 p.x) ∧ X.cell? ⟨b, o1 + 1, none⟩ = some (.int .i64 p.y) ∧ X.cell? ⟨b, o2, none⟩ = some (.int .i64 q.x) ∧ X.cell? ⟨b, o2 + 1, none⟩ = some (.int .i64 q.y)
theorem Sq.t {w X X' : World} {b0 b1 b o1 o2 : Nat} {a : Air} {g p q : Pt} (h : Sq w b0 b1 b o1 o2 a g p q X) (hb : Bl X X') : Sq w b0 b1 b o1 o2 a g p q X' := by
  obtain ⟨h0, h1, h2, h3, h4, h5, h6, h7, h8⟩ := h
  exact ⟨h0.tr hb, kcb hb h1, kcb hb h2, kcb hb h3, kcb hb h4, kcb hb h5, kcb hb h6, kcb hb h7, kcb hb h8⟩

set_option maxRecDepth 100000 in
set_option maxHeartbeats 3200000 in
theorem tables_walk (a : Air) (G : Option Addr) (m d : Nat) (T : Nat → Pt) (A : Option Addr) (n c : Nat) (S : Nat → Sho) (w : World) (hm : m ≤ maxLen) (hG : Pl w G m T) (hn : n ≤ maxLen) (hA : Shl w A n S) : Calls Try.prog 9 #[encA a, .slice G m d, .slice A n c] w fun e w' => e = .returned (.bool true) ∧ Bl w w' := by
  have HA := Lib.hid hA
  have HN := Lib.hid hn
  have HG := Lib.hid hG
  have HM := Lib.hid hm
  obtain ⟨M', hM'⟩ : ∃ x, x = mirN S n := ⟨_, rfl⟩
  obtain ⟨E', hE'⟩ : ∃ x, x = mirE S n := ⟨_, rfl⟩
  have ml := mirN_le S n
  rw [← hM'] at ml
  have HM' := Lib.hid hM'
  have HE' := Lib.hid hE'
  clear hA hG hM' hE'
  unfold maxLen at hn hm
  by_cases h200 : 200 < m
  · skip
    go_enter Try.func9, Try.ntmps9
    go_wp2_with fail
    refine (awakeG_any _).mono ?_
    rintro q1 w1 ⟨rfl, hb⟩
    have xa0 := kcb hb (b := w.heap.size) (o := 0) (v := .int .i64 a.s) (by first | assumption | (refine cellUp ?_; assumption) | go_cell)
    have xa1 := kcb hb (b := w.heap.size) (o := 1) (v := .int .i64 a.w) (by first | assumption | (refine cellUp ?_; assumption) | go_cell)
    have B1 : Bl w w1 := Below.trans (by go_grown) (hb.mono (by (try simp only [World.size_alloc, World.size_setCell]); omega))
    have l1 := ltb xa1
    have zz1 := B1.size
    clear hb
    go_wp2_with fail
    go_ret
    exact ⟨rfl, by go_grown⟩
  by_cases h50 : n ≤ 50
  rotate_left
  · have Q0 := Lib.hid (show decide (n ≤ 50) = false from decide_eq_false h50)
    go_enter Try.func9, Try.ntmps9
    go_wp2_with fail
    refine (few_any A n c _ HN.out).mono ?_
    rintro q1 w1 ⟨rfl, hb⟩
    have xa0 := kcb hb (b := w.heap.size) (o := 0) (v := .int .i64 a.s) (by first | assumption | (refine cellUp ?_; assumption) | go_cell)
    have xa1 := kcb hb (b := w.heap.size) (o := 1) (v := .int .i64 a.w) (by first | assumption | (refine cellUp ?_; assumption) | go_cell)
    have B1 : Bl w w1 := Below.trans (by go_grown) (hb.mono (by (try simp only [World.size_alloc, World.size_setCell]); omega))
    have l1 := ltb xa1
    have zz1 := B1.size
    clear hb
    rw [Q0.out]
    go_wp2_with fail
    refine (awakeG_any _).mono ?_
    rintro q2 w2 ⟨rfl, hb⟩
    have xa0 := kcb hb (b := w.heap.size) (o := 0) (v := .int .i64 a.s) (by first | assumption | (refine cellUp ?_; assumption) | go_cell)
    have xa1 := kcb hb (b := w.heap.size) (o := 1) (v := .int .i64 a.w) (by first | assumption | (refine cellUp ?_; assumption) | go_cell)
    have B2 : Bl w w2 := Below.trans (by go_grown) (hb.mono (by (try simp only [World.size_alloc, World.size_setCell]); omega))
    have l2 := ltb xa1
    have zz2 := B2.size
    clear hb
    go_wp2_with fail
    go_ret
    exact ⟨rfl, by go_grown⟩
  have Q0 := Lib.hid (show decide (n ≤ 50) = true from decide_eq_true h50)
  by_cases h0 : 0 < m
  · skip
    obtain ⟨b, off, rfl, hbb, hc⟩ := HG.out h0
    obtain ⟨y, hy⟩ : ∃ y, y = T 0 := ⟨_, rfl⟩
    obtain ⟨c0, c1⟩ := hc 0 h0
    rw [← hy] at c0 c1
    simp only [Nat.zero_mul, Nat.add_zero] at c0 c1
    clear hc hy
    obtain ⟨N', hN'⟩ : ∃ x, x = tabN a y T m := ⟨_, rfl⟩
    obtain ⟨F', hF'⟩ : ∃ x, x = tabE a y T m := ⟨_, rfl⟩
    have nl := tabN_le a y T m
    rw [← hN'] at nl
    have HN' := Lib.hid hN'
    have HF' := Lib.hid hF'
    clear hN' hF'
    go_enter Try.func9, Try.ntmps9
    go_wp2_with fail
    refine (few_any A n c _ HN.out).mono ?_
    rintro q1 w1 ⟨rfl, hb⟩
    have xa0 := kcb hb (b := w.heap.size) (o := 0) (v := .int .i64 a.s) (by first | assumption | (refine cellUp ?_; assumption) | go_cell)
    have xa1 := kcb hb (b := w.heap.size) (o := 1) (v := .int .i64 a.w) (by first | assumption | (refine cellUp ?_; assumption) | go_cell)
    have B1 : Bl w w1 := Below.trans (by go_grown) (hb.mono (by (try simp only [World.size_alloc, World.size_setCell]); omega))
    have l1 := ltb xa1
    have zz1 := B1.size
    clear hb
    rw [Q0.out]
    have c0 := kcb B1 c0
    have c1 := kcb B1 c1
    have lb1 := ltb c0
    go_wp2_with fail
    refine ((Table_any a y (some ⟨b, off, none⟩) m d T _ (HG.out.below (by go_grown)) HM.out).mono (fun _ _ h => tab_uni h)).mono ?_
    rintro q2 w2 ⟨⟨L1, cap1, rfl, hL1⟩, hb⟩
    have xa0 := kcb hb (b := w.heap.size) (o := 0) (v := .int .i64 a.s) (by first | assumption | (refine cellUp ?_; assumption) | go_cell)
    have xa1 := kcb hb (b := w.heap.size) (o := 1) (v := .int .i64 a.w) (by first | assumption | (refine cellUp ?_; assumption) | go_cell)
    have y0 := kcb hb (b := w1.heap.size) (o := 0) (v := .int .i64 y.x) (by first | assumption | (refine cellUp ?_; assumption) | go_cell)
    have y1 := kcb hb (b := w1.heap.size) (o := 1) (v := .int .i64 y.y) (by first | assumption | (refine cellUp ?_; assumption) | go_cell)
    have B2 : Bl w w2 := Below.trans (by go_grown) (hb.mono (by (try simp only [World.size_alloc, World.size_setCell]); omega))
    have l2 := ltb y1
    have l2_1 := ltb xa1
    have zz2 := B2.size
    clear hb
    rw [← HN'.out] at hL1
    rw [← HN'.out, ← HF'.out]
    have HL1 := Lib.hid hL1
    clear hL1
    go_wp2_with fail
    refine ((rTable_any a y (some ⟨b, off, none⟩) m d T _ (HG.out.below (by exact B2)) HM.out).mono (fun _ _ h => tab_uni h)).mono ?_
    rintro q3 w3 ⟨⟨L2, cap2, rfl, hL2⟩, hb⟩
    have xa0 := kcb hb (b := w.heap.size) (o := 0) (v := .int .i64 a.s) (by first | assumption | (refine cellUp ?_; assumption) | go_cell)
    have xa1 := kcb hb (b := w.heap.size) (o := 1) (v := .int .i64 a.w) (by first | assumption | (refine cellUp ?_; assumption) | go_cell)
    have y0 := kcb hb (b := w1.heap.size) (o := 0) (v := .int .i64 y.x) (by first | assumption | (refine cellUp ?_; assumption) | go_cell)
    have y1 := kcb hb (b := w1.heap.size) (o := 1) (v := .int .i64 y.y) (by first | assumption | (refine cellUp ?_; assumption) | go_cell)
    have B3 : Bl w w3 := Below.trans (by go_grown) (hb.mono (by (try simp only [World.size_alloc, World.size_setCell]); omega))
    have l3 := ltb y1
    have l3_1 := ltb xa1
    have zz3 := B3.size
    have HL1 := Lib.hid (HL1.out.below hb)
    clear hb
    rw [← HN'.out] at hL2
    rw [← HN'.out, ← HF'.out]
    have HL2 := Lib.hid hL2
    clear hL2
    go_wp2_with fail
    refine ((Mirrored_any A n c S _ (HA.out.below (by exact B3)) HN.out).mono (fun _ _ h => mir_uni h)).mono ?_
    rintro q4 w4 ⟨⟨K1, kap1, rfl, hK1⟩, hb⟩
    have xa0 := kcb hb (b := w.heap.size) (o := 0) (v := .int .i64 a.s) (by first | assumption | (refine cellUp ?_; assumption) | go_cell)
    have xa1 := kcb hb (b := w.heap.size) (o := 1) (v := .int .i64 a.w) (by first | assumption | (refine cellUp ?_; assumption) | go_cell)
    have y0 := kcb hb (b := w1.heap.size) (o := 0) (v := .int .i64 y.x) (by first | assumption | (refine cellUp ?_; assumption) | go_cell)
    have y1 := kcb hb (b := w1.heap.size) (o := 1) (v := .int .i64 y.y) (by first | assumption | (refine cellUp ?_; assumption) | go_cell)
    have B4 : Bl w w4 := Below.trans (by go_grown) (hb.mono (by (try simp only [World.size_alloc, World.size_setCell]); omega))
    have l4 := ltb y1
    have l4_1 := ltb xa1
    have zz4 := B4.size
    have HL1 := Lib.hid (HL1.out.below hb)
    have HL2 := Lib.hid (HL2.out.below hb)
    clear hb
    rw [← HM'.out] at hK1
    rw [← HM'.out, ← HE'.out]
    have HK1 := Lib.hid hK1
    clear hK1
    go_wp2_with fail
    refine ((rMirrored_any A n c S _ (HA.out.below (by exact B4)) HN.out).mono (fun _ _ h => mir_uni h)).mono ?_
    rintro q5 w5 ⟨⟨K2, kap2, rfl, hK2⟩, hb⟩
    have xa0 := kcb hb (b := w.heap.size) (o := 0) (v := .int .i64 a.s) (by first | assumption | (refine cellUp ?_; assumption) | go_cell)
    have xa1 := kcb hb (b := w.heap.size) (o := 1) (v := .int .i64 a.w) (by first | assumption | (refine cellUp ?_; assumption) | go_cell)
    have y0 := kcb hb (b := w1.heap.size) (o := 0) (v := .int .i64 y.x) (by first | assumption | (refine cellUp ?_; assumption) | go_cell)
    have y1 := kcb hb (b := w1.heap.size) (o := 1) (v := .int .i64 y.y) (by first | assumption | (refine cellUp ?_; assumption) | go_cell)
    have B5 : Bl w w5 := Below.trans (by go_grown) (hb.mono (by (try simp only [World.size_alloc, World.size_setCell]); omega))
    have l5 := ltb y1
    have l5_1 := ltb xa1
    have zz5 := B5.size
    have HL1 := Lib.hid (HL1.out.below hb)
    have HL2 := Lib.hid (HL2.out.below hb)
    have HK1 := Lib.hid (HK1.out.below hb)
    clear hb
    rw [← HM'.out] at hK2
    rw [← HM'.out, ← HE'.out]
    have HK2 := Lib.hid hK2
    clear hK2
    go_wp2_with fail
    refine (sameSpans_any L1 N' cap1 L2 cap2 _ _ (by unfold maxLen; omega) HL1.out HL2.out).mono ?_
    rintro q6 w6 ⟨rfl, hb⟩
    have xa0 := kcb hb (b := w.heap.size) (o := 0) (v := .int .i64 a.s) (by first | assumption | (refine cellUp ?_; assumption) | go_cell)
    have xa1 := kcb hb (b := w.heap.size) (o := 1) (v := .int .i64 a.w) (by first | assumption | (refine cellUp ?_; assumption) | go_cell)
    have y0 := kcb hb (b := w1.heap.size) (o := 0) (v := .int .i64 y.x) (by first | assumption | (refine cellUp ?_; assumption) | go_cell)
    have y1 := kcb hb (b := w1.heap.size) (o := 1) (v := .int .i64 y.y) (by first | assumption | (refine cellUp ?_; assumption) | go_cell)
    have B6 : Bl w w6 := Below.trans (by go_grown) (hb.mono (by (try simp only [World.size_alloc, World.size_setCell]); omega))
    have l6 := ltb y1
    have l6_1 := ltb xa1
    have zz6 := B6.size
    have HK1 := Lib.hid (HK1.out.below hb)
    have HK2 := Lib.hid (HK2.out.below hb)
    clear hb
    go_wp2_with fail
    refine (sameShots_any K1 M' kap1 K2 kap2 _ _ (by unfold maxLen; omega) HK1.out HK2.out).mono ?_
    rintro q7 w7 ⟨rfl, hb⟩
    have xa0 := kcb hb (b := w.heap.size) (o := 0) (v := .int .i64 a.s) (by first | assumption | (refine cellUp ?_; assumption) | go_cell)
    have xa1 := kcb hb (b := w.heap.size) (o := 1) (v := .int .i64 a.w) (by first | assumption | (refine cellUp ?_; assumption) | go_cell)
    have y0 := kcb hb (b := w1.heap.size) (o := 0) (v := .int .i64 y.x) (by first | assumption | (refine cellUp ?_; assumption) | go_cell)
    have y1 := kcb hb (b := w1.heap.size) (o := 1) (v := .int .i64 y.y) (by first | assumption | (refine cellUp ?_; assumption) | go_cell)
    have B7 : Bl w w7 := Below.trans (by go_grown) (hb.mono (by (try simp only [World.size_alloc, World.size_setCell]); omega))
    have l7 := ltb y1
    have l7_1 := ltb xa1
    have zz7 := B7.size
    clear hb
    go_wp2_with fail
    obtain ⟨V, hV⟩ : ∃ V, V = w7 := ⟨_, rfl⟩
    rw [← hV]
    have va0 : V.cell? ⟨w.heap.size, 0, none⟩ = some (.int .i64 a.s) := by rw [hV]; exact xa0
    have va1 : V.cell? ⟨w.heap.size, 1, none⟩ = some (.int .i64 a.w) := by rw [hV]; exact xa1
    have vy0 : V.cell? ⟨w1.heap.size, 0, none⟩ = some (.int .i64 y.x) := by rw [hV]; exact y0
    have vy1 : V.cell? ⟨w1.heap.size, 1, none⟩ = some (.int .i64 y.y) := by rw [hV]; exact y1
    have BV : Bl w V := by rw [hV]; exact B7
    clear hV xa0 xa1 y0 y1 c0 c1
    go_loopw [16] (fun i wr => ∃ k : Nat, 1 ≤ k ∧ k ≤ 20 ∧ k ≤ m + 1 ∧ i = .int .i64 k ∧ wr.cell? ⟨w.heap.size, 0, none⟩ = some (.int .i64 a.s) ∧ wr.cell? ⟨w.heap.size, 1, none⟩ = some (.int .i64 a.w) ∧ wr.cell? ⟨w1.heap.size, 0, none⟩ = some (.int .i64 y.x) ∧ wr.cell? ⟨w1.heap.size, 1, none⟩ = some (.int .i64 y.y) ∧ Bl w wr) (fun i _ => 20 - (RowKit.intOf i).toNat)
    case atStart => exact ⟨1, by omega, by omega, by omega, rfl, va0, va1, vy0, vy1, BV⟩
    case round =>
      obtain ⟨k, k1, k20, km, rfl, ca0, ca1, cy0, cy1, hB⟩ := hrel
      have zB := hB.size
      have la := ltb ca0
      have ly := ltb cy0
      by_cases hlt : k < m ∧ k < 20
      · obtain ⟨hk1, hk2⟩ := hlt
        obtain ⟨b', off', eG, hbb', hc⟩ := (HG.out.below hB) h0
        obtain ⟨rfl, rfl⟩ : b = b' ∧ off = off' := by injection eG with e; injection e with e1 e2; exact ⟨e1, e2⟩
        obtain ⟨j, hj⟩ : ∃ j, j = k - 1 := ⟨_, rfl⟩
        obtain ⟨p, hp⟩ : ∃ p, p = T j := ⟨_, rfl⟩
        obtain ⟨q, hq⟩ : ∃ p, p = T k := ⟨_, rfl⟩
        obtain ⟨d0, d1⟩ := hc j (by omega)
        obtain ⟨e0, e1⟩ := hc k hk1
        rw [← hp] at d0 d1
        rw [← hq] at e0 e1
        obtain ⟨r1, r2', hr⟩ : ∃ r1 r2, aliR a y p q = (r1, r2) := ⟨_, _, rfl⟩
        have HR := Lib.hid hr
        clear hc hp hq hr eG
        have S0 : Sq wr w.heap.size w1.heap.size b (off + j * 2) (off + k * 2) a y p q wr := ⟨Bl.rf _, ca0, ca1, cy0, cy1, d0, d1, e0, e1⟩
        have HS0 := Lib.hid S0
        have j1 : (1 : Int) ≤ (k : Int) := by omega
        have j2 : (k : Int) < (m : Int) := by omega
        have j3 : (k : Int) < 20 := by omega
        have j4 : (0 : Int) ≤ (j : Int) := by omega
        have j5 : (j : Int) < (m : Int) := by omega
        have j6 : j < m := by omega
        have j7 : ¬ m ≤ j := by omega
        have j8 : ¬ m ≤ k := by omega
        have f1 : (0 : Int) ≤ (k : Int) - 1 := by omega
        have f2 : (k : Int) - 1 < (m : Int) := by omega
        have f4 : ((k : Int) - 1).toNat = j := by omega
        have f5 : (k : Int).toNat = k := by omega
        have ek : IntKind.i64.wrap ((k : Int) - 1) = (k : Int) - 1 := IntWalk.i64_in _ (by omega)
        have HJ := Lib.hid hj
        clear hj
        clear d0 d1 e0 e1 ca0 ca1 cy0 cy1 S0
        go_wp2_with fail
        go_region_held3 (fun w' => Bl wr w' ∧ w'.cell? ⟨w.heap.size, 0, none⟩ = some (.int .i64 a.s) ∧ w'.cell? ⟨w.heap.size, 1, none⟩ = some (.int .i64 a.w) ∧ w'.cell? ⟨w1.heap.size, 0, none⟩ = some (.int .i64 y.x) ∧ w'.cell? ⟨w1.heap.size, 1, none⟩ = some (.int .i64 y.y) ∧ w'.cell? ⟨b, off + j * 2, none⟩ = some (.int .i64 p.x) ∧ w'.cell? ⟨b, off + j * 2 + 1, none⟩ = some (.int .i64 p.y) ∧ w'.cell? ⟨b, off + k * 2, none⟩ = some (.int .i64 q.x) ∧ w'.cell? ⟨b, off + k * 2 + 1, none⟩ = some (.int .i64 q.y)) (first | exact Sq.t HS0.out (Bl.dr _ 1) | exact Sq.t (by assumption) hh0) (first | (go_at_call 49; refine (Alike_any a y p q _).mono ?_; rintro e v0 ⟨rfl, hh0⟩; rw [HR.out]; unfold rB))
        rename_i hHeld
        have HH := Lib.hid hHeld
        clear hHeld
        go_wp2_with fail
        go_region_held3 (fun w' => Bl wr w' ∧ w'.cell? ⟨w.heap.size, 0, none⟩ = some (.int .i64 a.s) ∧ w'.cell? ⟨w.heap.size, 1, none⟩ = some (.int .i64 a.w) ∧ w'.cell? ⟨w1.heap.size, 0, none⟩ = some (.int .i64 y.x) ∧ w'.cell? ⟨w1.heap.size, 1, none⟩ = some (.int .i64 y.y) ∧ w'.cell? ⟨b, off + j * 2, none⟩ = some (.int .i64 p.x) ∧ w'.cell? ⟨b, off + j * 2 + 1, none⟩ = some (.int .i64 p.y) ∧ w'.cell? ⟨b, off + k * 2, none⟩ = some (.int .i64 q.x) ∧ w'.cell? ⟨b, off + k * 2 + 1, none⟩ = some (.int .i64 q.y)) (first | exact Sq.t HH.out (Bl.dr _ 1) | exact Sq.t (by assumption) hh1) (first | (go_at_call 50; refine (rAlike_any a y p q _).mono ?_; rintro e v1 ⟨rfl, hh1⟩; rw [HR.out]; unfold rB))
        rename_i hHeld2
        have HH2 := Lib.hid hHeld2
        clear hHeld2
        go_wp2_with fail
        go_roundw
        case rel => exact ⟨k + 1, by omega, by omega, by omega, by go_num, HH2.out.2.1, HH2.out.2.2.1, HH2.out.2.2.2.1, HH2.out.2.2.2.2.1, hB.tr HH2.out.1⟩
        case measure => simp [RowKit.intOf]; omega
      · have hlt2 : m ≤ k ∨ (k < m ∧ 20 ≤ k) := by omega
        rcases hlt2 with hlt2 | ⟨hlt2, hlt3⟩
        all_goals
          go_wp2_with fail
          refine (awakeG_any _).mono ?_
          rintro q9 w9 ⟨rfl, hb⟩
          have B9 := hB.tr hb
          clear hb
          go_wp2_with fail
          go_ret
          exact ⟨rfl, B9⟩
  · skip
    obtain rfl : m = 0 := by omega
    obtain ⟨N', hN'⟩ : ∃ x, x = tabN a ⟨0, 0⟩ T 0 := ⟨_, rfl⟩
    obtain ⟨F', hF'⟩ : ∃ x, x = tabE a ⟨0, 0⟩ T 0 := ⟨_, rfl⟩
    have nl := tabN_le a ⟨0, 0⟩ T 0
    rw [← hN'] at nl
    have HN' := Lib.hid hN'
    have HF' := Lib.hid hF'
    clear hN' hF'
    go_enter Try.func9, Try.ntmps9
    go_wp2_with fail
    refine (few_any A n c _ HN.out).mono ?_
    rintro q1 w1 ⟨rfl, hb⟩
    have xa0 := kcb hb (b := w.heap.size) (o := 0) (v := .int .i64 a.s) (by first | assumption | (refine cellUp ?_; assumption) | go_cell)
    have xa1 := kcb hb (b := w.heap.size) (o := 1) (v := .int .i64 a.w) (by first | assumption | (refine cellUp ?_; assumption) | go_cell)
    have B1 : Bl w w1 := Below.trans (by go_grown) (hb.mono (by (try simp only [World.size_alloc, World.size_setCell]); omega))
    have l1 := ltb xa1
    have zz1 := B1.size
    clear hb
    rw [Q0.out]
    go_wp2_with fail
    refine ((Table_any a ⟨0, 0⟩ G 0 d T _ (HG.out.below (by go_grown)) HM.out).mono (fun _ _ h => tab_uni h)).mono ?_
    rintro q2 w2 ⟨⟨L1, cap1, rfl, hL1⟩, hb⟩
    have xa0 := kcb hb (b := w.heap.size) (o := 0) (v := .int .i64 a.s) (by first | assumption | (refine cellUp ?_; assumption) | go_cell)
    have xa1 := kcb hb (b := w.heap.size) (o := 1) (v := .int .i64 a.w) (by first | assumption | (refine cellUp ?_; assumption) | go_cell)
    have y0 := kcb hb (b := w1.heap.size) (o := 0) (v := .int .i64 0) (by first | assumption | (refine cellUp ?_; assumption) | go_cell)
    have y1 := kcb hb (b := w1.heap.size) (o := 1) (v := .int .i64 0) (by first | assumption | (refine cellUp ?_; assumption) | go_cell)
    have B2 : Bl w w2 := Below.trans (by go_grown) (hb.mono (by (try simp only [World.size_alloc, World.size_setCell]); omega))
    have l2 := ltb y1
    have l2_1 := ltb xa1
    have zz2 := B2.size
    clear hb
    rw [← HN'.out] at hL1
    rw [← HN'.out, ← HF'.out]
    have HL1 := Lib.hid hL1
    clear hL1
    go_wp2_with fail
    refine ((rTable_any a ⟨0, 0⟩ G 0 d T _ (HG.out.below (by exact B2)) HM.out).mono (fun _ _ h => tab_uni h)).mono ?_
    rintro q3 w3 ⟨⟨L2, cap2, rfl, hL2⟩, hb⟩
    have xa0 := kcb hb (b := w.heap.size) (o := 0) (v := .int .i64 a.s) (by first | assumption | (refine cellUp ?_; assumption) | go_cell)
    have xa1 := kcb hb (b := w.heap.size) (o := 1) (v := .int .i64 a.w) (by first | assumption | (refine cellUp ?_; assumption) | go_cell)
    have y0 := kcb hb (b := w1.heap.size) (o := 0) (v := .int .i64 0) (by first | assumption | (refine cellUp ?_; assumption) | go_cell)
    have y1 := kcb hb (b := w1.heap.size) (o := 1) (v := .int .i64 0) (by first | assumption | (refine cellUp ?_; assumption) | go_cell)
    have B3 : Bl w w3 := Below.trans (by go_grown) (hb.mono (by (try simp only [World.size_alloc, World.size_setCell]); omega))
    have l3 := ltb y1
    have l3_1 := ltb xa1
    have zz3 := B3.size
    have HL1 := Lib.hid (HL1.out.below hb)
    clear hb
    rw [← HN'.out] at hL2
    rw [← HN'.out, ← HF'.out]
    have HL2 := Lib.hid hL2
    clear hL2
    go_wp2_with fail
    refine ((Mirrored_any A n c S _ (HA.out.below (by exact B3)) HN.out).mono (fun _ _ h => mir_uni h)).mono ?_
    rintro q4 w4 ⟨⟨K1, kap1, rfl, hK1⟩, hb⟩
    have xa0 := kcb hb (b := w.heap.size) (o := 0) (v := .int .i64 a.s) (by first | assumption | (refine cellUp ?_; assumption) | go_cell)
    have xa1 := kcb hb (b := w.heap.size) (o := 1) (v := .int .i64 a.w) (by first | assumption | (refine cellUp ?_; assumption) | go_cell)
    have y0 := kcb hb (b := w1.heap.size) (o := 0) (v := .int .i64 0) (by first | assumption | (refine cellUp ?_; assumption) | go_cell)
    have y1 := kcb hb (b := w1.heap.size) (o := 1) (v := .int .i64 0) (by first | assumption | (refine cellUp ?_; assumption) | go_cell)
    have B4 : Bl w w4 := Below.trans (by go_grown) (hb.mono (by (try simp only [World.size_alloc, World.size_setCell]); omega))
    have l4 := ltb y1
    have l4_1 := ltb xa1
    have zz4 := B4.size
    have HL1 := Lib.hid (HL1.out.below hb)
    have HL2 := Lib.hid (HL2.out.below hb)
    clear hb
    rw [← HM'.out] at hK1
    rw [← HM'.out, ← HE'.out]
    have HK1 := Lib.hid hK1
    clear hK1
    go_wp2_with fail
    refine ((rMirrored_any A n c S _ (HA.out.below (by exact B4)) HN.out).mono (fun _ _ h => mir_uni h)).mono ?_
    rintro q5 w5 ⟨⟨K2, kap2, rfl, hK2⟩, hb⟩
    have xa0 := kcb hb (b := w.heap.size) (o := 0) (v := .int .i64 a.s) (by first | assumption | (refine cellUp ?_; assumption) | go_cell)
    have xa1 := kcb hb (b := w.heap.size) (o := 1) (v := .int .i64 a.w) (by first | assumption | (refine cellUp ?_; assumption) | go_cell)
    have y0 := kcb hb (b := w1.heap.size) (o := 0) (v := .int .i64 0) (by first | assumption | (refine cellUp ?_; assumption) | go_cell)
    have y1 := kcb hb (b := w1.heap.size) (o := 1) (v := .int .i64 0) (by first | assumption | (refine cellUp ?_; assumption) | go_cell)
    have B5 : Bl w w5 := Below.trans (by go_grown) (hb.mono (by (try simp only [World.size_alloc, World.size_setCell]); omega))
    have l5 := ltb y1
    have l5_1 := ltb xa1
    have zz5 := B5.size
    have HL1 := Lib.hid (HL1.out.below hb)
    have HL2 := Lib.hid (HL2.out.below hb)
    have HK1 := Lib.hid (HK1.out.below hb)
    clear hb
    rw [← HM'.out] at hK2
    rw [← HM'.out, ← HE'.out]
    have HK2 := Lib.hid hK2
    clear hK2
    go_wp2_with fail
    refine (sameSpans_any L1 N' cap1 L2 cap2 _ _ (by unfold maxLen; omega) HL1.out HL2.out).mono ?_
    rintro q6 w6 ⟨rfl, hb⟩
    have xa0 := kcb hb (b := w.heap.size) (o := 0) (v := .int .i64 a.s) (by first | assumption | (refine cellUp ?_; assumption) | go_cell)
    have xa1 := kcb hb (b := w.heap.size) (o := 1) (v := .int .i64 a.w) (by first | assumption | (refine cellUp ?_; assumption) | go_cell)
    have y0 := kcb hb (b := w1.heap.size) (o := 0) (v := .int .i64 0) (by first | assumption | (refine cellUp ?_; assumption) | go_cell)
    have y1 := kcb hb (b := w1.heap.size) (o := 1) (v := .int .i64 0) (by first | assumption | (refine cellUp ?_; assumption) | go_cell)
    have B6 : Bl w w6 := Below.trans (by go_grown) (hb.mono (by (try simp only [World.size_alloc, World.size_setCell]); omega))
    have l6 := ltb y1
    have l6_1 := ltb xa1
    have zz6 := B6.size
    have HK1 := Lib.hid (HK1.out.below hb)
    have HK2 := Lib.hid (HK2.out.below hb)
    clear hb
    go_wp2_with fail
    refine (sameShots_any K1 M' kap1 K2 kap2 _ _ (by unfold maxLen; omega) HK1.out HK2.out).mono ?_
    rintro q7 w7 ⟨rfl, hb⟩
    have xa0 := kcb hb (b := w.heap.size) (o := 0) (v := .int .i64 a.s) (by first | assumption | (refine cellUp ?_; assumption) | go_cell)
    have xa1 := kcb hb (b := w.heap.size) (o := 1) (v := .int .i64 a.w) (by first | assumption | (refine cellUp ?_; assumption) | go_cell)
    have y0 := kcb hb (b := w1.heap.size) (o := 0) (v := .int .i64 0) (by first | assumption | (refine cellUp ?_; assumption) | go_cell)
    have y1 := kcb hb (b := w1.heap.size) (o := 1) (v := .int .i64 0) (by first | assumption | (refine cellUp ?_; assumption) | go_cell)
    have B7 : Bl w w7 := Below.trans (by go_grown) (hb.mono (by (try simp only [World.size_alloc, World.size_setCell]); omega))
    have l7 := ltb y1
    have l7_1 := ltb xa1
    have zz7 := B7.size
    clear hb
    go_wp2_with fail
    go_loopw [16] (fun i wr => i = .int .i64 1 ∧ wr = w7) (fun _ _ => 0)
    case atStart => exact ⟨rfl, rfl⟩
    case round =>
      obtain ⟨rfl, rfl⟩ := hrel
      go_wp2_with fail
      refine (awakeG_any _).mono ?_
      rintro q8 w8 ⟨rfl, hb⟩
      have xa0 := kcb hb (b := w.heap.size) (o := 0) (v := .int .i64 a.s) (by first | assumption | (refine cellUp ?_; assumption) | go_cell)
      have xa1 := kcb hb (b := w.heap.size) (o := 1) (v := .int .i64 a.w) (by first | assumption | (refine cellUp ?_; assumption) | go_cell)
      have y0 := kcb hb (b := w1.heap.size) (o := 0) (v := .int .i64 0) (by first | assumption | (refine cellUp ?_; assumption) | go_cell)
      have y1 := kcb hb (b := w1.heap.size) (o := 1) (v := .int .i64 0) (by first | assumption | (refine cellUp ?_; assumption) | go_cell)
      have B8 : Bl w w8 := Below.trans (by go_grown) (hb.mono (by (try simp only [World.size_alloc, World.size_setCell]); omega))
      have l8 := ltb y1
      have l8_1 := ltb xa1
      have zz8 := B8.size
      clear hb
      go_wp2_with fail
      go_ret
      exact ⟨rfl, by go_grown⟩
end Go.Proofs.Ytangijdonkkglaa
