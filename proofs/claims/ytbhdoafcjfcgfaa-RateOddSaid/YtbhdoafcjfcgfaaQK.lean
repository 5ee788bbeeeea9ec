/-
  Contracts of package rate and of its reference: Odd.
-/
import Derived.Test.YtbhdoafcjfcgfaaQJ
import Derived.Deep.RegionLaw
import Derived.Deep.RegionHeld3
namespace Go.Proofs.Ytbhdoafcjfcgfaa
open Go.RowKit
set_option linter.unusedSimpArgs false
set_option linter.unusedVariables false

def odd3 (p q r : Int) : Int × Int := if p < q ∧ p < r then (0, 0) else if q < r ∧ q < p then (1, 0) else if r < p ∧ r < q then (2, 0) else (0, 8)
/-- What Odd returns. -/
def oddR (R : Nat → Bx) (n : Nat) : Int × Int :=
  if vbsB R n = false then (0, 1) else if ¬ (n = 3 ∧ (R 0).n = (R 1).n ∧ (R 0).n = (R 2).n) then (0, 7)
  else odd3 (plF (R 1).E (R 2).E (R 0).n) (plF (R 0).E (R 2).E (R 0).n) (plF (R 0).E (R 1).E (R 0).n)
theorem oddR_bad {R : Nat → Bx} {n : Nat} (h : vbsB R n = false) : oddR R n = (0, 1) := if_pos h
theorem oddR_rng {R : Nat → Bx} {n : Nat} (h : vbsB R n = true) (h2 : ¬ (n = 3 ∧ (R 0).n = (R 1).n ∧ (R 0).n = (R 2).n)) : oddR R n = (0, 7) := by rw [oddR, if_neg (by rw [h]; decide), if_pos h2]
theorem oddR_ok {R : Nat → Bx} {n : Nat} (h : vbsB R n = true) (h2 : n = 3 ∧ (R 0).n = (R 1).n ∧ (R 0).n = (R 2).n) : oddR R n = odd3 (plF (R 1).E (R 2).E (R 0).n) (plF (R 0).E (R 2).E (R 0).n) (plF (R 0).E (R 1).E (R 0).n) := by
  rw [oddR, if_neg (by rw [h]; decide), if_neg (fun q => q h2)]
/-- Three boxes lie one behind the other. -/
def B3 (W : World) (b off : Nat) (x0 x1 x2 : Bx) : Prop :=
  (W.cell? ⟨b, off, none⟩ = some (.string x0.s) ∧ W.cell? ⟨b, off + 1, none⟩ = some (.slice x0.A x0.n x0.c)) ∧ (W.cell? ⟨b, off + 2, none⟩ = some (.string x1.s) ∧ W.cell? ⟨b, off + 2 + 1, none⟩ = some (.slice x1.A x1.n x1.c)) ∧
  (W.cell? ⟨b, off + 4, none⟩ = some (.string x2.s) ∧ W.cell? ⟨b, off + 4 + 1, none⟩ = some (.slice x2.A x2.n x2.c))
theorem B3.below {W W' : World} {b off : Nat} {x0 x1 x2 : Bx} (h : B3 W b off x0 x1 x2) (hb : Bl W W') : B3 W' b off x0 x1 x2 := by
  obtain ⟨⟨a, b⟩, ⟨c, d⟩, e, f⟩ := h
  exact ⟨⟨kcb hb a, kcb hb b⟩, ⟨kcb hb c, kcb hb d⟩, kcb hb e, kcb hb f⟩
theorem b3_of {w : World} {A : Option Addr} {R : Nat → Bx} (h : Bxl w A 3 R) : ∃ b off, A = some ⟨b, off, none⟩ ∧ b < w.heap.size ∧ B3 w b off (R 0) (R 1) (R 2) := by
  obtain ⟨b, off, e, hl, hc⟩ := h (by omega)
  exact ⟨b, off, e, hl, hc 0 (by omega), hc 1 (by omega), hc 2 (by omega)⟩
theorem odd3_0 {p q r : Int} (h : p < q) (g : p < r) : odd3 p q r = (0, 0) := if_pos ⟨h, g⟩
theorem odd3_1 {p q r : Int} (h : q < r) (g : q < p) : odd3 p q r = (1, 0) := by rw [odd3, if_neg (by omega), if_pos ⟨h, g⟩]
theorem odd3_2 {p q r : Int} (h : r < p) (g : r < q) : odd3 p q r = (2, 0) := by rw [odd3, if_neg (by omega), if_neg (by omega), if_pos ⟨h, g⟩]
theorem odd3_n {p q r : Int} (h0 : ¬ (p < q ∧ p < r)) (h1 : ¬ (q < r ∧ q < p)) (h2 : ¬ (r < p ∧ r < q)) : odd3 p q r = (0, 8) := by rw [odd3, if_neg h0, if_neg h1, if_neg h2]
/-- The array of plays behind k rounds. -/
def OA (W : World) (B k : Nat) (p q r : Int) : Prop :=
  W.cell? ⟨B, 0, none⟩ = some (.int .i64 (if 0 < k then p else 0)) ∧ W.cell? ⟨B, 1, none⟩ = some (.int .i64 (if 1 < k then q else 0)) ∧ W.cell? ⟨B, 2, none⟩ = some (.int .i64 (if 2 < k then r else 0)) ∧
  W.frozen? ⟨B, 0, none⟩ = false ∧ W.frozen? ⟨B, 1, none⟩ = false ∧ W.frozen? ⟨B, 2, none⟩ = false
theorem OA.below {W W' : World} {B k : Nat} {p q r : Int} (h : OA W B k p q r) (hb : Bl W W') : OA W' B k p q r := by
  obtain ⟨a, b, c, d, e, f⟩ := h
  have l := ltb a
  exact ⟨kcb hb a, kcb hb b, kcb hb c, fzb hb d l, fzb hb e l, fzb hb f l⟩
theorem OA.set0 {W : World} {B : Nat} {p q r : Int} (h : OA W B 0 p q r) : OA (W.setCell ⟨B, 0, none⟩ (.int .i64 p)) B 1 p q r := by
  obtain ⟨a, b, c, d, e, f⟩ := h
  have l := ltb a
  simp at a b c
  unfold OA
  simp only [World.frozen?_setCell]
  exact ⟨by simp; go_cell, by simp; go_cell, by simp; go_cell, d, e, f⟩
theorem OA.set1 {W : World} {B : Nat} {p q r : Int} (h : OA W B 1 p q r) : OA (W.setCell ⟨B, 1, none⟩ (.int .i64 q)) B 2 p q r := by
  obtain ⟨a, b, c, d, e, f⟩ := h
  have l := ltb a
  simp at a b c
  unfold OA
  simp only [World.frozen?_setCell]
  exact ⟨by simp; go_cell, by simp; go_cell, by simp; go_cell, d, e, f⟩
theorem OA.set2 {W : World} {B : Nat} {p q r : Int} (h : OA W B 2 p q r) : OA (W.setCell ⟨B, 2, none⟩ (.int .i64 r)) B 3 p q r := by
  obtain ⟨a, b, c, d, e, f⟩ := h
  have l := ltb a
  simp at a b c
  unfold OA
  simp only [World.frozen?_setCell]
  exact ⟨by simp; go_cell, by simp; go_cell, by simp; go_cell, d, e, f⟩
theorem blset {w W : World} {B o : Nat} {v : Value} (h : Bl w W) (hB : w.heap.size ≤ B) : Bl w (W.setCell ⟨B, o, none⟩ v) :=
  Below.grown h (row := some B) ⟨rfl, rfl, rfl, (KeepsWalks.setCell W _ v).size, fun k _ hk => Below.heap_setCell _ _ _ k (fun e => hk (by rw [e]))⟩ h.size (fun j e => by cases e; exact hB)
theorem three_calls {P : Program} {fn : Nat} {a b c d e f : Value} {p q r : Int} {w X : World} (h1 : ∀ X, Bl w X → Calls P fn #[a, b] X (fun e' w' => e' = .returned (.int .i64 p) ∧ Bl X w')) (h2 : ∀ X, Bl w X → Calls P fn #[c, d] X (fun e' w' => e' = .returned (.int .i64 q) ∧ Bl X w')) (h3 : ∀ X, Bl w X → Calls P fn #[e, f] X (fun e' w' => e' = .returned (.int .i64 r) ∧ Bl X w'))
    {v v' : Value} {z : Int} (hX : Bl w X) (hs : (v = a ∧ v' = b ∧ z = p) ∨ (v = c ∧ v' = d ∧ z = q) ∨ (v = e ∧ v' = f ∧ z = r)) : Calls P fn #[v, v'] X fun e' w' => e' = .returned (.int .i64 z) ∧ Bl X w' := by
  rcases hs with ⟨rfl, rfl, rfl⟩ | ⟨rfl, rfl, rfl⟩ | ⟨rfl, rfl, rfl⟩
  · exact h1 X hX
  · exact h2 X hX
  · exact h3 X hX
theorem oa_new (W : World) (p q r : Int) : OA (W.alloc (.cells #[.int .i64 0, .int .i64 0, .int .i64 0] 83)) W.heap.size 0 p q r := by
  refine ⟨?_, ?_, ?_, ?_, ?_, ?_⟩
  · simp
  · simp
  · simp
  all_goals
    simp only [frozen?_alloc_cells]
    exact fz_new (Nat.le_refl _)
theorem oIdx0 (p q r : Int) (w : World) : (Instr.index 83 (.agg #[.int .i64 p, .int .i64 q, .int .i64 r]) (.int .i64 0)).run Try.prog w = .ok (.int .i64 p) w := by kernel_rfl
theorem oIdx1 (p q r : Int) (w : World) : (Instr.index 83 (.agg #[.int .i64 p, .int .i64 q, .int .i64 r]) (.int .i64 1)).run Try.prog w = .ok (.int .i64 q) w := by kernel_rfl
theorem oIdx2 (p q r : Int) (w : World) : (Instr.index 83 (.agg #[.int .i64 p, .int .i64 q, .int .i64 r]) (.int .i64 2)).run Try.prog w = .ok (.int .i64 r) w := by kernel_rfl
abbrev Sp (w : World) (b o0 o1 o2 o3 o4 o5 : Nat) (x0 x1 x2 x3 x4 x5 : Value) (W' : World) : Prop := Bl w W' ∧ W'.cell? ⟨b, o0, none⟩ = some x0 ∧ W'.cell? ⟨b, o1, none⟩ = some x1 ∧ W'.cell? ⟨b, o2, none⟩ = some x2 ∧ W'.cell? ⟨b, o3, none⟩ = some x3 ∧ W'.cell? ⟨b, o4, none⟩ = some x4 ∧ W'.cell? ⟨b, o5, none⟩ = some x5 ∧ b < W'.heap.size
theorem Sp.t {w : World} {b o0 o1 o2 o3 o4 o5 : Nat} {x0 x1 x2 x3 x4 x5 : Value} {W W' : World} (h : Sp w b o0 o1 o2 o3 o4 o5 x0 x1 x2 x3 x4 x5 W) (hb : Bl W W') : Sp w b o0 o1 o2 o3 o4 o5 x0 x1 x2 x3 x4 x5 W' := by
  obtain ⟨h0, c0, c1, c2, c3, c4, c5, l⟩ := h
  exact ⟨h0.tr hb, kcb hb c0, kcb hb c1, kcb hb c2, kcb hb c3, kcb hb c4, kcb hb c5, Nat.lt_of_lt_of_le l hb.size⟩
theorem Sp.bl {w : World} {b o0 o1 o2 o3 o4 o5 : Nat} {x0 x1 x2 x3 x4 x5 : Value} {W : World} (h : Sp w b o0 o1 o2 o3 o4 o5 x0 x1 x2 x3 x4 x5 W) : Bl w W := h.1
theorem bl_drK (w : World) : Bl w w.drew := ⟨rfl, rfl, rfl, Nat.le_refl _, fun _ _ => rfl⟩
theorem bl_dnK (w : World) (n : Nat) : Bl w (w.drewN n) := ⟨rfl, rfl, rfl, Nat.le_refl _, fun _ _ => rfl⟩
set_option maxRecDepth 100000 in
set_option maxHeartbeats 3200000 in
theorem odd_any (A : Option Addr) (n c : Nat) (R : Nat → Bx) (w : World) (hA : Bxl w A n R) (hR : ∀ j, j < n → BxOk w (R j)) (hn : n ≤ c) (hc : c ≤ maxLen) :
    Calls Try.prog 30 #[.slice A n c] w fun e w' => e = .returned (.tuple #[.int .i64 (oddR R n).1, .int .i64 (oddR R n).2]) ∧ Bl w w' := by
  have HA := Lib.hid hA
  have HRR := Lib.hid hR
  have HC := Lib.hid (And.intro hn hc)
  have HN := Lib.hid (Nat.le_trans hn hc)
  clear hA hR
  unfold maxLen at hc
  cases hv : vbsB R n with
  | false =>
    have HV := Lib.hid hv
    have HR := Lib.hid (oddR_bad hv)
    clear hv
    go_enter Try.func30, Try.ntmps30
    go_wp2_with fail
    refine (validBoxes_any A n c R _ HA.out HRR.out HN.out).mono ?_
    rintro q1 w1 ⟨rfl, hb⟩
    rw [HV.out]
    have B1 := hb
    go_wp2_with fail
    refine bodyPost_ret (v := .tuple #[.int .i64 (oddR R n).1, .int .i64 (oddR R n).2]) ?_ rfl ⟨rfl, B1⟩
    rw [HR.out]
    simp [results, Try.results30, go_sem]
  | true =>
    have HV := Lib.hid hv
    by_cases h3 : n = 3
    rotate_left
    · have HR := Lib.hid (oddR_rng hv (fun q => h3 q.1))
      have n3 : ((n : Int) != 3) = true := by simp; omega
      clear hv
      go_enter Try.func30, Try.ntmps30
      go_wp2_with fail
      refine (validBoxes_any A n c R _ HA.out HRR.out HN.out).mono ?_
      rintro q1 w1 ⟨rfl, hb⟩
      rw [HV.out]
      have B1 := hb
      go_wp2_with fail
      go_quiet (fail)
      go_wp2_with fail
      refine bodyPost_ret (v := .tuple #[.int .i64 (oddR R n).1, .int .i64 (oddR R n).2]) ?_ rfl ⟨rfl, by first | exact B1 | exact B1.tr (bl_drK _) | exact B1.tr (bl_dnK _ _)⟩
      rw [HR.out]
      simp [results, Try.results30, go_sem]
    subst h3
    obtain ⟨b, off, rfl, hbb, hcell⟩ := b3_of HA.out
    have v0 := vbB_iff.1 (sev_at (k := 0) (vbs_iff.1 hv).2.2 (by omega))
    have v1 := vbB_iff.1 (sev_at (k := 1) (vbs_iff.1 hv).2.2 (by omega))
    have v2 := vbB_iff.1 (sev_at (k := 2) (vbs_iff.1 hv).2.2 (by omega))
    have k0 := HRR.out 0 (by omega)
    have k1 := HRR.out 1 (by omega)
    have k2 := HRR.out 2 (by omega)
    have HO := Lib.hid (fun (q : _) => oddR_ok hv (R := R) (n := 3) q)
    have HG := Lib.hid (fun (q : _) => oddR_rng hv (R := R) (n := 3) q)
    obtain ⟨x0, e0⟩ : ∃ x, x = R 0 := ⟨_, rfl⟩
    obtain ⟨x1, e1⟩ : ∃ x, x = R 1 := ⟨_, rfl⟩
    obtain ⟨x2, e2⟩ : ∃ x, x = R 2 := ⟨_, rfl⟩
    rw [← e0] at hcell v0 k0
    rw [← e1] at hcell v1 k1
    rw [← e2] at hcell v2 k2
    rw [← e0, ← e1, ← e2] at HO HG
    clear hv e0 e1 e2
    obtain ⟨s0, A0, n0, c0, E0⟩ := x0
    obtain ⟨s1, A1, n1, c1, E1⟩ := x1
    obtain ⟨s2, A2, n2, c2, E2⟩ := x2
    dsimp only at v0 v1 v2 HO HG
    have HCL := Lib.hid hcell
    have K0 := Lib.hid k0
    have K1 := Lib.hid k1
    have K2 := Lib.hid k2
    have V0 := Lib.hid v0
    have V1 := Lib.hid v1
    have V2 := Lib.hid v2
    have b0 : 2 ≤ n0 ∧ n0 ≤ 400 := ⟨v0.2.1, v0.2.2.1⟩
    have b1 : 2 ≤ n1 ∧ n1 ≤ 400 := ⟨v1.2.1, v1.2.2.1⟩
    have b2 : 2 ≤ n2 ∧ n2 ≤ 400 := ⟨v2.2.1, v2.2.2.1⟩
    clear hcell k0 k1 k2 v0 v1 v2
    have n3 : (((3 : Nat) : Int) != 3) = false := rfl
    have y1 : IntKind.i64.wrap 1 = 1 := by decide
    have y2 : IntKind.i64.wrap 2 = 2 := by decide
    have y3 : IntKind.i64.wrap 3 = 3 := by decide
    have y4 : IntKind.i64.wrap 4 = 4 := by decide
    have CELLS := Lib.hid HCL
    by_cases q1 : n0 = n1
    rotate_left
    · have HR := Lib.hid (HG.out (fun q => q1 q.2.1))
      have q1' : ((n0 : Int) != (n1 : Int)) = true := by simp; omega
      go_enter Try.func30, Try.ntmps30
      go_wp2_with fail
      refine (validBoxes_any _ 3 c R _ HA.out HRR.out HN.out).mono ?_
      rintro q1 w1 ⟨rfl, hb⟩
      rw [HV.out]
      have B1 := hb
      obtain ⟨⟨m0, m1⟩, ⟨m2, m3⟩, m4, m5⟩ := HCL.out.below hb
      have lm := ltb m0
      go_wp2_with fail
      go_quiet (fail)
      go_wp2_with fail
      refine bodyPost_ret (v := .tuple #[.int .i64 (oddR R 3).1, .int .i64 (oddR R 3).2]) ?_ rfl ⟨rfl, by first | exact B1 | exact B1.tr (bl_drK _) | exact B1.tr (bl_dnK _ _)⟩
      rw [HR.out]
      simp [results, Try.results30, go_sem]
    by_cases q2 : n0 = n2
    rotate_left
    · have HR := Lib.hid (HG.out (fun q => q2 q.2.2))
      have q1' : ((n0 : Int) != (n1 : Int)) = false := by simp; omega
      have q2' : ((n0 : Int) != (n2 : Int)) = true := by simp; omega
      go_enter Try.func30, Try.ntmps30
      go_wp2_with fail
      refine (validBoxes_any _ 3 c R _ HA.out HRR.out HN.out).mono ?_
      rintro q1 w1 ⟨rfl, hb⟩
      rw [HV.out]
      have B1 := hb
      obtain ⟨⟨m0, m1⟩, ⟨m2, m3⟩, m4, m5⟩ := HCL.out.below hb
      have lm := ltb m0
      go_wp2_with fail
      go_quiet (fail)
      go_wp2_with fail
      refine bodyPost_ret (v := .tuple #[.int .i64 (oddR R 3).1, .int .i64 (oddR R 3).2]) ?_ rfl ⟨rfl, by first | exact B1 | exact B1.tr (bl_drK _) | exact B1.tr (bl_dnK _ _)⟩
      rw [HR.out]
      simp [results, Try.results30, go_sem]
    subst q1
    subst q2
    have HR := Lib.hid (HO.out ⟨rfl, rfl, rfl⟩)
    have q1' : ((n0 : Int) != (n0 : Int)) = false := by simp
    clear HO HG
    go_enter Try.func30, Try.ntmps30
    go_wp2_with fail
    refine (validBoxes_any _ 3 c R _ HA.out HRR.out HN.out).mono ?_
    rintro q1 w1 ⟨rfl, hb⟩
    rw [HV.out]
    have HB1 := Lib.hid hb
    obtain ⟨⟨m0, m1⟩, ⟨m2, m3⟩, m4, m5⟩ := HCL.out.below hb
    have lm := ltb m0
    clear hb
    go_wp2_with fail
    go_quiet (fail)
    go_wp2_with fail
    obtain ⟨p, hp⟩ : ∃ p, plF E1 E2 n0 = p := ⟨_, rfl⟩
    obtain ⟨q, hq⟩ : ∃ q, plF E0 E2 n0 = q := ⟨_, rfl⟩
    obtain ⟨r, hr⟩ : ∃ r, plF E0 E1 n0 = r := ⟨_, rfl⟩
    rw [hp, hq, hr] at HR
    rw [pl_sym E0 E2] at hq
    have HP := Lib.hid hp
    have HQ := Lib.hid hq
    have HS := Lib.hid hr
    clear hp hq hr
    obtain ⟨W, hW⟩ : ∃ W, W = (w1.drewN nq).alloc (.cells #[.int .i64 0, .int .i64 0, .int .i64 0] 83) := ⟨_, rfl⟩
    have BW : Bl w W := by rw [hW]; exact HB1.out.tr (Bl.tr (bl_dnK _ _) (by go_grown))
    have zW : W.heap.size = w1.heap.size + 1 := by rw [hW, World.size_alloc]; rfl
    have z1 := HB1.out.size
    have PA : OA W w1.heap.size 0 p q r := by
      rw [hW]
      exact oa_new (w1.drewN nq) p q r
    rw [← hW]
    clear hW m0 m1 m2 m3 m4 m5
    obtain ⟨B, hBq⟩ : ∃ B, B = w1.heap.size := ⟨_, rfl⟩
    rw [← hBq] at PA zW z1 ⊢
    clear hBq
    go_loopw [40] (fun i wr => ∃ k : Nat, k ≤ 3 ∧ i = .int .i64 k ∧ Hid (OA wr B k p q r) ∧ Bl w wr) (fun i _ => 3 - (RowKit.intOf i).toNat)
    case atStart => exact ⟨0, by omega, rfl, PA, BW⟩
    case round =>
      obtain ⟨k, hk, rfl, HOA, hB⟩ := hrel
      have zB := hB.size
      obtain ⟨⟨m0, m1⟩, ⟨m2, m3⟩, m4, m5⟩ := HCL.out.below hB
      have lm := ltb m0
      have HBr := Lib.hid hB
      rcases (show k = 0 ∨ k = 1 ∨ k = 2 ∨ k = 3 by omega) with rfl | rfl | rfl | rfl
      · obtain ⟨a0, a1, a2, f0, f1, f2⟩ := HOA.out
        simp at a0 a1 a2
        have la := ltb a0
        go_wp2_with fail
        go_region_law (first | (go_simp; go_at_call 62; refine (play_any s1 A1 n0 c1 E1 s2 A2 c2 E2 _ (K1.out.sl.below (HBr.out.tr (bl_drK _))) (K2.out.sl.below (HBr.out.tr (bl_drK _))) (by omega) (by omega) V1.out.2.2.2 V2.out.2.2.2).mono ?_; rintro e9 v1 ⟨rfl, hb9⟩; rw [HP.out]; have HO9 := Lib.hid (HOA.out.below (Bl.tr (bl_drK _) hb9)); have HB9 := Lib.hid (HBr.out.tr (Bl.tr (bl_drK _) hb9)); have zv := HB9.out.size; obtain ⟨a0, a1, a2, f0, f1, f2⟩ := HO9.out; simp at a0 a1 a2; have la := ltb a0))
        all_goals
          go_wp2_with fail
          go_roundw
          case rel => exact ⟨1, by omega, by go_num, HO9.out.set0, blset HB9.out (by omega)⟩
          case measure => simp [RowKit.intOf]
      · obtain ⟨a0, a1, a2, f0, f1, f2⟩ := HOA.out
        simp at a0 a1 a2
        have la := ltb a0
        go_wp2_with fail
        go_region_law (first | (go_simp; go_at_call 62; refine (play_any s2 A2 n0 c2 E2 s0 A0 c0 E0 _ (K2.out.sl.below (HBr.out.tr (bl_drK _))) (K0.out.sl.below (HBr.out.tr (bl_drK _))) (by omega) (by omega) V2.out.2.2.2 V0.out.2.2.2).mono ?_; rintro e9 v1 ⟨rfl, hb9⟩; rw [HQ.out]; have HO9 := Lib.hid (HOA.out.below (Bl.tr (bl_drK _) hb9)); have HB9 := Lib.hid (HBr.out.tr (Bl.tr (bl_drK _) hb9)); have zv := HB9.out.size; obtain ⟨a0, a1, a2, f0, f1, f2⟩ := HO9.out; simp at a0 a1 a2; have la := ltb a0))
        all_goals
          go_wp2_with fail
          go_roundw
          case rel => exact ⟨2, by omega, by go_num, HO9.out.set1, blset HB9.out (by omega)⟩
          case measure => simp [RowKit.intOf]
      · obtain ⟨a0, a1, a2, f0, f1, f2⟩ := HOA.out
        simp at a0 a1 a2
        have la := ltb a0
        go_wp2_with fail
        go_region_law (first | (go_simp; go_at_call 62; refine (play_any s0 A0 n0 c0 E0 s1 A1 c1 E1 _ (K0.out.sl.below (HBr.out.tr (bl_drK _))) (K1.out.sl.below (HBr.out.tr (bl_drK _))) (by omega) (by omega) V0.out.2.2.2 V1.out.2.2.2).mono ?_; rintro e9 v1 ⟨rfl, hb9⟩; rw [HS.out]; have HO9 := Lib.hid (HOA.out.below (Bl.tr (bl_drK _) hb9)); have HB9 := Lib.hid (HBr.out.tr (Bl.tr (bl_drK _) hb9)); have zv := HB9.out.size; obtain ⟨a0, a1, a2, f0, f1, f2⟩ := HO9.out; simp at a0 a1 a2; have la := ltb a0))
        all_goals
          go_wp2_with fail
          go_roundw
          case rel => exact ⟨3, by omega, by go_num, HO9.out.set2, blset HB9.out (by omega)⟩
          case measure => simp [RowKit.intOf]
      · obtain ⟨a0, a1, a2, f0, f1, f2⟩ := HOA.out
        simp at a0 a1 a2
        have la := ltb a0
        have t0 := oIdx0 p q r
        have t1 := oIdx1 p q r
        have t2 := oIdx2 p q r
        go_wp2_with fail
        go_loop [60] (fun i => ∃ k : Nat, k ≤ 3 ∧ i = .int .i64 k ∧ Hid ((0 < k → ¬ (p < q ∧ p < r)) ∧ (1 < k → ¬ (q < r ∧ q < p)) ∧ (2 < k → ¬ (r < p ∧ r < q)))) (fun i => 3 - (intOf i).toNat)
        case atStart => exact ⟨0, by omega, rfl, by omega, by omega, by omega⟩
        case round =>
          obtain ⟨k, hk, rfl, HH⟩ := hrel
          rcases (show k = 0 ∨ k = 1 ∨ k = 2 ∨ k = 3 by omega) with rfl | rfl | rfl | rfl
          · by_cases u : p < q
            · by_cases v : p < r
              · go_wp2_with fail
                refine bodyPost_ret (v := .tuple #[.int .i64 (oddR R 3).1, .int .i64 (oddR R 3).2]) ?_ rfl ⟨rfl, HBr.out⟩
                rw [HR.out, odd3_0 u v]
                simp [results, Try.results30, go_sem]
              · go_wp2_with fail
                go_round
                case rel => exact ⟨1, by omega, by go_num, ⟨fun _ h => v h.2, fun h => absurd h (by omega), fun h => absurd h (by omega)⟩⟩
                case measure => simp [intOf]
            · go_wp2_with fail
              go_round
              case rel => exact ⟨1, by omega, by go_num, ⟨fun _ h => u h.1, fun h => absurd h (by omega), fun h => absurd h (by omega)⟩⟩
              case measure => simp [intOf]
          · by_cases u : q < r
            · by_cases v : q < p
              · go_wp2_with fail
                refine bodyPost_ret (v := .tuple #[.int .i64 (oddR R 3).1, .int .i64 (oddR R 3).2]) ?_ rfl ⟨rfl, HBr.out⟩
                rw [HR.out, odd3_1 u v]
                simp [results, Try.results30, go_sem]
              · go_wp2_with fail
                go_round
                case rel => exact ⟨2, by omega, by go_num, ⟨fun _ => HH.out.1 (by omega), fun _ h => v h.2, fun h => absurd h (by omega)⟩⟩
                case measure => simp [intOf]
            · go_wp2_with fail
              go_round
              case rel => exact ⟨2, by omega, by go_num, ⟨fun _ => HH.out.1 (by omega), fun _ h => u h.1, fun h => absurd h (by omega)⟩⟩
              case measure => simp [intOf]
          · by_cases u : r < p
            · by_cases v : r < q
              · go_wp2_with fail
                refine bodyPost_ret (v := .tuple #[.int .i64 (oddR R 3).1, .int .i64 (oddR R 3).2]) ?_ rfl ⟨rfl, HBr.out⟩
                rw [HR.out, odd3_2 u v]
                simp [results, Try.results30, go_sem]
              · go_wp2_with fail
                go_round
                case rel => exact ⟨3, by omega, by go_num, ⟨fun _ => HH.out.1 (by omega), fun _ => HH.out.2.1 (by omega), fun _ h => v h.2⟩⟩
                case measure => simp [intOf]
            · go_wp2_with fail
              go_round
              case rel => exact ⟨3, by omega, by go_num, ⟨fun _ => HH.out.1 (by omega), fun _ => HH.out.2.1 (by omega), fun _ h => u h.1⟩⟩
              case measure => simp [intOf]
          · have HN := Lib.hid (odd3_n (HH.out.1 (by omega)) (HH.out.2.1 (by omega)) (HH.out.2.2 (by omega)))
            go_wp2_with fail
            refine bodyPost_ret (v := .tuple #[.int .i64 (oddR R 3).1, .int .i64 (oddR R 3).2]) ?_ rfl ⟨rfl, HBr.out⟩
            rw [HR.out, HN.out]
            simp [results, Try.results30, go_sem]
set_option maxRecDepth 100000 in
set_option maxHeartbeats 3200000 in
theorem rodd_any (A : Option Addr) (n c : Nat) (R : Nat → Bx) (w : World) (hA : Bxl w A n R) (hR : ∀ j, j < n → BxOk w (R j)) (hn : n ≤ c) (hc : c ≤ maxLen) :
    Calls Try.prog 31 #[.slice A n c] w fun e w' => e = .returned (.tuple #[.int .i64 (oddR R n).1, .int .i64 (oddR R n).2]) ∧ Bl w w' := by
  have HA := Lib.hid hA
  have HRR := Lib.hid hR
  have HC := Lib.hid (And.intro hn hc)
  have HN := Lib.hid (Nat.le_trans hn hc)
  clear hA hR
  unfold maxLen at hc
  cases hv : vbsB R n with
  | false =>
    have HV := Lib.hid hv
    have HR := Lib.hid (oddR_bad hv)
    clear hv
    go_enter Try.func31, Try.ntmps31
    go_wp2_with fail
    refine (rvalidBoxes_any A n c R _ HA.out HRR.out HC.out.1 HC.out.2).mono ?_
    rintro q1 w1 ⟨rfl, hb⟩
    rw [HV.out]
    have B1 := hb
    go_wp2_with fail
    refine bodyPost_ret (v := .tuple #[.int .i64 (oddR R n).1, .int .i64 (oddR R n).2]) ?_ rfl ⟨rfl, B1⟩
    rw [HR.out]
    simp [results, Try.results31, go_sem]
  | true =>
    have HV := Lib.hid hv
    by_cases h3 : n = 3
    rotate_left
    · have HR := Lib.hid (oddR_rng hv (fun q => h3 q.1))
      have n3 : ((n : Int) != 3) = true := by simp; omega
      clear hv
      go_enter Try.func31, Try.ntmps31
      go_wp2_with fail
      refine (rvalidBoxes_any A n c R _ HA.out HRR.out HC.out.1 HC.out.2).mono ?_
      rintro q1 w1 ⟨rfl, hb⟩
      rw [HV.out]
      have B1 := hb
      go_wp2_with fail
      go_quiet (fail)
      go_wp2_with fail
      refine bodyPost_ret (v := .tuple #[.int .i64 (oddR R n).1, .int .i64 (oddR R n).2]) ?_ rfl ⟨rfl, by first | exact B1 | exact B1.tr (bl_drK _) | exact B1.tr (bl_dnK _ _)⟩
      rw [HR.out]
      simp [results, Try.results31, go_sem]
    subst h3
    obtain ⟨b, off, rfl, hbb, hcell⟩ := b3_of HA.out
    have v0 := vbB_iff.1 (sev_at (k := 0) (vbs_iff.1 hv).2.2 (by omega))
    have v1 := vbB_iff.1 (sev_at (k := 1) (vbs_iff.1 hv).2.2 (by omega))
    have v2 := vbB_iff.1 (sev_at (k := 2) (vbs_iff.1 hv).2.2 (by omega))
    have k0 := HRR.out 0 (by omega)
    have k1 := HRR.out 1 (by omega)
    have k2 := HRR.out 2 (by omega)
    have HO := Lib.hid (fun (q : _) => oddR_ok hv (R := R) (n := 3) q)
    have HG := Lib.hid (fun (q : _) => oddR_rng hv (R := R) (n := 3) q)
    obtain ⟨x0, e0⟩ : ∃ x, x = R 0 := ⟨_, rfl⟩
    obtain ⟨x1, e1⟩ : ∃ x, x = R 1 := ⟨_, rfl⟩
    obtain ⟨x2, e2⟩ : ∃ x, x = R 2 := ⟨_, rfl⟩
    rw [← e0] at hcell v0 k0
    rw [← e1] at hcell v1 k1
    rw [← e2] at hcell v2 k2
    rw [← e0, ← e1, ← e2] at HO HG
    clear hv e0 e1 e2
    obtain ⟨s0, A0, n0, c0, E0⟩ := x0
    obtain ⟨s1, A1, n1, c1, E1⟩ := x1
    obtain ⟨s2, A2, n2, c2, E2⟩ := x2
    dsimp only at v0 v1 v2 HO HG
    have HCL := Lib.hid hcell
    have K0 := Lib.hid k0
    have K1 := Lib.hid k1
    have K2 := Lib.hid k2
    have V0 := Lib.hid v0
    have V1 := Lib.hid v1
    have V2 := Lib.hid v2
    have b0 : 2 ≤ n0 ∧ n0 ≤ 400 := ⟨v0.2.1, v0.2.2.1⟩
    have b1 : 2 ≤ n1 ∧ n1 ≤ 400 := ⟨v1.2.1, v1.2.2.1⟩
    have b2 : 2 ≤ n2 ∧ n2 ≤ 400 := ⟨v2.2.1, v2.2.2.1⟩
    clear hcell k0 k1 k2 v0 v1 v2
    have n3 : (((3 : Nat) : Int) != 3) = false := rfl
    have y1 : IntKind.i64.wrap 1 = 1 := by decide
    have y2 : IntKind.i64.wrap 2 = 2 := by decide
    have y3 : IntKind.i64.wrap 3 = 3 := by decide
    have y4 : IntKind.i64.wrap 4 = 4 := by decide
    have CELLS := Lib.hid HCL
    by_cases q1 : n0 = n1
    rotate_left
    · have HR := Lib.hid (HG.out (fun q => q1 q.2.1))
      have q1' : ((n0 : Int) != (n1 : Int)) = true := by simp; omega
      go_enter Try.func31, Try.ntmps31
      go_wp2_with fail
      refine (rvalidBoxes_any _ 3 c R _ HA.out HRR.out HC.out.1 HC.out.2).mono ?_
      rintro q1 w1 ⟨rfl, hb⟩
      rw [HV.out]
      have B1 := hb
      obtain ⟨⟨m0, m1⟩, ⟨m2, m3⟩, m4, m5⟩ := HCL.out.below hb
      have lm := ltb m0
      go_wp2_with fail
      go_quiet (fail)
      go_wp2_with fail
      refine bodyPost_ret (v := .tuple #[.int .i64 (oddR R 3).1, .int .i64 (oddR R 3).2]) ?_ rfl ⟨rfl, by first | exact B1 | exact B1.tr (bl_drK _) | exact B1.tr (bl_dnK _ _)⟩
      rw [HR.out]
      simp [results, Try.results31, go_sem]
    by_cases q2 : n0 = n2
    rotate_left
    · have HR := Lib.hid (HG.out (fun q => q2 q.2.2))
      have q1' : ((n0 : Int) != (n1 : Int)) = false := by simp; omega
      have q2' : ((n0 : Int) != (n2 : Int)) = true := by simp; omega
      go_enter Try.func31, Try.ntmps31
      go_wp2_with fail
      refine (rvalidBoxes_any _ 3 c R _ HA.out HRR.out HC.out.1 HC.out.2).mono ?_
      rintro q1 w1 ⟨rfl, hb⟩
      rw [HV.out]
      have B1 := hb
      obtain ⟨⟨m0, m1⟩, ⟨m2, m3⟩, m4, m5⟩ := HCL.out.below hb
      have lm := ltb m0
      go_wp2_with fail
      go_quiet (fail)
      go_wp2_with fail
      refine bodyPost_ret (v := .tuple #[.int .i64 (oddR R 3).1, .int .i64 (oddR R 3).2]) ?_ rfl ⟨rfl, by first | exact B1 | exact B1.tr (bl_drK _) | exact B1.tr (bl_dnK _ _)⟩
      rw [HR.out]
      simp [results, Try.results31, go_sem]
    subst q1
    subst q2
    have HR := Lib.hid (HO.out ⟨rfl, rfl, rfl⟩)
    have q1' : ((n0 : Int) != (n0 : Int)) = false := by simp
    clear HO HG
    go_enter Try.func31, Try.ntmps31
    go_wp2_with fail
    refine (rvalidBoxes_any _ 3 c R _ HA.out HRR.out HC.out.1 HC.out.2).mono ?_
    rintro q1 w1 ⟨rfl, hb⟩
    rw [HV.out]
    have HB1 := Lib.hid hb
    obtain ⟨⟨m0, m1⟩, ⟨m2, m3⟩, m4, m5⟩ := HCL.out.below hb
    have lm := ltb m0
    clear hb
    go_wp2_with fail
    go_quiet (fail)
    go_wp2_with fail
    obtain ⟨p, hp⟩ : ∃ p, plF E1 E2 n0 = p := ⟨_, rfl⟩
    obtain ⟨q, hq⟩ : ∃ q, plF E0 E2 n0 = q := ⟨_, rfl⟩
    obtain ⟨r, hr⟩ : ∃ r, plF E0 E1 n0 = r := ⟨_, rfl⟩
    rw [hp, hq, hr] at HR
    have HP := Lib.hid hp
    have HQ := Lib.hid hq
    have HS := Lib.hid hr
    clear hp hq hr
    have P12 := Lib.hid (fun (X : World) (hX : Bl w X) => (show Calls Try.prog 63 #[.agg #[.string s1, .slice A1 n0 c1], .agg #[.string s2, .slice A2 n0 c2]] X fun e w' => e = .returned (.int .i64 p) ∧ Bl X w' by have h := rplay_any s1 A1 n0 c1 E1 s2 A2 c2 E2 X (K1.out.sl.below hX) (K2.out.sl.below hX) (by omega) (by omega) V1.out.2.2.2 V2.out.2.2.2; rw [HP.out] at h; exact h))
    have P02 := Lib.hid (fun (X : World) (hX : Bl w X) => (show Calls Try.prog 63 #[.agg #[.string s0, .slice A0 n0 c0], .agg #[.string s2, .slice A2 n0 c2]] X fun e w' => e = .returned (.int .i64 q) ∧ Bl X w' by have h := rplay_any s0 A0 n0 c0 E0 s2 A2 c2 E2 X (K0.out.sl.below hX) (K2.out.sl.below hX) (by omega) (by omega) V0.out.2.2.2 V2.out.2.2.2; rw [HQ.out] at h; exact h))
    have P01 := Lib.hid (fun (X : World) (hX : Bl w X) => (show Calls Try.prog 63 #[.agg #[.string s0, .slice A0 n0 c0], .agg #[.string s1, .slice A1 n0 c1]] X fun e w' => e = .returned (.int .i64 r) ∧ Bl X w' by have h := rplay_any s0 A0 n0 c0 E0 s1 A1 c1 E1 X (K0.out.sl.below hX) (K1.out.sl.below hX) (by omega) (by omega) V0.out.2.2.2 V1.out.2.2.2; rw [HS.out] at h; exact h))
    obtain ⟨W, hW⟩ : ∃ W, W = w1.drewN nq := ⟨_, rfl⟩
    have BW : Bl w1 W := by rw [hW]; exact bl_dnK _ _
    rw [← hW]
    clear hW
    have S0 : Sp w b off (off + 1) (off + 2) (off + 2 + 1) (off + 4) (off + 4 + 1) (.string s0) (.slice A0 n0 c0) (.string s1) (.slice A1 n0 c1) (.string s2) (.slice A2 n0 c2) W := Sp.t ⟨HB1.out, m0, m1, m2, m3, m4, m5, lm⟩ BW
    obtain ⟨_, m0, m1, m2, m3, m4, m5, lm⟩ := S0
    have S0 : Sp w b off (off + 1) (off + 2) (off + 2 + 1) (off + 4) (off + 4 + 1) (.string s0) (.slice A0 n0 c0) (.string s1) (.slice A1 n0 c1) (.string s2) (.slice A2 n0 c2) W := Sp.t ⟨HB1.out, by assumption, by assumption, by assumption, by assumption, by assumption, by assumption, by assumption⟩ BW
    go_region_held3 (fun W' => Bl w W' ∧ W'.cell? ⟨b, off, none⟩ = some (.string s0) ∧ W'.cell? ⟨b, off + 1, none⟩ = some (.slice A0 n0 c0) ∧ W'.cell? ⟨b, off + 2, none⟩ = some (.string s1) ∧ W'.cell? ⟨b, off + 2 + 1, none⟩ = some (.slice A1 n0 c1) ∧ W'.cell? ⟨b, off + 4, none⟩ = some (.string s2) ∧ W'.cell? ⟨b, off + 4 + 1, none⟩ = some (.slice A2 n0 c2) ∧ b < W'.heap.size) (first | exact Sp.t S0 (bl_drK _) | exact Sp.t (by assumption) hh0 | exact Sp.t (by assumption) (by go_grown)) (first | (go_at_call 63; refine (three_calls P12.out P02.out P01.out (Sp.bl (by assumption)) (by first | exact .inl ⟨rfl, rfl, rfl⟩ | exact .inr (.inl ⟨rfl, rfl, rfl⟩) | exact .inr (.inr ⟨rfl, rfl, rfl⟩))).mono ?_; rintro e9 v1 ⟨rfl, hh0⟩))
    all_goals
      rename_i hHeld
      obtain ⟨V, hV⟩ : ∃ V, V = v1.alloc (.cells #[.int .i64 p, .int .i64 q, .int .i64 r] 3) := ⟨_, rfl⟩
      have HZ := Lib.hid (show Bl w V by rw [hV]; exact hHeld.1)
      have a0 : V.cell? ⟨v1.heap.size, 0, none⟩ = some (.int .i64 p) := by rw [hV]; simp
      have a1 : V.cell? ⟨v1.heap.size, 1, none⟩ = some (.int .i64 q) := by rw [hV]; simp
      have a2 : V.cell? ⟨v1.heap.size, 2, none⟩ = some (.int .i64 r) := by rw [hV]; simp
      rw [← hV]
      clear hHeld hV m0 m1 m2 m3 m4 m5
      go_wp2_with fail
      go_loop [63] (fun i => ∃ k : Nat, k ≤ 3 ∧ i = .int .i64 k ∧ Hid ((0 < k → ¬ (p < q ∧ p < r)) ∧ (1 < k → ¬ (q < r ∧ q < p)) ∧ (2 < k → ¬ (r < p ∧ r < q)))) (fun i => 3 - (intOf i).toNat)
      case atStart => exact ⟨0, by omega, rfl, by omega, by omega, by omega⟩
      case round =>
        obtain ⟨k, hk, rfl, HH⟩ := hrel
        rcases (show k = 0 ∨ k = 1 ∨ k = 2 ∨ k = 3 by omega) with rfl | rfl | rfl | rfl
        · by_cases u : p < q
          · by_cases v : p < r
            · go_wp2_with fail
              refine bodyPost_ret (v := .tuple #[.int .i64 (oddR R 3).1, .int .i64 (oddR R 3).2]) ?_ rfl ⟨rfl, HZ.out⟩
              rw [HR.out, odd3_0 u v]
              simp [results, Try.results31, go_sem]
            · go_wp2_with fail
              go_round
              case rel => exact ⟨1, by omega, by go_num, ⟨fun _ h => v h.2, fun h => absurd h (by omega), fun h => absurd h (by omega)⟩⟩
              case measure => simp [intOf]
          · go_wp2_with fail
            go_round
            case rel => exact ⟨1, by omega, by go_num, ⟨fun _ h => u h.1, fun h => absurd h (by omega), fun h => absurd h (by omega)⟩⟩
            case measure => simp [intOf]
        · by_cases u : q < r
          · by_cases v : q < p
            · go_wp2_with fail
              refine bodyPost_ret (v := .tuple #[.int .i64 (oddR R 3).1, .int .i64 (oddR R 3).2]) ?_ rfl ⟨rfl, HZ.out⟩
              rw [HR.out, odd3_1 u v]
              simp [results, Try.results31, go_sem]
            · go_wp2_with fail
              go_round
              case rel => exact ⟨2, by omega, by go_num, ⟨fun _ => HH.out.1 (by omega), fun _ h => v h.2, fun h => absurd h (by omega)⟩⟩
              case measure => simp [intOf]
          · go_wp2_with fail
            go_round
            case rel => exact ⟨2, by omega, by go_num, ⟨fun _ => HH.out.1 (by omega), fun _ h => u h.1, fun h => absurd h (by omega)⟩⟩
            case measure => simp [intOf]
        · by_cases u : r < p
          · by_cases v : r < q
            · go_wp2_with fail
              refine bodyPost_ret (v := .tuple #[.int .i64 (oddR R 3).1, .int .i64 (oddR R 3).2]) ?_ rfl ⟨rfl, HZ.out⟩
              rw [HR.out, odd3_2 u v]
              simp [results, Try.results31, go_sem]
            · go_wp2_with fail
              go_round
              case rel => exact ⟨3, by omega, by go_num, ⟨fun _ => HH.out.1 (by omega), fun _ => HH.out.2.1 (by omega), fun _ h => v h.2⟩⟩
              case measure => simp [intOf]
          · go_wp2_with fail
            go_round
            case rel => exact ⟨3, by omega, by go_num, ⟨fun _ => HH.out.1 (by omega), fun _ => HH.out.2.1 (by omega), fun _ h => u h.1⟩⟩
            case measure => simp [intOf]
        · have HN := Lib.hid (odd3_n (HH.out.1 (by omega)) (HH.out.2.1 (by omega)) (HH.out.2.2 (by omega)))
          go_wp2_with fail
          refine bodyPost_ret (v := .tuple #[.int .i64 (oddR R 3).1, .int .i64 (oddR R 3).2]) ?_ rfl ⟨rfl, HZ.out⟩
          rw [HR.out, HN.out]
          simp [results, Try.results31, go_sem]
end Go.Proofs.Ytbhdoafcjfcgfaa
