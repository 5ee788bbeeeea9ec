/-
  Contracts of First, both, and of the reference's Ring.
-/
import Derived.Test.YtangijdonkkglaaGT
import Derived.Test.YtangijdonkkglaaGL
namespace Go.Proofs.Ytangijdonkkglaa
open Go.RowKit
set_option linter.unusedSimpArgs false
set_option linter.unusedVariables false

/-- The first place of the least number among the first k. -/
def fst1 (f : Nat → Int) : Nat → Nat
  | 0 => 0
  | k + 1 => if f k < f (fst1 f k) then k else fst1 f k
theorem fst1_lt (f : Nat → Int) {n k : Nat} (hn : 0 < n) (hk : k ≤ n) : fst1 f k < n := by
  induction k with
  | zero => exact hn
  | succ k ih =>
    rw [fst1]
    have := ih (by omega)
    split <;> omega
def firOk (p : Pt) (T : Nat → Pt) (n : Nat) : Prop := isP p ∧ (1 ≤ n ∧ n ≤ 6) ∧ allP T n
instance (p : Pt) (T : Nat → Pt) (n : Nat) : Decidable (firOk p T n) := by unfold firOk; infer_instance
def firR (a : Air) (p : Pt) (T : Nat → Pt) (n : Nat) : Int × Int := if VA a then (if firOk p T n then (((fst1 (fun j => (lagP a p (T j)).2) n : Nat) : Int), 0) else (0, 7)) else (0, 1)

set_option maxRecDepth 100000 in
set_option maxHeartbeats 6400000 in
theorem First_any (a : Air) (p : Pt) (A : Option Addr) (n c : Nat) (T : Nat → Pt) (w : World) (hA : Pl w A n T) (hn : n ≤ maxLen) :
    Calls Try.prog 39 #[encA a, .slice A n c, encP p] w fun e w' => e = .returned (r2 (firR a p T n)) ∧ Bl w w' := by
  have HA := Lib.hid hA
  have HN := Lib.hid hn
  clear hA
  unfold maxLen at hn
  go_enter Try.func39, Try.ntmps39
  go_wp2_with fail
  refine (Table_any a p A n c T _ (HA.out.below (by go_grown)) HN.out).mono ?_
  rintro e1 w1 ⟨hb, ⟨ha, hk, L, cap, rfl, hc1, hc2, hS⟩ | ⟨ha, hk, rfl⟩ | ⟨ha, rfl⟩⟩
  · have B1 : Bl w w1 := Below.trans (by go_grown) (hb.mono (by (try simp only [World.size_alloc, World.size_setCell]); omega))
    have z1 := B1.size
    clear hb
    have HSS := Lib.hid hS
    by_cases h16 : 1 ≤ n ∧ n ≤ 6
    · have HR := Lib.hid (show firR a p T n = (((fst1 (fun j => (lagP a p (T j)).2) n : Nat) : Int), 0) by unfold firR; rw [if_pos ha, if_pos ⟨hk.1, h16, hk.2.2⟩])
      obtain ⟨n1, n6⟩ := h16
      unfold maxLen at hc2
      clear ha hk hS
      go_wp2_with fail
      go_loopw [10, 33] (fun u i wr => ∃ k m : Nat, k ≤ n ∧ m < n ∧ i = .int .i64 k ∧ u = .int .i64 m ∧ Hid (m = fst1 (fun j => (lagP a p (T j)).2) k) ∧ Bl w1 wr) (fun _ i _ => n - (RowKit.intOf i).toNat)
      case atStart => exact ⟨0, 0, by omega, by omega, rfl, rfl, rfl, Bl.rf _⟩
      case round =>
        obtain ⟨k, m, hk, hm, rfl, rfl, HM, hB⟩ := hrel
        have zB := hB.size
        by_cases hlt : k < n
        · obtain ⟨b, off, rfl, hbb, hc⟩ := (HSS.out.below hB) (by omega)
          obtain ⟨c0, c1⟩ := hc k hlt
          obtain ⟨d0, d1⟩ := hc m hm
          clear hc
          obtain ⟨y1, hy1⟩ : ∃ y, y = (lagP a p (T k)).1 := ⟨_, rfl⟩
          obtain ⟨y2, hy2⟩ : ∃ y, y = (lagP a p (T k)).2 := ⟨_, rfl⟩
          obtain ⟨z2, hz2⟩ : ∃ y, y = (lagP a p (T m)).2 := ⟨_, rfl⟩
          dsimp only at c0 c1 d0 d1
          rw [← hy1] at c0
          rw [← hy2] at c1
          rw [← hz2] at d1
          by_cases q : y2 < z2
          · have HM' : Hid (k = fst1 (fun j => (lagP a p (T j)).2) (k + 1)) := Lib.hid (by rw [fst1, ← HM.out]; simp only [← hy2, ← hz2, if_pos q])
            clear hy1 hy2 hz2
            go_wp2_with fail
            go_quiet (fail)
            go_wp2_with fail
            go_roundw
            case rel => exact ⟨k + 1, k, by omega, hlt, by go_num, by go_num, HM', hB.tr (Bl.tr (by go_grown) (Bl.dr _ _))⟩
            case measure => simp [RowKit.intOf]; omega
          · have HM' : Hid (m = fst1 (fun j => (lagP a p (T j)).2) (k + 1)) := Lib.hid (by rw [fst1, ← HM.out]; simp only [← hy2, ← hz2, if_neg q])
            clear hy1 hy2 hz2
            go_wp2_with fail
            go_quiet (fail)
            go_wp2_with fail
            go_roundw
            case rel => exact ⟨k + 1, m, by omega, hm, by go_num, by go_num, HM', hB.tr (Bl.tr (by go_grown) (Bl.dr _ _))⟩
            case measure => simp [RowKit.intOf]; omega
        · obtain rfl : n = k := by omega
          go_wp2_with fail
          go_ret2
          exact ⟨by rw [HR.out, ← HM.out]; rfl, B1.tr hB⟩
    · have HR := Lib.hid (show firR a p T n = (0, 7) by unfold firR; rw [if_pos ha, if_neg (fun g => h16 g.2.1)])
      clear ha hk hS
      by_cases h1 : n < 1
      · go_wp2_with fail
        go_ret2
        exact ⟨by rw [HR.out]; rfl, B1⟩
      · have h7 : 6 < n := by omega
        clear h16
        go_wp2_with fail
        go_ret2
        exact ⟨by rw [HR.out]; rfl, B1⟩
  · have B1 : Bl w w1 := Below.trans (by go_grown) (hb.mono (by (try simp only [World.size_alloc, World.size_setCell]); omega))
    have HR := Lib.hid (show firR a p T n = (0, 7) by unfold firR; rw [if_pos ha, if_neg (fun g => hk ⟨g.1, by have := g.2.1.2; omega, g.2.2⟩)])
    clear hb ha hk
    go_wp2_with fail
    go_ret2
    exact ⟨by rw [HR.out]; rfl, B1⟩
  · have B1 : Bl w w1 := Below.trans (by go_grown) (hb.mono (by (try simp only [World.size_alloc, World.size_setCell]); omega))
    have HR := Lib.hid (show firR a p T n = (0, 1) by unfold firR; rw [if_neg ha])
    clear hb ha
    go_wp2_with fail
    go_ret2
    exact ⟨by rw [HR.out]; rfl, B1⟩

theorem fieldS0 (a b : Int) (w : World) : (Instr.field 37 (.agg #[.int .i64 a, .int .i64 b]) 0).run Try.prog w = .ok (.int .i64 a) w := by kernel_rfl
theorem fieldS1 (a b : Int) (w : World) : (Instr.field 37 (.agg #[.int .i64 a, .int .i64 b]) 1).run Try.prog w = .ok (.int .i64 b) w := by kernel_rfl
abbrev Sf (w : World) (ba bp by_ bg off : Nat) (a : Air) (p y z : Pt) (X : World) : Prop :=
  Bl w X ∧ X.cell? ⟨ba, 0, none⟩ = some (.int .i64 a.s) ∧ X.cell? ⟨ba, 1, none⟩ = some (.int .i64 a.w) ∧ X.cell? ⟨bp, 0, none⟩ = some (.int .i64 p.x) ∧ X.cell? ⟨bp, 1, none⟩ = some (.int .i64 p.y) ∧ X.cell? ⟨by_, 0, none⟩ = some (.int .i64 y.x) ∧ X.cell? ⟨by_, 1, none⟩ = some (.int .i64 y.y) ∧ X.cell? ⟨bg, off, none⟩ = some (.int .i64 z.x) ∧ X.cell? ⟨bg, off + 1, none⟩ = some (.int .i64 z.y)
theorem Sf.t {w X X' : World} {ba bp by_ bg off : Nat} {a : Air} {p y z : Pt} (h : Sf w ba bp by_ bg off a p y z X) (hb : Bl X X') : Sf w ba bp by_ bg off a p y z X' := by
  obtain ⟨h0, h1, h2, h3, h4, h5, h6, h7, h8⟩ := h
  exact ⟨h0.tr hb, kcb hb h1, kcb hb h2, kcb hb h3, kcb hb h4, kcb hb h5, kcb hb h6, kcb hb h7, kcb hb h8⟩

set_option maxRecDepth 100000 in
set_option maxHeartbeats 6400000 in
theorem rFirst_any (a : Air) (p : Pt) (A : Option Addr) (n c : Nat) (T : Nat → Pt) (w : World) (hA : Pl w A n T) (hn : n ≤ maxLen) :
    Calls Try.prog 40 #[encA a, .slice A n c, encP p] w fun e w' => e = .returned (r2 (firR a p T n)) ∧ Bl w w' := by
  have HA := Lib.hid hA
  clear hA
  unfold maxLen at hn
  by_cases ha : VA a
  · have Q0 := Lib.hid (show decide (VA a) = true from decide_eq_true ha)
    have HAA := Lib.hid ha
    clear ha
    by_cases h16 : 1 ≤ n ∧ n ≤ 6
    · have Q1 := Lib.hid (show decide (1 ≤ (n : Int) ∧ (n : Int) ≤ 6) = true from decide_eq_true ⟨by omega, by omega⟩)
      by_cases hp : isP p
      · have Q2 := Lib.hid (show decide (isP p) = true from decide_eq_true hp)
        have HP := Lib.hid hp
        clear hp
        go_enter Try.func40, Try.ntmps40
        go_wp2_with fail
        refine (rvalidAir_any a _).mono ?_
        rintro q1 w1 ⟨rfl, hb⟩
        have xa0 := kcb hb (b := w.heap.size) (o := 0) (v := .int .i64 a.s) (by first | assumption | (refine cellUp ?_; assumption) | go_cell)
        have xa1 := kcb hb (b := w.heap.size) (o := 1) (v := .int .i64 a.w) (by first | assumption | (refine cellUp ?_; assumption) | go_cell)
        have xp0 := kcb hb (b := w.heap.size + 1) (o := 0) (v := .int .i64 p.x) (by first | assumption | (refine cellUp ?_; assumption) | go_cell)
        have xp1 := kcb hb (b := w.heap.size + 1) (o := 1) (v := .int .i64 p.y) (by first | assumption | (refine cellUp ?_; assumption) | go_cell)
        have B1 : Bl w w1 := Below.trans (by go_grown) (hb.mono (by (try simp only [World.size_alloc, World.size_setCell]); omega))
        have l1 := ltb xp1
        have l1_1 := ltb xa1
        have zz1 := B1.size
        clear hb
        rw [Q0.out]
        go_wp2_with fail
        refine (within5_any _ _ _ _).mono ?_
        rintro e9 w9 ⟨rfl, rfl⟩
        rw [Q1.out]
        go_wp2_with fail
        refine (place5_any p _).mono ?_
        rintro q2 w2 ⟨rfl, hb⟩
        have xa0 := kcb hb (b := w.heap.size) (o := 0) (v := .int .i64 a.s) (by first | assumption | (refine cellUp ?_; assumption) | go_cell)
        have xa1 := kcb hb (b := w.heap.size) (o := 1) (v := .int .i64 a.w) (by first | assumption | (refine cellUp ?_; assumption) | go_cell)
        have xp0 := kcb hb (b := w.heap.size + 1) (o := 0) (v := .int .i64 p.x) (by first | assumption | (refine cellUp ?_; assumption) | go_cell)
        have xp1 := kcb hb (b := w.heap.size + 1) (o := 1) (v := .int .i64 p.y) (by first | assumption | (refine cellUp ?_; assumption) | go_cell)
        have B2 : Bl w w2 := Below.trans (by go_grown) (hb.mono (by (try simp only [World.size_alloc, World.size_setCell]); omega))
        have l2 := ltb xp1
        have l2_1 := ltb xa1
        have zz2 := B2.size
        clear hb
        rw [Q2.out]
        go_wp2_with fail
        obtain ⟨V, hV⟩ : ∃ V, V = w2 := ⟨_, rfl⟩
        rw [← hV]
        have TV : Tb w V a p := by rw [hV]; exact ⟨xa0, xa1, xp0, xp1⟩
        have BV : Bl w V := by rw [hV]; exact B2
        clear hV
        obtain ⟨n1, n6⟩ := h16
        go_loopw [8, 25] (fun u i wr => ∃ k m : Nat, k ≤ n ∧ m < n ∧ i = .int .i64 k ∧ u = .int .i64 m ∧ Hid (m = fst1 (fun j => (lagP a p (T j)).2) k) ∧ Hid (∀ j, j < k → isP (T j)) ∧ Hid (Tb w wr a p) ∧ Bl w wr) (fun _ i _ => n - (RowKit.intOf i).toNat)
        case atStart => exact ⟨0, 0, by omega, by omega, rfl, rfl, rfl, fun j hj => absurd hj (by omega), TV, BV⟩
        case round =>
          obtain ⟨k, m, hk, hm, rfl, rfl, HM, HG, HT, hB⟩ := hrel
          have zB := hB.size
          obtain ⟨ca0, ca1, cp0, cp1⟩ := HT.out
          have la := ltb ca0
          have lp := ltb cp0
          by_cases hlt : k < n
          · obtain ⟨b, off, rfl, hbb, hc⟩ := (HA.out.below hB) (by omega)
            obtain ⟨c0, c1⟩ := hc k hlt
            obtain ⟨d0, d1⟩ := hc m hm
            clear hc
            obtain ⟨y, hy⟩ : ∃ y, y = T k := ⟨_, rfl⟩
            obtain ⟨z, hz⟩ : ∃ y, y = T m := ⟨_, rfl⟩
            rw [← hy] at c0 c1
            rw [← hz] at d0 d1
            by_cases hyP : isP y
            · have QY := Lib.hid (show decide (isP y) = true from decide_eq_true hyP)
              have HY := Lib.hid hyP
              have HG1 := Lib.hid (show ∀ j, j < k + 1 → isP (T j) from fun j hj => by
                by_cases e : j = k
                · rw [e, ← hy]; exact hyP
                · exact HG.out j (by omega))
              have HZ : Hid (isP z) := Lib.hid (by
                rw [hz, HM.out]
                have := fst1_lt (fun j => (lagP a p (T j)).2) (n := k + 1) (k := k) (by omega) (by omega)
                exact HG1.out _ this)
              clear hyP
              by_cases q : (lagP a y p).2 < (lagP a z p).2
              · skip
                have e1 : (lagP a p (T k)).2 = (lagP a y p).2 := by rw [lagP_comm, ← hy]
                have e2 : (lagP a p (T m)).2 = (lagP a z p).2 := by rw [lagP_comm, ← hz]
                have HM' : Hid (k = fst1 (fun j => (lagP a p (T j)).2) (k + 1)) := Lib.hid (by rw [fst1, ← HM.out]; simp only [e1, e2, if_pos q])
                clear hy hz e1 e2
                go_wp2_with fail
                refine (place5_any y _).mono ?_
                rintro q3 w3 ⟨rfl, hb⟩
                rw [QY.out]
                have X3 : Bl wr w3 := Below.trans (by go_grown) (hb.mono (by (try simp only [World.size_alloc, World.size_setCell]); omega))
                have z3 := X3.size
                have S3 : Sf wr w.heap.size (w.heap.size + 1) wr.heap.size b (off + m * 2) a p y z w3 := ⟨X3, kcb X3 ca0, kcb X3 ca1, kcb X3 cp0, kcb X3 cp1, kcb hb (b := wr.heap.size) (o := 0) (v := .int .i64 y.x) (by go_cell), kcb hb (b := wr.heap.size) (o := 1) (v := .int .i64 y.y) (by go_cell), kcb X3 d0, kcb X3 d1⟩
                clear hb
                have F1 := fieldS1 (lagP a y p).1 (lagP a y p).2
                have F2 := fieldS1 (lagP a z p).1 (lagP a z p).2
                have hy1 := HY.out
                have hz1 := HZ.out
                go_wp2_with fail
                go_region_held3 (fun w' => Bl wr w' ∧ w'.cell? ⟨w.heap.size, 0, none⟩ = some (.int .i64 a.s) ∧ w'.cell? ⟨w.heap.size, 1, none⟩ = some (.int .i64 a.w) ∧ w'.cell? ⟨w.heap.size + 1, 0, none⟩ = some (.int .i64 p.x) ∧ w'.cell? ⟨w.heap.size + 1, 1, none⟩ = some (.int .i64 p.y) ∧ w'.cell? ⟨wr.heap.size, 0, none⟩ = some (.int .i64 y.x) ∧ w'.cell? ⟨wr.heap.size, 1, none⟩ = some (.int .i64 y.y) ∧ w'.cell? ⟨b, off + m * 2, none⟩ = some (.int .i64 z.x) ∧ w'.cell? ⟨b, off + m * 2 + 1, none⟩ = some (.int .i64 z.y)) (first | exact Sf.t S3 (Bl.dr _ 1) | exact Sf.t (by assumption) hh0) (first | (go_at_call 60; refine (lag5_any a _ p _ HAA.out (by assumption) HP.out).mono ?_; rintro e v0 ⟨rfl, hh0⟩))
                all_goals
                  rename_i hHeld
                  have hHB := hHeld.1
                  clear hHeld
                  go_wp2_with fail
                  go_roundw
                  case rel => exact ⟨k + 1, k, by omega, by omega, by go_num, by go_num, HM', HG1.out, HT.out.bl hHB, hB.tr hHB⟩
                  case measure => simp [RowKit.intOf]; omega
              · skip
                have e1 : (lagP a p (T k)).2 = (lagP a y p).2 := by rw [lagP_comm, ← hy]
                have e2 : (lagP a p (T m)).2 = (lagP a z p).2 := by rw [lagP_comm, ← hz]
                have HM' : Hid (m = fst1 (fun j => (lagP a p (T j)).2) (k + 1)) := Lib.hid (by rw [fst1, ← HM.out]; simp only [e1, e2, if_neg q])
                clear hy hz e1 e2
                go_wp2_with fail
                refine (place5_any y _).mono ?_
                rintro q3 w3 ⟨rfl, hb⟩
                rw [QY.out]
                have X3 : Bl wr w3 := Below.trans (by go_grown) (hb.mono (by (try simp only [World.size_alloc, World.size_setCell]); omega))
                have z3 := X3.size
                have S3 : Sf wr w.heap.size (w.heap.size + 1) wr.heap.size b (off + m * 2) a p y z w3 := ⟨X3, kcb X3 ca0, kcb X3 ca1, kcb X3 cp0, kcb X3 cp1, kcb hb (b := wr.heap.size) (o := 0) (v := .int .i64 y.x) (by go_cell), kcb hb (b := wr.heap.size) (o := 1) (v := .int .i64 y.y) (by go_cell), kcb X3 d0, kcb X3 d1⟩
                clear hb
                have F1 := fieldS1 (lagP a y p).1 (lagP a y p).2
                have F2 := fieldS1 (lagP a z p).1 (lagP a z p).2
                have hy1 := HY.out
                have hz1 := HZ.out
                go_wp2_with fail
                go_region_held3 (fun w' => Bl wr w' ∧ w'.cell? ⟨w.heap.size, 0, none⟩ = some (.int .i64 a.s) ∧ w'.cell? ⟨w.heap.size, 1, none⟩ = some (.int .i64 a.w) ∧ w'.cell? ⟨w.heap.size + 1, 0, none⟩ = some (.int .i64 p.x) ∧ w'.cell? ⟨w.heap.size + 1, 1, none⟩ = some (.int .i64 p.y) ∧ w'.cell? ⟨wr.heap.size, 0, none⟩ = some (.int .i64 y.x) ∧ w'.cell? ⟨wr.heap.size, 1, none⟩ = some (.int .i64 y.y) ∧ w'.cell? ⟨b, off + m * 2, none⟩ = some (.int .i64 z.x) ∧ w'.cell? ⟨b, off + m * 2 + 1, none⟩ = some (.int .i64 z.y)) (first | exact Sf.t S3 (Bl.dr _ 1) | exact Sf.t (by assumption) hh0) (first | (go_at_call 60; refine (lag5_any a _ p _ HAA.out (by assumption) HP.out).mono ?_; rintro e v0 ⟨rfl, hh0⟩))
                all_goals
                  rename_i hHeld
                  have hHB := hHeld.1
                  clear hHeld
                  go_wp2_with fail
                  go_roundw
                  case rel => exact ⟨k + 1, m, by omega, by omega, by go_num, by go_num, HM', HG1.out, HT.out.bl hHB, hB.tr hHB⟩
                  case measure => simp [RowKit.intOf]; omega
            · have QY := Lib.hid (show decide (isP y) = false from decide_eq_false hyP)
              have HR := Lib.hid (show firR a p T n = (0, 7) by unfold firR; rw [if_pos HAA.out, if_neg (fun g => hyP (by rw [hy]; exact g.2.2 k hlt))])
              clear hyP hy hz
              go_wp2_with fail
              refine (place5_any y _).mono ?_
              rintro q3 w3 ⟨rfl, hb⟩
              rw [QY.out]
              have X3 : Bl wr w3 := Below.trans (by go_grown) (hb.mono (by (try simp only [World.size_alloc, World.size_setCell]); omega))
              clear hb
              go_wp2_with fail
              go_ret2
              exact ⟨by rw [HR.out]; rfl, hB.tr X3⟩
          · obtain rfl : n = k := by omega
            have HR := Lib.hid (show firR a p T n = (((fst1 (fun j => (lagP a p (T j)).2) n : Nat) : Int), 0) by unfold firR; rw [if_pos HAA.out, if_pos ⟨HP.out, ⟨n1, n6⟩, HG.out⟩])
            go_wp2_with fail
            go_ret2
            exact ⟨by rw [HR.out, ← HM.out]; rfl, hB⟩
      · have Q2 := Lib.hid (show decide (isP p) = false from decide_eq_false hp)
        have HR := Lib.hid (show firR a p T n = (0, 7) by unfold firR; rw [if_pos HAA.out, if_neg (fun g => hp g.1)])
        clear hp
        go_enter Try.func40, Try.ntmps40
        go_wp2_with fail
        refine (rvalidAir_any a _).mono ?_
        rintro q1 w1 ⟨rfl, hb⟩
        have xa0 := kcb hb (b := w.heap.size) (o := 0) (v := .int .i64 a.s) (by first | assumption | (refine cellUp ?_; assumption) | go_cell)
        have xa1 := kcb hb (b := w.heap.size) (o := 1) (v := .int .i64 a.w) (by first | assumption | (refine cellUp ?_; assumption) | go_cell)
        have xp0 := kcb hb (b := w.heap.size + 1) (o := 0) (v := .int .i64 p.x) (by first | assumption | (refine cellUp ?_; assumption) | go_cell)
        have xp1 := kcb hb (b := w.heap.size + 1) (o := 1) (v := .int .i64 p.y) (by first | assumption | (refine cellUp ?_; assumption) | go_cell)
        have B1 : Bl w w1 := Below.trans (by go_grown) (hb.mono (by (try simp only [World.size_alloc, World.size_setCell]); omega))
        have l1 := ltb xp1
        have l1_1 := ltb xa1
        have zz1 := B1.size
        clear hb
        rw [Q0.out]
        go_wp2_with fail
        refine (within5_any _ _ _ _).mono ?_
        rintro e9 w9 ⟨rfl, rfl⟩
        rw [Q1.out]
        go_wp2_with fail
        refine (place5_any p _).mono ?_
        rintro q2 w2 ⟨rfl, hb⟩
        have xa0 := kcb hb (b := w.heap.size) (o := 0) (v := .int .i64 a.s) (by first | assumption | (refine cellUp ?_; assumption) | go_cell)
        have xa1 := kcb hb (b := w.heap.size) (o := 1) (v := .int .i64 a.w) (by first | assumption | (refine cellUp ?_; assumption) | go_cell)
        have xp0 := kcb hb (b := w.heap.size + 1) (o := 0) (v := .int .i64 p.x) (by first | assumption | (refine cellUp ?_; assumption) | go_cell)
        have xp1 := kcb hb (b := w.heap.size + 1) (o := 1) (v := .int .i64 p.y) (by first | assumption | (refine cellUp ?_; assumption) | go_cell)
        have B2 : Bl w w2 := Below.trans (by go_grown) (hb.mono (by (try simp only [World.size_alloc, World.size_setCell]); omega))
        have l2 := ltb xp1
        have l2_1 := ltb xa1
        have zz2 := B2.size
        clear hb
        rw [Q2.out]
        go_wp2_with fail
        go_ret2
        exact ⟨by rw [HR.out]; rfl, by go_grown⟩
    · have Q1 := Lib.hid (show decide (1 ≤ (n : Int) ∧ (n : Int) ≤ 6) = false from decide_eq_false (fun g => h16 ⟨by have := g.1; omega, by have := g.2; omega⟩))
      have HR := Lib.hid (show firR a p T n = (0, 7) by unfold firR; rw [if_pos HAA.out, if_neg (fun g => h16 g.2.1)])
      clear h16
      go_enter Try.func40, Try.ntmps40
      go_wp2_with fail
      refine (rvalidAir_any a _).mono ?_
      rintro q1 w1 ⟨rfl, hb⟩
      have xa0 := kcb hb (b := w.heap.size) (o := 0) (v := .int .i64 a.s) (by first | assumption | (refine cellUp ?_; assumption) | go_cell)
      have xa1 := kcb hb (b := w.heap.size) (o := 1) (v := .int .i64 a.w) (by first | assumption | (refine cellUp ?_; assumption) | go_cell)
      have xp0 := kcb hb (b := w.heap.size + 1) (o := 0) (v := .int .i64 p.x) (by first | assumption | (refine cellUp ?_; assumption) | go_cell)
      have xp1 := kcb hb (b := w.heap.size + 1) (o := 1) (v := .int .i64 p.y) (by first | assumption | (refine cellUp ?_; assumption) | go_cell)
      have B1 : Bl w w1 := Below.trans (by go_grown) (hb.mono (by (try simp only [World.size_alloc, World.size_setCell]); omega))
      have l1 := ltb xp1
      have l1_1 := ltb xa1
      have zz1 := B1.size
      clear hb
      rw [Q0.out]
      go_wp2_with fail
      refine (within5_any _ _ _ _).mono ?_
      rintro e9 w9 ⟨rfl, rfl⟩
      rw [Q1.out]
      go_wp2_with fail
      go_ret2
      exact ⟨by rw [HR.out]; rfl, by go_grown⟩
  · have Q0 := Lib.hid (show decide (VA a) = false from decide_eq_false ha)
    have HR := Lib.hid (show firR a p T n = (0, 1) by unfold firR; rw [if_neg ha])
    clear ha
    go_enter Try.func40, Try.ntmps40
    go_wp2_with fail
    refine (rvalidAir_any a _).mono ?_
    rintro q1 w1 ⟨rfl, hb⟩
    have xa0 := kcb hb (b := w.heap.size) (o := 0) (v := .int .i64 a.s) (by first | assumption | (refine cellUp ?_; assumption) | go_cell)
    have xa1 := kcb hb (b := w.heap.size) (o := 1) (v := .int .i64 a.w) (by first | assumption | (refine cellUp ?_; assumption) | go_cell)
    have xp0 := kcb hb (b := w.heap.size + 1) (o := 0) (v := .int .i64 p.x) (by first | assumption | (refine cellUp ?_; assumption) | go_cell)
    have xp1 := kcb hb (b := w.heap.size + 1) (o := 1) (v := .int .i64 p.y) (by first | assumption | (refine cellUp ?_; assumption) | go_cell)
    have B1 : Bl w w1 := Below.trans (by go_grown) (hb.mono (by (try simp only [World.size_alloc, World.size_setCell]); omega))
    have l1 := ltb xp1
    have l1_1 := ltb xa1
    have zz1 := B1.size
    clear hb
    rw [Q0.out]
    go_wp2_with fail
    go_ret2
    exact ⟨by rw [HR.out]; rfl, by go_grown⟩
end Go.Proofs.Ytangijdonkkglaa
