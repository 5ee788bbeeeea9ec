/-
  Contracts of package gun: Excluded.
-/
import Derived.Test.YthemoomfbbccjaaHA
namespace Go.Proofs.Ythemoomfbbccjaa
open Go.RowKit
set_option linter.unusedSimpArgs false
set_option linter.unusedVariables false

def mtB (a : Air) (lo hi : Pt) (s : Sho) : Prop := mt (boxL a s.p lo hi).1 (boxL a s.p lo hi).2 s.lo s.hi
instance (a : Air) (lo hi : Pt) (s : Sho) : Decidable (mtB a lo hi s) := by unfold mtB; infer_instance
def allB (a : Air) (lo hi : Pt) (S : Nat → Sho) (n : Nat) : Prop := ∀ j, j < n → mtB a lo hi (S j)
instance (a : Air) (lo hi : Pt) (S : Nat → Sho) (n : Nat) : Decidable (allB a lo hi S n) := by unfold allB; infer_instance
def exclR (a : Air) (S : Nat → Sho) (n : Nat) (lo hi : Pt) : Bool × Int := if VA a ∧ VSh S n then (if boxOk lo hi then (!decide (allB a lo hi S n), 0) else (false, 7)) else (false, 1)
/-- The boxes that the closure holds. -/
abbrev Sx (w : World) (bx ba : Nat) (lo hi : Pt) (a : Air) (X : World) : Prop :=
  Bl w X ∧ X.cell? ⟨bx, 0, none⟩ = some (.int .i64 lo.x) ∧ X.cell? ⟨bx, 1, none⟩ = some (.int .i64 lo.y) ∧ X.cell? ⟨bx, 2, none⟩ = some (.int .i64 hi.x) ∧ X.cell? ⟨bx, 3, none⟩ = some (.int .i64 hi.y) ∧ X.cell? ⟨ba, 0, none⟩ = some (.int .i64 a.s) ∧ X.cell? ⟨ba, 1, none⟩ = some (.int .i64 a.w)
theorem Sx.t {w X X' : World} {bx ba : Nat} {lo hi : Pt} {a : Air} (h : Sx w bx ba lo hi a X) (hb : Bl X X') : Sx w bx ba lo hi a X' := by
  obtain ⟨h0, h1, h2, h3, h4, h5, h6⟩ := h
  exact ⟨h0.tr hb, kcb hb h1, kcb hb h2, kcb hb h3, kcb hb h4, kcb hb h5, kcb hb h6⟩
abbrev Sy (w : World) (bx ba bs : Nat) (lo hi : Pt) (a : Air) (s : Sho) (X : World) : Prop :=
  Bl w X ∧ X.cell? ⟨bx, 0, none⟩ = some (.int .i64 lo.x) ∧ X.cell? ⟨bx, 1, none⟩ = some (.int .i64 lo.y) ∧ X.cell? ⟨bx, 2, none⟩ = some (.int .i64 hi.x) ∧ X.cell? ⟨bx, 3, none⟩ = some (.int .i64 hi.y) ∧ X.cell? ⟨ba, 0, none⟩ = some (.int .i64 a.s) ∧ X.cell? ⟨ba, 1, none⟩ = some (.int .i64 a.w) ∧ X.cell? ⟨bs, 0, none⟩ = some (.int .i64 s.p.x) ∧ X.cell? ⟨bs, 1, none⟩ = some (.int .i64 s.p.y) ∧ X.cell? ⟨bs, 2, none⟩ = some (.int .i64 s.lo) ∧ X.cell? ⟨bs, 3, none⟩ = some (.int .i64 s.hi) ∧ bx < X.heap.size ∧ ba < X.heap.size ∧ bs < X.heap.size
theorem Sy.t {w X X' : World} {bx ba bs : Nat} {lo hi : Pt} {a : Air} {s : Sho} (h : Sy w bx ba bs lo hi a s X) (hb : Bl X X') : Sy w bx ba bs lo hi a s X' := by
  obtain ⟨h0, h1, h2, h3, h4, h5, h6, h7, h8, h9, h10, h11, h12, h13⟩ := h
  exact ⟨h0.tr hb, kcb hb h1, kcb hb h2, kcb hb h3, kcb hb h4, kcb hb h5, kcb hb h6, kcb hb h7, kcb hb h8, kcb hb h9, kcb hb h10, Nat.lt_of_lt_of_le h11 hb.size, Nat.lt_of_lt_of_le h12 hb.size, Nat.lt_of_lt_of_le h13 hb.size⟩

set_option maxRecDepth 100000 in
set_option maxHeartbeats 3200000 in
theorem excl1_any (lo hi : Pt) (a : Air) (s : Sho) (bx ba : Nat) (w : World) (ha : VA a) (hs : vSh s) (hb : boxOk lo hi) (hS : Sx w bx ba lo hi a w) :
    Calls Try.prog 28 #[encS s, .pointer (some ⟨bx, 0, none⟩), .pointer (some ⟨ba, 0, none⟩)] w fun e w' => e = .returned (.bool (!decide (mtB a lo hi s))) ∧ Bl w w' := by
  obtain ⟨b1, b2, b3⟩ := boxL_ok ha hs.1 hb
  obtain ⟨u, v, huv⟩ : ∃ u v, boxL a s.p lo hi = (u, v) := ⟨_, _, rfl⟩
  have V1 : Hid (vS u v = true) := Lib.hid (lagSp (by rw [huv] at b1; exact b1) (by rw [huv] at b2; exact b2) (by rw [huv] at b3; omega))
  have V2 : Hid (vS s.lo s.hi = true) := Lib.hid (lagSp hs.2.1 hs.2.2.1 hs.2.2.2)
  have e0 : mtB a lo hi s ↔ mt u v s.lo s.hi := by unfold mtB; rw [huv]
  have HI := Lib.hid (show decide (mt u v s.lo s.hi) = decide (mtB a lo hi s) from decide_eq_decide.2 e0.symm)
  clear e0
  have HUV := Lib.hid huv
  have HAA := Lib.hid ha
  have HP := Lib.hid hs.1
  have HB := Lib.hid hb
  obtain ⟨y, hy⟩ : ∃ y, y = decide (mtB a lo hi s) := ⟨_, rfl⟩
  have HY := Lib.hid (HI.out.trans hy.symm)
  rw [← hy]
  have lx := ltb hS.2.1
  have la := ltb hS.2.2.2.2.2.1
  have HSS := Lib.hid hS
  clear b1 b2 b3 huv ha hs hb hy hS HI
  go_enter Try.func28, Try.ntmps28
  go_wp2_with fail
  obtain ⟨X, hX⟩ : ∃ X, X = w.alloc (Obj.cells #[.int .i64 s.p.x, .int .i64 s.p.y, .int .i64 s.lo, .int .i64 s.hi] 44) := ⟨_, rfl⟩
  have BX : Bl w X := by rw [hX]; go_grown
  have S0 : Sy w bx ba w.heap.size lo hi a s X := by
    obtain ⟨_, h1, h2, h3, h4, h5, h6⟩ := HSS.out
    exact ⟨BX, kcb BX h1, kcb BX h2, kcb BX h3, kcb BX h4, kcb BX h5, kcb BX h6, by rw [hX]; go_cell, by rw [hX]; go_cell, by rw [hX]; go_cell, by rw [hX]; go_cell, by rw [hX]; (try simp only [World.size_alloc]); omega, by rw [hX]; (try simp only [World.size_alloc]); omega, by rw [hX]; (try simp only [World.size_alloc]); omega⟩
  (try rw [← hX])
  clear hX
  go_region_held3 (fun w' => Bl w w' ∧ w'.cell? ⟨bx, 0, none⟩ = some (.int .i64 lo.x) ∧ w'.cell? ⟨bx, 1, none⟩ = some (.int .i64 lo.y) ∧ w'.cell? ⟨bx, 2, none⟩ = some (.int .i64 hi.x) ∧ w'.cell? ⟨bx, 3, none⟩ = some (.int .i64 hi.y) ∧ w'.cell? ⟨ba, 0, none⟩ = some (.int .i64 a.s) ∧ w'.cell? ⟨ba, 1, none⟩ = some (.int .i64 a.w) ∧ w'.cell? ⟨w.heap.size, 0, none⟩ = some (.int .i64 s.p.x) ∧ w'.cell? ⟨w.heap.size, 1, none⟩ = some (.int .i64 s.p.y) ∧ w'.cell? ⟨w.heap.size, 2, none⟩ = some (.int .i64 s.lo) ∧ w'.cell? ⟨w.heap.size, 3, none⟩ = some (.int .i64 s.hi) ∧ bx < w'.heap.size ∧ ba < w'.heap.size ∧ w.heap.size < w'.heap.size) (first | exact Sy.t S0 (Bl.dr _ 1) | exact Sy.t (by assumption) hh0 | exact Sy.t (by assumption) hh1) (first | (go_at_call 30; refine (boxLags_any lo hi a s.p _ HAA.out HP.out HB.out).mono ?_; rintro e v0 ⟨rfl, hh0⟩; rw [HUV.out]) | (go_at_call 29; refine (overlap_any u v s.lo s.hi _ V1.out V2.out).mono ?_; rintro e v1 ⟨rfl, hh1⟩; rw [HY.out]))
  all_goals
    rename_i hHeld
    have hHB := hHeld.1
    clear hHeld
    go_wp2_with fail
    go_ret
    exact ⟨rfl, hHB⟩
set_option maxHeartbeats 1600000 in
theorem indexX_any (A : Option Addr) (n c : Nat) (S : Nat → Sho) (lo hi : Pt) (a : Air) (bx ba : Nat) (w : World) (hA : Shl w A n S) (hn : n ≤ 6) (ha : VA a) (hv : ∀ j, j < n → vSh (S j)) (hb : boxOk lo hi) (hS : Sx w bx ba lo hi a w) :
    Calls Try.prog 43 #[.slice A n c, .func (.func 28) #[] #[.pointer (some ⟨bx, 0, none⟩), .pointer (some ⟨ba, 0, none⟩)]] w fun e w' => (∃ i, e = .returned (.int .i64 i) ∧ (0 ≤ i ↔ ¬ allB a lo hi S n)) ∧ Bl w w' := by
  have HA := Lib.hid hA
  have HAA := Lib.hid ha
  have HV := Lib.hid hv
  have HB := Lib.hid hb
  have HS := Lib.hid hS
  clear hA ha hv hb hS
  go_enter Try.func43, Try.ntmps43
  go_wp2_with fail
  go_loopw [8] (fun i wr => ∃ k : Nat, k ≤ n ∧ i = .int .i64 k ∧ Hid (allB a lo hi S k) ∧ Bl w wr) (fun i _ => n - (RowKit.intOf i).toNat)
  case atStart => exact ⟨0, Nat.zero_le _, rfl, fun j hj => absurd hj (by omega), Bl.rf _⟩
  case round =>
    obtain ⟨k, hk, rfl, HN, hB⟩ := hrel
    by_cases hlt : k < n
    · obtain ⟨b', off, rfl, hbb, hc⟩ := (HA.out.below hB) (by omega)
      obtain ⟨c0, c1, c2, c3⟩ := hc k hlt
      clear hc
      obtain ⟨y, hy⟩ : ∃ y, y = S k := ⟨_, rfl⟩
      rw [← hy] at c0 c1 c2 c3
      have HY := Lib.hid (show vSh y by rw [hy]; exact HV.out k hlt)
      have SW := Sx.t HS.out hB
      have HSW := Lib.hid (⟨Bl.rf _, SW.2⟩ : Sx wr bx ba lo hi a wr)
      clear SW
      by_cases q : mtB a lo hi y
      · have HI := Lib.hid (show allB a lo hi S (k + 1) from fun j hj => by
          by_cases e : j = k
          · rw [e, ← hy]; exact q
          · exact HN.out j (by omega))
        have Q := Lib.hid (show (!decide (mtB a lo hi y)) = false by simp [q])
        clear q hy
        go_wp2_with fail
        refine (excl1_any lo hi a y bx ba _ HAA.out HY.out HB.out HSW.out).mono ?_
        rintro e w1 ⟨rfl, hb⟩
        have B1 : Bl w w1 := hB.tr hb
        clear hb
        rw [Q.out]
        go_wp2_with fail
        go_roundw
        case rel => exact ⟨k + 1, by omega, by go_num, HI.out, B1⟩
        case measure => simp [RowKit.intOf]; omega
      · have HI := Lib.hid (show ¬ allB a lo hi S n from fun g => q (by rw [hy]; exact g k hlt))
        have Q := Lib.hid (show (!decide (mtB a lo hi y)) = true by simp [q])
        clear q hy
        go_wp2_with fail
        refine (excl1_any lo hi a y bx ba _ HAA.out HY.out HB.out HSW.out).mono ?_
        rintro e w1 ⟨rfl, hb⟩
        have B1 : Bl w w1 := hB.tr hb
        clear hb
        rw [Q.out]
        go_wp2_with fail
        go_ret
        exact ⟨⟨(k : Int), rfl, ⟨fun _ => HI.out, fun _ => by omega⟩⟩, B1⟩
    · obtain rfl : n = k := by omega
      go_wp2_with fail
      go_ret
      exact ⟨⟨-1, rfl, ⟨fun g => by omega, fun g => absurd HN.out g⟩⟩, hB⟩
set_option maxHeartbeats 1600000 in
theorem containsX_any (A : Option Addr) (n c : Nat) (S : Nat → Sho) (lo hi : Pt) (a : Air) (bx ba : Nat) (w : World) (hA : Shl w A n S) (hn : n ≤ 6) (ha : VA a) (hv : ∀ j, j < n → vSh (S j)) (hb : boxOk lo hi) (hS : Sx w bx ba lo hi a w) :
    Calls Try.prog 27 #[.slice A n c, .func (.func 28) #[] #[.pointer (some ⟨bx, 0, none⟩), .pointer (some ⟨ba, 0, none⟩)]] w fun e w' => e = .returned (.bool (!decide (allB a lo hi S n))) ∧ Bl w w' := by
  go_enter Try.func27, Try.ntmps27
  go_wp2_with fail
  refine (indexX_any A n c S lo hi a bx ba _ hA hn ha hv hb hS).mono ?_
  rintro e w1 ⟨⟨i, rfl, hi'⟩, B1⟩
  have HI := Lib.hid (show decide (0 ≤ i) = !decide (allB a lo hi S n) by
    by_cases g : allB a lo hi S n
    · rw [decide_eq_true g]
      exact decide_eq_false (fun k => hi'.1 k g)
    · rw [decide_eq_false g]
      exact decide_eq_true (hi'.2 g))
  clear hi'
  go_wp2_with fail
  go_ret
  exact ⟨ret_bool HI.out, B1⟩

set_option maxRecDepth 100000 in
set_option maxHeartbeats 3200000 in
theorem Excluded_any (a : Air) (A : Option Addr) (n c : Nat) (S : Nat → Sho) (lo hi : Pt) (w : World) (hA : Shl w A n S) (hn : n ≤ maxLen) :
    Calls Try.prog 10 #[encA a, .slice A n c, encP lo, encP hi] w fun e w' => e = .returned (rB (exclR a S n lo hi)) ∧ Bl w w' := by
  have HA := Lib.hid hA
  have HN := Lib.hid hn
  clear hA hn
  by_cases ha : VA a
  · have Q0 := Lib.hid (show decide (VA a) = true from decide_eq_true ha)
    have HAA := Lib.hid ha
    by_cases hS : VSh S n
    · have Q1 := Lib.hid (show decide (VSh S n) = true from decide_eq_true hS)
      have n6 := hS.2.1
      have HV := Lib.hid hS.2.2
      by_cases hb : boxOk lo hi
      · have Q2 := Lib.hid (show decide (boxOk lo hi) = true from decide_eq_true hb)
        have HB := Lib.hid hb
        have HR := Lib.hid (show exclR a S n lo hi = (!decide (allB a lo hi S n), 0) by unfold exclR; rw [if_pos ⟨ha, hS⟩, if_pos hb])
        clear ha hS hb
        go_enter Try.func10, Try.ntmps10
        go_wp2_with fail
        refine (validAir_any a _).mono ?_
        rintro q1 w1 ⟨rfl, hb⟩
        have xa0 := kcb hb (b := w.heap.size) (o := 0) (v := .int .i64 a.s) (by first | assumption | (refine cellUp ?_; assumption) | go_cell)
        have xa1 := kcb hb (b := w.heap.size) (o := 1) (v := .int .i64 a.w) (by first | assumption | (refine cellUp ?_; assumption) | go_cell)
        have xlo0 := kcb hb (b := w.heap.size + 1) (o := 0) (v := .int .i64 lo.x) (by first | assumption | (refine cellUp ?_; assumption) | go_cell)
        have xlo1 := kcb hb (b := w.heap.size + 1) (o := 1) (v := .int .i64 lo.y) (by first | assumption | (refine cellUp ?_; assumption) | go_cell)
        have xhi0 := kcb hb (b := w.heap.size + 1 + 1) (o := 0) (v := .int .i64 hi.x) (by first | assumption | (refine cellUp ?_; assumption) | go_cell)
        have xhi1 := kcb hb (b := w.heap.size + 1 + 1) (o := 1) (v := .int .i64 hi.y) (by first | assumption | (refine cellUp ?_; assumption) | go_cell)
        have B1 : Bl w w1 := Below.trans (by go_grown) (hb.mono (by (try simp only [World.size_alloc, World.size_setCell]); omega))
        have l1 := ltb xhi1
        have l1_1 := ltb xlo1
        have l1_2 := ltb xa1
        have zz1 := B1.size
        clear hb
        rw [Q0.out]
        go_wp2_with fail
        refine (validShots_any A n c S _ (HA.out.below (by exact B1)) HN.out).mono ?_
        rintro q2 w2 ⟨rfl, hb⟩
        have xa0 := kcb hb (b := w.heap.size) (o := 0) (v := .int .i64 a.s) (by first | assumption | (refine cellUp ?_; assumption) | go_cell)
        have xa1 := kcb hb (b := w.heap.size) (o := 1) (v := .int .i64 a.w) (by first | assumption | (refine cellUp ?_; assumption) | go_cell)
        have xlo0 := kcb hb (b := w.heap.size + 1) (o := 0) (v := .int .i64 lo.x) (by first | assumption | (refine cellUp ?_; assumption) | go_cell)
        have xlo1 := kcb hb (b := w.heap.size + 1) (o := 1) (v := .int .i64 lo.y) (by first | assumption | (refine cellUp ?_; assumption) | go_cell)
        have xhi0 := kcb hb (b := w.heap.size + 1 + 1) (o := 0) (v := .int .i64 hi.x) (by first | assumption | (refine cellUp ?_; assumption) | go_cell)
        have xhi1 := kcb hb (b := w.heap.size + 1 + 1) (o := 1) (v := .int .i64 hi.y) (by first | assumption | (refine cellUp ?_; assumption) | go_cell)
        have B2 : Bl w w2 := Below.trans (by go_grown) (hb.mono (by (try simp only [World.size_alloc, World.size_setCell]); omega))
        have l2 := ltb xhi1
        have l2_1 := ltb xlo1
        have l2_2 := ltb xa1
        have zz2 := B2.size
        clear hb
        rw [Q1.out]
        go_wp2_with fail
        refine (boxValid_any lo hi _).mono ?_
        rintro q3 w3 ⟨rfl, hb⟩
        have xa0 := kcb hb (b := w.heap.size) (o := 0) (v := .int .i64 a.s) (by first | assumption | (refine cellUp ?_; assumption) | go_cell)
        have xa1 := kcb hb (b := w.heap.size) (o := 1) (v := .int .i64 a.w) (by first | assumption | (refine cellUp ?_; assumption) | go_cell)
        have xlo0 := kcb hb (b := w.heap.size + 1) (o := 0) (v := .int .i64 lo.x) (by first | assumption | (refine cellUp ?_; assumption) | go_cell)
        have xlo1 := kcb hb (b := w.heap.size + 1) (o := 1) (v := .int .i64 lo.y) (by first | assumption | (refine cellUp ?_; assumption) | go_cell)
        have xhi0 := kcb hb (b := w.heap.size + 1 + 1) (o := 0) (v := .int .i64 hi.x) (by first | assumption | (refine cellUp ?_; assumption) | go_cell)
        have xhi1 := kcb hb (b := w.heap.size + 1 + 1) (o := 1) (v := .int .i64 hi.y) (by first | assumption | (refine cellUp ?_; assumption) | go_cell)
        have xb0 := kcb hb (b := w2.heap.size) (o := 0) (v := .int .i64 lo.x) (by first | assumption | (refine cellUp ?_; assumption) | go_cell)
        have xb1 := kcb hb (b := w2.heap.size) (o := 1) (v := .int .i64 lo.y) (by first | assumption | (refine cellUp ?_; assumption) | go_cell)
        have xb2 := kcb hb (b := w2.heap.size) (o := 2) (v := .int .i64 hi.x) (by first | assumption | (refine cellUp ?_; assumption) | go_cell)
        have xb3 := kcb hb (b := w2.heap.size) (o := 3) (v := .int .i64 hi.y) (by first | assumption | (refine cellUp ?_; assumption) | go_cell)
        have B3 : Bl w w3 := Below.trans (by go_grown) (hb.mono (by (try simp only [World.size_alloc, World.size_setCell]); omega))
        have l3 := ltb xb3
        have l3_1 := ltb xhi1
        have l3_2 := ltb xlo1
        have l3_3 := ltb xa1
        have zz3 := B3.size
        clear hb
        rw [Q2.out]
        go_wp2_with fail
        refine (containsX_any A n c S lo hi a w2.heap.size w.heap.size _ (HA.out.below (by exact B3)) n6 HAA.out HV.out HB.out ⟨Bl.rf _, xb0, xb1, xb2, xb3, xa0, xa1⟩).mono ?_
        rintro q4 w4 ⟨rfl, hb⟩
        have xa0 := kcb hb (b := w.heap.size) (o := 0) (v := .int .i64 a.s) (by first | assumption | (refine cellUp ?_; assumption) | go_cell)
        have xa1 := kcb hb (b := w.heap.size) (o := 1) (v := .int .i64 a.w) (by first | assumption | (refine cellUp ?_; assumption) | go_cell)
        have xlo0 := kcb hb (b := w.heap.size + 1) (o := 0) (v := .int .i64 lo.x) (by first | assumption | (refine cellUp ?_; assumption) | go_cell)
        have xlo1 := kcb hb (b := w.heap.size + 1) (o := 1) (v := .int .i64 lo.y) (by first | assumption | (refine cellUp ?_; assumption) | go_cell)
        have xhi0 := kcb hb (b := w.heap.size + 1 + 1) (o := 0) (v := .int .i64 hi.x) (by first | assumption | (refine cellUp ?_; assumption) | go_cell)
        have xhi1 := kcb hb (b := w.heap.size + 1 + 1) (o := 1) (v := .int .i64 hi.y) (by first | assumption | (refine cellUp ?_; assumption) | go_cell)
        have xb0 := kcb hb (b := w2.heap.size) (o := 0) (v := .int .i64 lo.x) (by first | assumption | (refine cellUp ?_; assumption) | go_cell)
        have xb1 := kcb hb (b := w2.heap.size) (o := 1) (v := .int .i64 lo.y) (by first | assumption | (refine cellUp ?_; assumption) | go_cell)
        have xb2 := kcb hb (b := w2.heap.size) (o := 2) (v := .int .i64 hi.x) (by first | assumption | (refine cellUp ?_; assumption) | go_cell)
        have xb3 := kcb hb (b := w2.heap.size) (o := 3) (v := .int .i64 hi.y) (by first | assumption | (refine cellUp ?_; assumption) | go_cell)
        have B4 : Bl w w4 := Below.trans (by go_grown) (hb.mono (by (try simp only [World.size_alloc, World.size_setCell]); omega))
        have l4 := ltb xb3
        have l4_1 := ltb xhi1
        have l4_2 := ltb xlo1
        have l4_3 := ltb xa1
        have zz4 := B4.size
        clear hb
        go_wp2_with fail
        exact bodyPost_ret (v := rB (exclR a S n lo hi)) (by simp [results, Try.results10, go_sem, HR.out, rB]) rfl ⟨rfl, by go_grown⟩
      · have Q2 := Lib.hid (show decide (boxOk lo hi) = false from decide_eq_false hb)
        have HR := Lib.hid (show exclR a S n lo hi = (false, 7) by unfold exclR; rw [if_pos ⟨ha, hS⟩, if_neg hb])
        clear ha hS hb
        go_enter Try.func10, Try.ntmps10
        go_wp2_with fail
        refine (validAir_any a _).mono ?_
        rintro q1 w1 ⟨rfl, hb⟩
        have xa0 := kcb hb (b := w.heap.size) (o := 0) (v := .int .i64 a.s) (by first | assumption | (refine cellUp ?_; assumption) | go_cell)
        have xa1 := kcb hb (b := w.heap.size) (o := 1) (v := .int .i64 a.w) (by first | assumption | (refine cellUp ?_; assumption) | go_cell)
        have xlo0 := kcb hb (b := w.heap.size + 1) (o := 0) (v := .int .i64 lo.x) (by first | assumption | (refine cellUp ?_; assumption) | go_cell)
        have xlo1 := kcb hb (b := w.heap.size + 1) (o := 1) (v := .int .i64 lo.y) (by first | assumption | (refine cellUp ?_; assumption) | go_cell)
        have xhi0 := kcb hb (b := w.heap.size + 1 + 1) (o := 0) (v := .int .i64 hi.x) (by first | assumption | (refine cellUp ?_; assumption) | go_cell)
        have xhi1 := kcb hb (b := w.heap.size + 1 + 1) (o := 1) (v := .int .i64 hi.y) (by first | assumption | (refine cellUp ?_; assumption) | go_cell)
        have B1 : Bl w w1 := Below.trans (by go_grown) (hb.mono (by (try simp only [World.size_alloc, World.size_setCell]); omega))
        have l1 := ltb xhi1
        have l1_1 := ltb xlo1
        have l1_2 := ltb xa1
        have zz1 := B1.size
        clear hb
        rw [Q0.out]
        go_wp2_with fail
        refine (validShots_any A n c S _ (HA.out.below (by exact B1)) HN.out).mono ?_
        rintro q2 w2 ⟨rfl, hb⟩
        have xa0 := kcb hb (b := w.heap.size) (o := 0) (v := .int .i64 a.s) (by first | assumption | (refine cellUp ?_; assumption) | go_cell)
        have xa1 := kcb hb (b := w.heap.size) (o := 1) (v := .int .i64 a.w) (by first | assumption | (refine cellUp ?_; assumption) | go_cell)
        have xlo0 := kcb hb (b := w.heap.size + 1) (o := 0) (v := .int .i64 lo.x) (by first | assumption | (refine cellUp ?_; assumption) | go_cell)
        have xlo1 := kcb hb (b := w.heap.size + 1) (o := 1) (v := .int .i64 lo.y) (by first | assumption | (refine cellUp ?_; assumption) | go_cell)
        have xhi0 := kcb hb (b := w.heap.size + 1 + 1) (o := 0) (v := .int .i64 hi.x) (by first | assumption | (refine cellUp ?_; assumption) | go_cell)
        have xhi1 := kcb hb (b := w.heap.size + 1 + 1) (o := 1) (v := .int .i64 hi.y) (by first | assumption | (refine cellUp ?_; assumption) | go_cell)
        have B2 : Bl w w2 := Below.trans (by go_grown) (hb.mono (by (try simp only [World.size_alloc, World.size_setCell]); omega))
        have l2 := ltb xhi1
        have l2_1 := ltb xlo1
        have l2_2 := ltb xa1
        have zz2 := B2.size
        clear hb
        rw [Q1.out]
        go_wp2_with fail
        refine (boxValid_any lo hi _).mono ?_
        rintro q3 w3 ⟨rfl, hb⟩
        have xa0 := kcb hb (b := w.heap.size) (o := 0) (v := .int .i64 a.s) (by first | assumption | (refine cellUp ?_; assumption) | go_cell)
        have xa1 := kcb hb (b := w.heap.size) (o := 1) (v := .int .i64 a.w) (by first | assumption | (refine cellUp ?_; assumption) | go_cell)
        have xlo0 := kcb hb (b := w.heap.size + 1) (o := 0) (v := .int .i64 lo.x) (by first | assumption | (refine cellUp ?_; assumption) | go_cell)
        have xlo1 := kcb hb (b := w.heap.size + 1) (o := 1) (v := .int .i64 lo.y) (by first | assumption | (refine cellUp ?_; assumption) | go_cell)
        have xhi0 := kcb hb (b := w.heap.size + 1 + 1) (o := 0) (v := .int .i64 hi.x) (by first | assumption | (refine cellUp ?_; assumption) | go_cell)
        have xhi1 := kcb hb (b := w.heap.size + 1 + 1) (o := 1) (v := .int .i64 hi.y) (by first | assumption | (refine cellUp ?_; assumption) | go_cell)
        have xb0 := kcb hb (b := w2.heap.size) (o := 0) (v := .int .i64 lo.x) (by first | assumption | (refine cellUp ?_; assumption) | go_cell)
        have xb1 := kcb hb (b := w2.heap.size) (o := 1) (v := .int .i64 lo.y) (by first | assumption | (refine cellUp ?_; assumption) | go_cell)
        have xb2 := kcb hb (b := w2.heap.size) (o := 2) (v := .int .i64 hi.x) (by first | assumption | (refine cellUp ?_; assumption) | go_cell)
        have xb3 := kcb hb (b := w2.heap.size) (o := 3) (v := .int .i64 hi.y) (by first | assumption | (refine cellUp ?_; assumption) | go_cell)
        have B3 : Bl w w3 := Below.trans (by go_grown) (hb.mono (by (try simp only [World.size_alloc, World.size_setCell]); omega))
        have l3 := ltb xb3
        have l3_1 := ltb xhi1
        have l3_2 := ltb xlo1
        have l3_3 := ltb xa1
        have zz3 := B3.size
        clear hb
        rw [Q2.out]
        go_wp2_with fail
        exact bodyPost_ret (v := rB (exclR a S n lo hi)) (by simp [results, Try.results10, go_sem, HR.out, rB]) rfl ⟨rfl, by go_grown⟩
    · have Q1 := Lib.hid (show decide (VSh S n) = false from decide_eq_false hS)
      have HR := Lib.hid (show exclR a S n lo hi = (false, 1) by unfold exclR; rw [if_neg (fun g => hS g.2)])
      clear ha hS
      go_enter Try.func10, Try.ntmps10
      go_wp2_with fail
      refine (validAir_any a _).mono ?_
      rintro q1 w1 ⟨rfl, hb⟩
      have xa0 := kcb hb (b := w.heap.size) (o := 0) (v := .int .i64 a.s) (by first | assumption | (refine cellUp ?_; assumption) | go_cell)
      have xa1 := kcb hb (b := w.heap.size) (o := 1) (v := .int .i64 a.w) (by first | assumption | (refine cellUp ?_; assumption) | go_cell)
      have xlo0 := kcb hb (b := w.heap.size + 1) (o := 0) (v := .int .i64 lo.x) (by first | assumption | (refine cellUp ?_; assumption) | go_cell)
      have xlo1 := kcb hb (b := w.heap.size + 1) (o := 1) (v := .int .i64 lo.y) (by first | assumption | (refine cellUp ?_; assumption) | go_cell)
      have xhi0 := kcb hb (b := w.heap.size + 1 + 1) (o := 0) (v := .int .i64 hi.x) (by first | assumption | (refine cellUp ?_; assumption) | go_cell)
      have xhi1 := kcb hb (b := w.heap.size + 1 + 1) (o := 1) (v := .int .i64 hi.y) (by first | assumption | (refine cellUp ?_; assumption) | go_cell)
      have B1 : Bl w w1 := Below.trans (by go_grown) (hb.mono (by (try simp only [World.size_alloc, World.size_setCell]); omega))
      have l1 := ltb xhi1
      have l1_1 := ltb xlo1
      have l1_2 := ltb xa1
      have zz1 := B1.size
      clear hb
      rw [Q0.out]
      go_wp2_with fail
      refine (validShots_any A n c S _ (HA.out.below (by exact B1)) HN.out).mono ?_
      rintro q2 w2 ⟨rfl, hb⟩
      have xa0 := kcb hb (b := w.heap.size) (o := 0) (v := .int .i64 a.s) (by first | assumption | (refine cellUp ?_; assumption) | go_cell)
      have xa1 := kcb hb (b := w.heap.size) (o := 1) (v := .int .i64 a.w) (by first | assumption | (refine cellUp ?_; assumption) | go_cell)
      have xlo0 := kcb hb (b := w.heap.size + 1) (o := 0) (v := .int .i64 lo.x) (by first | assumption | (refine cellUp ?_; assumption) | go_cell)
      have xlo1 := kcb hb (b := w.heap.size + 1) (o := 1) (v := .int .i64 lo.y) (by first | assumption | (refine cellUp ?_; assumption) | go_cell)
      have xhi0 := kcb hb (b := w.heap.size + 1 + 1) (o := 0) (v := .int .i64 hi.x) (by first | assumption | (refine cellUp ?_; assumption) | go_cell)
      have xhi1 := kcb hb (b := w.heap.size + 1 + 1) (o := 1) (v := .int .i64 hi.y) (by first | assumption | (refine cellUp ?_; assumption) | go_cell)
      have B2 : Bl w w2 := Below.trans (by go_grown) (hb.mono (by (try simp only [World.size_alloc, World.size_setCell]); omega))
      have l2 := ltb xhi1
      have l2_1 := ltb xlo1
      have l2_2 := ltb xa1
      have zz2 := B2.size
      clear hb
      rw [Q1.out]
      go_wp2_with fail
      exact bodyPost_ret (v := rB (exclR a S n lo hi)) (by simp [results, Try.results10, go_sem, HR.out, rB]) rfl ⟨rfl, by go_grown⟩
  · have Q0 := Lib.hid (show decide (VA a) = false from decide_eq_false ha)
    have HR := Lib.hid (show exclR a S n lo hi = (false, 1) by unfold exclR; rw [if_neg (fun g => ha g.1)])
    clear ha
    go_enter Try.func10, Try.ntmps10
    go_wp2_with fail
    refine (validAir_any a _).mono ?_
    rintro q1 w1 ⟨rfl, hb⟩
    have xa0 := kcb hb (b := w.heap.size) (o := 0) (v := .int .i64 a.s) (by first | assumption | (refine cellUp ?_; assumption) | go_cell)
    have xa1 := kcb hb (b := w.heap.size) (o := 1) (v := .int .i64 a.w) (by first | assumption | (refine cellUp ?_; assumption) | go_cell)
    have xlo0 := kcb hb (b := w.heap.size + 1) (o := 0) (v := .int .i64 lo.x) (by first | assumption | (refine cellUp ?_; assumption) | go_cell)
    have xlo1 := kcb hb (b := w.heap.size + 1) (o := 1) (v := .int .i64 lo.y) (by first | assumption | (refine cellUp ?_; assumption) | go_cell)
    have xhi0 := kcb hb (b := w.heap.size + 1 + 1) (o := 0) (v := .int .i64 hi.x) (by first | assumption | (refine cellUp ?_; assumption) | go_cell)
    have xhi1 := kcb hb (b := w.heap.size + 1 + 1) (o := 1) (v := .int .i64 hi.y) (by first | assumption | (refine cellUp ?_; assumption) | go_cell)
    have B1 : Bl w w1 := Below.trans (by go_grown) (hb.mono (by (try simp only [World.size_alloc, World.size_setCell]); omega))
    have l1 := ltb xhi1
    have l1_1 := ltb xlo1
    have l1_2 := ltb xa1
    have zz1 := B1.size
    clear hb
    rw [Q0.out]
    go_wp2_with fail
    exact bodyPost_ret (v := rB (exclR a S n lo hi)) (by simp [results, Try.results10, go_sem, HR.out, rB]) rfl ⟨rfl, by go_grown⟩
end Go.Proofs.Ythemoomfbbccjaa
