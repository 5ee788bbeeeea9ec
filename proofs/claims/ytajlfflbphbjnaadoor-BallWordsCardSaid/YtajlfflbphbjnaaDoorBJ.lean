/-
  Contracts of package ball and of its reference: what is asked of events.
-/
import Derived.Test.YtajlfflbphbjnaaDoorBI
namespace Go.Proofs.YtajlfflbphbjnaaDoor
open Go.RowKit Go.Shelf
set_option linter.unusedSimpArgs false
set_option linter.unusedVariables false

theorem idx_has (E : Nat → Evt) (ki : Int) (n : Nat) : decide (0 ≤ idxV (idxF E ki n)) = decide (hasF E ki 0 n) := by
  rw [Bool.eq_iff_iff, decide_eq_true_eq, decide_eq_true_eq]
  cases h : idxF E ki n with
  | none =>
    have := idxF_none.1 h
    simp only [idxV, hasF, Nat.zero_add]
    exact ⟨fun h1 => absurd h1 (by omega), fun ⟨j, h1, h2⟩ => absurd h2 (this j h1)⟩
  | some k =>
    have := idxF_some.1 h
    simp only [idxV, hasF, Nat.zero_add]
    exact ⟨fun _ => ⟨k, this.1, this.2.1⟩, fun _ => by omega⟩
theorem has_shift (E : Nat → Evt) (ki : Int) (a m : Nat) : hasF (fun j => E (a + j)) ki 0 m ↔ hasF E ki a m := by simp [hasF]
theorem El.take {w : World} {A : Option Addr} {n m : Nat} {E : Nat → Evt} (h : El w A n E) (hm : m ≤ n) : El w A m E := fun h0 => by
  obtain ⟨b, off, e, hb, hc⟩ := h (by omega)
  exact ⟨b, off, e, hb, fun j hj => hc j (by omega)⟩
theorem El.drop {w : World} {b off : Nat} {n a : Nat} {E : Nat → Evt} (h : El w (some ⟨b, off, none⟩) n E) (ha : a ≤ n) : El w (some ⟨b, off + a * 3, none⟩) (n - a) (fun j => E (a + j)) := fun h0 => by
  obtain ⟨b', off', e, hb, hc⟩ := h (by omega)
  injection e with e
  injection e with e1 e2
  subst e1 e2
  exact ⟨b, off + a * 3, rfl, hb, fun j hj => by
    have := hc (a + j) (by omega)
    rw [show off + (a + j) * 3 = off + a * 3 + j * 3 by omega] at this
    exact this⟩

set_option maxHeartbeats 800000 in
theorem contains_any (A : Option Addr) (n c : Nat) (E : Nat → Evt) (ki : Int) (b : Nat) (w : World) (hA : El w A n E) (hn : n ≤ maxLen) (hp : w.cell? ⟨b, 0, none⟩ = some (.int .i64 ki)) :
    Calls Tryd.prog 23 #[.slice A n c, .func (.func 33) #[] #[.pointer (some ⟨b, 0, none⟩)]] w fun e w' => e = .returned (.bool (decide (hasF E ki 0 n))) ∧ Bl w w' := by
  have HH := Lib.hid (idx_has E ki n)
  go_enter Tryd.func23, Tryd.ntmps23
  go_wp2_with fail
  refine (index_any A n c E ki b _ hA hn hp).mono ?_
  rintro e w1 ⟨rfl, hb⟩
  go_wp2_with fail
  go_ret
  exact ⟨ret_bool HH.out, hb⟩
set_option maxHeartbeats 800000 in
theorem firstDrop_any (A : Option Addr) (n c : Nat) (E : Nat → Evt) (w : World) (hA : El w A n E) (hn : n ≤ maxLen) :
    Calls Tryd.prog 20 #[.slice A n c] w fun e w' => e = .returned (.int .i64 (idxV (idxF E 4 n))) ∧ Bl w w' := by
  have HA := Lib.hid hA
  clear hA
  go_enter Tryd.func20, Tryd.ntmps20
  go_wp2_with (go_at_call 24; refine (isOf_any _ _).mono ?_; rintro e w' ⟨rfl, rfl⟩)
  refine (index_any A n c E 4 w.heap.size _ (HA.out.below (by go_grown)) hn (by go_cell)).mono ?_
  rintro e w1 ⟨rfl, hb⟩
  have B1 : Bl w w1 := Below.trans (by go_grown) (hb.mono (by (try simp only [World.size_alloc]); omega))
  go_wp2_with fail
  go_ret
  exact ⟨rfl, B1⟩
set_option maxHeartbeats 800000 in
theorem told_any (A : Option Addr) (n c : Nat) (E : Nat → Evt) (x y : Int) (w : World) (hA : El w A n E) (hn : n ≤ maxLen) :
    Calls Tryd.prog 21 #[.slice A n c, .int .i64 x, .int .i64 y] w fun e w' => e = .returned (.int .i64 (if hasF E 6 0 n then x else y)) ∧ Bl w w' := by
  have HA := Lib.hid hA
  clear hA
  by_cases q : hasF E 6 0 n
  all_goals
    first
      | have Q := Lib.hid (show decide (hasF E 6 0 n) = true from decide_eq_true q); rw [if_pos q]
      | have Q := Lib.hid (show decide (hasF E 6 0 n) = false from decide_eq_false q); rw [if_neg q]
    clear q
    go_enter Tryd.func21, Tryd.ntmps21
    go_wp2_with (go_at_call 24; refine (isOf_any _ _).mono ?_; rintro e w' ⟨rfl, rfl⟩)
    refine (contains_any A n c E 6 w.heap.size _ (HA.out.below (by go_grown)) hn (by go_cell)).mono ?_
    rintro e w1 ⟨rfl, hb⟩
    have B1 : Bl w w1 := Below.trans (by go_grown) (hb.mono (by (try simp only [World.size_alloc]); omega))
    rw [Q.out]
    go_wp2_with fail
    go_ret
    exact ⟨rfl, B1⟩
set_option maxHeartbeats 400000 in
theorem inTime_any (M : Mst) (d : Int) (w : World) : Calls Tryd.prog 22 #[encM M, .int .i64 d] w fun e w' => e = .returned (.func (.func 32) #[] #[.pointer (some ⟨w.heap.size + 1, 0, none⟩), .pointer (some ⟨w.heap.size, 0, none⟩)]) ∧ w' = (w.alloc (.cells #[.int .i64 M.no, .int .i64 M.hf, .int .i64 M.fu, .int .i64 M.la, .int .i64 M.ag, .int .i64 M.wi] 35)).alloc (.cells #[.int .i64 d] 3) := by
  go_enter Tryd.func22, Tryd.ntmps22
  go_wp2
  go_ret
  exact ⟨rfl, rfl⟩
set_option maxHeartbeats 800000 in
theorem inTime1_any (M : Mst) (d t ki n : Int) (pb mb : Nat) (w : World) (hd0 : 0 ≤ d) (hd1 : d < 200000000) (hl0 : 0 ≤ M.la) (hl1 : M.la ≤ 1000) (hp : w.cell? ⟨pb, 0, none⟩ = some (.int .i64 d)) (hm : MastAt w mb M) :
    Calls Tryd.prog 32 #[.agg #[.int .i64 t, .int .i64 ki, .int .i64 n], .pointer (some ⟨pb, 0, none⟩), .pointer (some ⟨mb, 0, none⟩)] w fun e w' => e = .returned (.bool (decide (inT d M.la t))) ∧ Bl w w' := by
  obtain ⟨m0, m1, m2, m3, m4, m5⟩ := hm
  have lb := ltb hp
  have lm := ltb m3
  go_enter Tryd.func32, Tryd.ntmps32
  go_wp2
  all_goals (go_ret; exact ⟨ret_bool (by rw [Bool.eq_iff_iff, decide_eq_true_eq (p := inT d M.la t)]; first | (simp [inT] at *; done) | (simp [inT] at *; omega)), by go_grown⟩)

/-- The index of the first event of a kind from a on; the length if there is none. -/
def fstF (E : Nat → Evt) (ki : Int) (a n : Nat) : Nat := match idxF (fun j => E (a + j)) ki (n - a) with
  | some k => a + k
  | none => n