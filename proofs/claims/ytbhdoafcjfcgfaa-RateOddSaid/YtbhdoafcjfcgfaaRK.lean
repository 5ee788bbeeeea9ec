/-
  Boxes as functions; which boxes the laws look at.
-/
import Derived.Test.YtbhdoafcjfcgfaaRJ
namespace Go.Proofs.Ytbhdoafcjfcgfaa
open Go.RowKit
set_option linter.unusedSimpArgs false
set_option linter.unusedVariables false

structure Bx where
  s : ByteArray
  A : Option Addr
  n : Nat
  c : Nat
  E : Nat → Int
/-- A box lies in memory. -/
structure BxOk (w : World) (x : Bx) : Prop where
  hs : x.s.size ≤ maxLen
  hn : x.n ≤ x.c
  hc : x.c ≤ maxLen
  sl : Sl w x.A x.n x.E
theorem BxOk.below {w w' : World} {x : Bx} (h : BxOk w x) (hb : Bl w w') : BxOk w' x := ⟨h.hs, h.hn, h.hc, h.sl.below hb⟩
/-- A slice of boxes reads as a function. -/
def Bxl (w : World) (A : Option Addr) (n : Nat) (R : Nat → Bx) : Prop :=
  0 < n → ∃ b off, A = some ⟨b, off, none⟩ ∧ b < w.heap.size ∧ ∀ j, j < n → w.cell? ⟨b, off + j * 2, none⟩ = some (.string (R j).s) ∧ w.cell? ⟨b, off + j * 2 + 1, none⟩ = some (.slice (R j).A (R j).n (R j).c)
theorem Bxl.below {w w' : World} {A : Option Addr} {n : Nat} {R : Nat → Bx} (h : Bxl w A n R) (hb : Bl w w') : Bxl w' A n R := fun hn => by
  obtain ⟨b, off, e, hlt, hc⟩ := h hn
  exact ⟨b, off, e, Nat.lt_of_lt_of_le hlt hb.size, fun j hj => by
    obtain ⟨c0, c1⟩ := hc j hj
    exact ⟨kcb hb c0, kcb hb c1⟩⟩
/-- A box is small enough to be looked at. -/
def ftB (s n : Nat) : Bool := decide (s ≤ 100) && (decide (n ≤ 60) || decide (399 ≤ n)) && decide (n ≤ 410)
def ftTo (R : Nat → Bx) : Nat → Bool
  | 0 => true
  | k + 1 => ftTo R k && ftB (R k).s.size (R k).n
theorem ftTo_no (R : Nat → Bx) {k n : Nat} (hk : k < n) (h : ftB (R k).s.size (R k).n = false) : ftTo R n = false := by
  induction n with
  | zero => omega
  | succ n ih =>
    by_cases e : k = n
    · subst e; simp [ftTo, h]
    · simp [ftTo, ih (by omega)]
theorem ftTo_at {R : Nat → Bx} {k n : Nat} (h : ftTo R n = true) (hk : k < n) : ftB (R k).s.size (R k).n = true := by
  induction n with
  | zero => omega
  | succ n ih =>
    simp only [ftTo, Bool.and_eq_true] at h
    by_cases e : k = n
    · subst e; exact h.2
    · exact ih h.1 (by omega)
def ftF (R : Nat → Bx) (n : Nat) : Bool := ftTo R n && decide (n ≤ 20)
theorem bxl_one {w : World} {b : Nat} {x : Bx} (h0 : w.cell? ⟨b, 0, none⟩ = some (.string x.s)) (h1 : w.cell? ⟨b, 1, none⟩ = some (.slice x.A x.n x.c)) : Bxl w (some ⟨b, 0, none⟩) 1 (fun _ => x) := fun _ =>
  ⟨b, 0, rfl, ltb h0, fun j hj => by obtain rfl : j = 0 := by omega
                                     exact ⟨h0, h1⟩⟩
theorem bxl_two {w : World} {b : Nat} {x y : Bx} (h0 : w.cell? ⟨b, 0, none⟩ = some (.string x.s)) (h1 : w.cell? ⟨b, 1, none⟩ = some (.slice x.A x.n x.c)) (h2 : w.cell? ⟨b, 2, none⟩ = some (.string y.s)) (h3 : w.cell? ⟨b, 3, none⟩ = some (.slice y.A y.n y.c)) :
    Bxl w (some ⟨b, 0, none⟩) 2 (fun j => if j = 0 then x else y) := fun _ =>
  ⟨b, 0, rfl, ltb h0, fun j hj => by
    rcases (show j = 0 ∨ j = 1 by omega) with rfl | rfl
    · exact ⟨h0, h1⟩
    · exact ⟨h2, h3⟩⟩

set_option maxRecDepth 100000 in
set_option maxHeartbeats 3200000 in
theorem fit_any (A : Option Addr) (n c : Nat) (R : Nat → Bx) (w : World) (hA : Bxl w A n R) (hR : ∀ j, j < n → BxOk w (R j)) (hn : n ≤ maxLen) :
    Calls Try.prog 7 #[.slice A n c] w fun e w' => e = .returned (.bool (ftF R n)) ∧ Bl w w' := by
  have HA := Lib.hid hA
  have HR := Lib.hid hR
  clear hA hR
  unfold maxLen at hn
  go_enter Try.func7, Try.ntmps7
  go_wp2_with fail
  go_loopw [7] (fun i wr => ∃ k : Nat, k ≤ n ∧ i = .int .i64 k ∧ Hid (ftTo R k = true) ∧ Bl w wr) (fun i _ => n - (RowKit.intOf i).toNat)
  case atStart => exact ⟨0, Nat.zero_le _, rfl, rfl, Bl.rf _⟩
  case round =>
    obtain ⟨k, hk, rfl, HO, hB⟩ := hrel
    have zB := hB.size
    by_cases hlt : k < n
    · obtain ⟨b, off, rfl, hbb, hc⟩ := (HA.out.below hB) (by omega)
      obtain ⟨c0, c1⟩ := hc k hlt
      clear hc
      obtain ⟨m1, m2, m3, _⟩ := HR.out k hlt
      have HF := Lib.hid (fun (q : ftB (R k).s.size (R k).n = false) => (show ftF R n = false by simp [ftF, ftTo_no R hlt q]))
      have HG := Lib.hid (fun (q : ftB (R k).s.size (R k).n = true) => (show ftTo R (k + 1) = true by rw [ftTo, HO.out, q]; rfl))
      obtain ⟨s, hs⟩ : ∃ s, s = (R k).s := ⟨_, rfl⟩
      obtain ⟨m, hm⟩ : ∃ m, m = (R k).n := ⟨_, rfl⟩
      obtain ⟨B, hB'⟩ : ∃ B, B = (R k).A := ⟨_, rfl⟩
      obtain ⟨d, hd⟩ : ∃ d, d = (R k).c := ⟨_, rfl⟩
      rw [← hs] at c0 m1 HF HG
      rw [← hm] at c1 m2 HF HG
      rw [← hB', ← hd] at c1
      rw [← hd] at m2 m3
      clear hs hm hB' hd
      unfold maxLen at m1 m3
      by_cases q1 : 100 < s.size
      · have H2 := Lib.hid (HF.out (by simp [ftB]; omega))
        go_wp2_with fail
        go_ret
        exact ⟨ret_bool H2.out.symm, hB.tr (by go_grown)⟩
      · have q1' : s.size ≤ 100 := by omega
        clear q1
        by_cases q2 : 60 < m
        · by_cases q3 : m < 399
          · have H2 := Lib.hid (HF.out (by simp [ftB]; omega))
            go_wp2_with fail
            go_ret
            exact ⟨ret_bool H2.out.symm, hB.tr (by go_grown)⟩
          · have q3' : 399 ≤ m := by omega
            clear q3
            by_cases q4 : 410 < m
            · have H2 := Lib.hid (HF.out (by simp [ftB]; omega))
              go_wp2_with fail
              go_ret
              exact ⟨ret_bool H2.out.symm, hB.tr (by go_grown)⟩
            · have q4' : m ≤ 410 := by omega
              clear q4
              have H2 := Lib.hid (HG.out (by simp [ftB]; omega))
              go_wp2_with fail
              go_roundw
              case rel => exact ⟨k + 1, by omega, by go_num, H2.out, hB.tr (by go_grown)⟩
              case measure => simp [RowKit.intOf]; omega
        · have q2' : m ≤ 60 := by omega
          clear q2
          have q4' : m ≤ 410 := by omega
          have H2 := Lib.hid (HG.out (by simp [ftB]; omega))
          go_wp2_with fail
          go_roundw
          case rel => exact ⟨k + 1, by omega, by go_num, H2.out, hB.tr (by go_grown)⟩
          case measure => simp [RowKit.intOf]; omega
    · obtain rfl : k = n := by omega
      have HE := Lib.hid (show ftF R k = decide ((k : Int) ≤ 20) by rw [ftF, HO.out]; simp; omega)
      go_wp2_with fail
      go_ret
      exact ⟨ret_bool HE.out.symm, hB⟩
end Go.Proofs.Ytbhdoafcjfcgfaa
