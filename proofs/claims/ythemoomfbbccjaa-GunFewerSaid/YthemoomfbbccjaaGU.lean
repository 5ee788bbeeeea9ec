/-
  Contracts of First, both, and of the reference's Ring.
-/
import Derived.Test.YthemoomfbbccjaaGT
import Derived.Test.YthemoomfbbccjaaGL
namespace Go.Proofs.Ythemoomfbbccjaa
open Go.RowKit
set_option linter.unusedSimpArgs false
set_option linter.unusedVariables false

/-- The first place of the least number among the first k. -/
def fst1 (f : Nat → Int) : Nat → Nat
  | 0 => 0
  | k + 1 => if f k < f (fst1 f k) then k else fst1 f k
theorem fst1_lt (f : Nat → Int) {n k : Nat} (hn : 0 < n) (hk : k ≤ n) : fst1 f k < n := by
  induction k with
  | zero => exact hn
  | succ k ih =>
    rw [fst1]
    have := ih (by omega)
    split <;> omega
def firOk (p : Pt) (T : Nat → Pt) (n : Nat) : Prop := isP p ∧ (1 ≤ n ∧ n ≤ 6) ∧ allP T n
instance (p : Pt) (T : Nat → Pt) (n : Nat) : Decidable (firOk p T n) := by unfold firOk; infer_instance
def firR (a : Air) (p : Pt) (T : Nat → Pt) (n : Nat) : Int × Int := if VA a then (if firOk p T n then (((fst1 (fun j => (lagP a p (T j)).2) n : Nat) : Int), 0) else (0, 7)) else (0, 1)

theorem fieldS0 (a b : Int) (w : World) : (Instr.field 42 (.agg #[.int .i64 a, .int .i64 b]) 0).run Try.prog w = .ok (.int .i64 a) w := by kernel_rfl
theorem fieldS1 (a b : Int) (w : World) : (Instr.field 42 (.agg #[.int .i64 a, .int .i64 b]) 1).run Try.prog w = .ok (.int .i64 b) w := by kernel_rfl
abbrev Sf (w : World) (ba bp by_ bg off : Nat) (a : Air) (p y z : Pt) (X : World) : Prop :=
  Bl w X ∧ X.cell? ⟨ba, 0, none⟩ = some (.int .i64 a.s) ∧ X.cell? ⟨ba, 1, none⟩ = some (.int .i64 a.w) ∧ X.cell? ⟨bp, 0, none⟩ = some (.int .i64 p.x) ∧ X.cell? ⟨bp, 1, none⟩ = some (.int .i64 p.y) ∧ X.cell? ⟨by_, 0, none⟩ = some (.int .i64 y.x) ∧ X.cell? ⟨by_, 1, none⟩ = some (.int .i64 y.y) ∧ X.cell? ⟨bg, off, none⟩ = some (.int .i64 z.x) ∧ X.cell? ⟨bg, off + 1, none⟩ = some (.int .i64 z.y)
theorem Sf.t {w X X' : World} {ba bp by_ bg off : Nat} {a : Air} {p y z : Pt} (h : Sf w ba bp by_ bg off a p y z X) (hb : Bl X X') : Sf w ba bp by_ bg off a p y z X' := by
  obtain ⟨h0, h1, h2, h3, h4, h5, h6, h7, h8⟩ := h
  exact ⟨h0.tr hb, kcb hb h1, kcb hb h2, kcb hb h3, kcb hb h4, kcb hb h5, kcb hb h6, kcb hb h7, kcb hb h8⟩
