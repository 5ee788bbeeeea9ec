/-
  The walk of GunTables.
-/
import Derived.Test.YthemoomfbbccjaaGW
import Derived.Test.YthemoomfbbccjaaGX
import Derived.Test.YthemoomfbbccjaaGK
namespace Go.Proofs.Ythemoomfbbccjaa
open Go.RowKit
set_option linter.unusedSimpArgs false
set_option linter.unusedVariables false

def tabN (a : Air) (p : Pt) (T : Nat → Pt) (n : Nat) : Nat := if VA a ∧ tabOk p T n then n else 0
def tabE (a : Air) (p : Pt) (T : Nat → Pt) (n : Nat) : Int := if VA a then (if tabOk p T n then 0 else 7) else 1
theorem tabN_le (a : Air) (p : Pt) (T : Nat → Pt) (n : Nat) : tabN a p T n ≤ 100 := by
  unfold tabN
  split
  · rename_i h; exact h.2.2.1
  · omega
theorem tab_uni {a : Air} {p : Pt} {T : Nat → Pt} {n : Nat} {w : World} {e : Ending} {w' : World} (h : TabPost a p T n w e w') : (∃ A cap, e = .returned (.tuple #[.slice A (tabN a p T n) cap, .int .i64 (tabE a p T n)]) ∧ Spl w' A (tabN a p T n) (fun j => lagP a p (T j))) ∧ Bl w w' := by
  obtain ⟨hb, ⟨ha, hk, A, cap, rfl, _, _, hs⟩ | ⟨ha, hk, rfl⟩ | ⟨ha, rfl⟩⟩ := h
  · have e1 : tabN a p T n = n := if_pos ⟨ha, hk⟩
    have e2 : tabE a p T n = 0 := by unfold tabE; rw [if_pos ha, if_pos hk]
    rw [e1, e2]
    exact ⟨⟨A, cap, rfl, hs⟩, hb⟩
  · have e1 : tabN a p T n = 0 := if_neg (fun g => hk g.2)
    have e2 : tabE a p T n = 7 := by unfold tabE; rw [if_pos ha, if_neg hk]
    rw [e1, e2]
    exact ⟨⟨none, 0, rfl, fun g => absurd g (by omega)⟩, hb⟩
  · have e1 : tabN a p T n = 0 := if_neg (fun g => ha g.1)
    have e2 : tabE a p T n = 1 := by unfold tabE; rw [if_neg ha]
    rw [e1, e2]
    exact ⟨⟨none, 0, rfl, fun g => absurd g (by omega)⟩, hb⟩
def mirN (S : Nat → Sho) (n : Nat) : Nat := if VSh S n then n else 0
def mirE (S : Nat → Sho) (n : Nat) : Int := if VSh S n then 0 else 1
theorem mirN_le (S : Nat → Sho) (n : Nat) : mirN S n ≤ 6 := by
  unfold mirN
  split
  · rename_i h; exact h.2.1
  · omega
theorem mir_uni {S : Nat → Sho} {n : Nat} {w : World} {e : Ending} {w' : World} (h : MirPost S n w e w') : (∃ A cap, e = .returned (.tuple #[.slice A (mirN S n) cap, .int .i64 (mirE S n)]) ∧ Shl w' A (mirN S n) (fun j => mir (S j))) ∧ Bl w w' := by
  obtain ⟨hb, ⟨ha, A, cap, rfl, _, _, hs⟩ | ⟨ha, rfl⟩⟩ := h
  · have e1 : mirN S n = n := if_pos ha
    have e2 : mirE S n = 0 := if_pos ha
    rw [e1, e2]
    exact ⟨⟨A, cap, rfl, hs⟩, hb⟩
  · have e1 : mirN S n = 0 := if_neg ha
    have e2 : mirE S n = 1 := if_neg ha
    rw [e1, e2]
    exact ⟨⟨none, 0, rfl, fun g => absurd g (by omega)⟩, hb⟩

abbrev Sq (w : World) (b0 b1 b o1 o2 : Nat) (a : Air) (g p q : Pt) (X : World) : Prop :=
  Bl w X ∧ X.cell? ⟨b0, 0, none⟩ = some (.int .i64 a.s) ∧ X.cell? ⟨b0, 1, none⟩ = some (.int .i64 a.w) ∧ X.cell? ⟨b1, 0, none⟩ = some (.int .i64 g.x) ∧ X.cell? ⟨b1, 1, none⟩ = some (.int .i64 g.y) ∧ X.cell? ⟨b, o1, none⟩ = some (.int .i64 p.x) ∧ X.cell? ⟨b, o1 + 1, none⟩ = some (.int .i64 p.y) ∧ X.cell? ⟨b, o2, none⟩ = some (.int .i64 q.x) ∧ X.cell? ⟨b, o2 + 1, none⟩ = some (.int .i64 q.y)
theorem Sq.t {w X X' : World} {b0 b1 b o1 o2 : Nat} {a : Air} {g p q : Pt} (h : Sq w b0 b1 b o1 o2 a g p q X) (hb : Bl X X') : Sq w b0 b1 b o1 o2 a g p q X' := by
  obtain ⟨h0, h1, h2, h3, h4, h5, h6, h7, h8⟩ := h
  exact ⟨h0.tr hb, kcb hb h1, kcb hb h2, kcb hb h3, kcb hb h4, kcb hb h5, kcb hb h6, kcb hb h7, kcb hb h8⟩
