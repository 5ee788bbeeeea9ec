/-
  Contracts of Alike, both; spans and shots compared.
-/
import Derived.Test.YthemoomfbbccjaaGT
namespace Go.Proofs.Ythemoomfbbccjaa
open Go.RowKit
set_option linter.unusedSimpArgs false
set_option linter.unusedVariables false

def aliR (a : Air) (g p q : Pt) : Bool × Int := if VA a then (if isP g ∧ isP p ∧ isP q then (decide ((lagP a g p).1 = (lagP a g q).1 ∧ (lagP a g p).2 = (lagP a g q).2), 0) else (false, 7)) else (false, 1)
abbrev Sa (w : World) (b0 b1 b2 b3 : Nat) (a : Air) (g p q : Pt) (X : World) : Prop :=
  Bl w X ∧ X.cell? ⟨b0, 0, none⟩ = some (.int .i64 a.s) ∧ X.cell? ⟨b0, 1, none⟩ = some (.int .i64 a.w) ∧ X.cell? ⟨b1, 0, none⟩ = some (.int .i64 g.x) ∧ X.cell? ⟨b1, 1, none⟩ = some (.int .i64 g.y) ∧ X.cell? ⟨b2, 0, none⟩ = some (.int .i64 p.x) ∧ X.cell? ⟨b2, 1, none⟩ = some (.int .i64 p.y) ∧ X.cell? ⟨b3, 0, none⟩ = some (.int .i64 q.x) ∧ X.cell? ⟨b3, 1, none⟩ = some (.int .i64 q.y)
theorem Sa.t {w X X' : World} {b0 b1 b2 b3 : Nat} {a : Air} {g p q : Pt} (h : Sa w b0 b1 b2 b3 a g p q X) (hb : Bl X X') : Sa w b0 b1 b2 b3 a g p q X' := by
  obtain ⟨h0, h1, h2, h3, h4, h5, h6, h7, h8⟩ := h
  exact ⟨h0.tr hb, kcb hb h1, kcb hb h2, kcb hb h3, kcb hb h4, kcb hb h5, kcb hb h6, kcb hb h7, kcb hb h8⟩

theorem ali_cases (a : Air) (g p q : Pt) : (∃ u v x y, lagR a g p = (u, v, 0) ∧ lagR a g q = (x, y, 0) ∧ aliR a g p q = (decide (u = x ∧ v = y), 0)) ∨ (∃ u v, lagR a g p = (u, v, 0) ∧ lagR a g q = (0, 0, 7) ∧ aliR a g p q = (false, 7)) ∨ (∃ x y z, lagR a g p = (0, 0, 7) ∧ lagR a g q = (x, y, z) ∧ aliR a g p q = (false, 7)) ∨ (∃ x y z, lagR a g p = (0, 0, 1) ∧ lagR a g q = (x, y, z) ∧ aliR a g p q = (false, 1)) := by
  unfold aliR lagR
  by_cases ha : VA a
  · by_cases h1 : isP g ∧ isP p
    · by_cases h2 : isP g ∧ isP q
      · refine .inl ⟨(lagP a g p).1, (lagP a g p).2, (lagP a g q).1, (lagP a g q).2, ?_, ?_, ?_⟩
        · rw [if_pos ha, if_pos h1]
        · rw [if_pos ha, if_pos h2]
        · rw [if_pos ha, if_pos ⟨h1.1, h1.2, h2.2⟩]
      · refine .inr (.inl ⟨(lagP a g p).1, (lagP a g p).2, ?_, ?_, ?_⟩)
        · rw [if_pos ha, if_pos h1]
        · rw [if_pos ha, if_neg h2]
        · rw [if_pos ha, if_neg (fun h => h2 ⟨h.1, h.2.2⟩)]
    · refine .inr (.inr (.inl ⟨_, _, _, ?_, rfl, ?_⟩))
      · rw [if_pos ha, if_neg h1]
      · rw [if_pos ha, if_neg (fun h => h1 ⟨h.1, h.2.1⟩)]
  · refine .inr (.inr (.inr ⟨_, _, _, ?_, rfl, ?_⟩))
    · rw [if_neg ha]
    · rw [if_neg ha]
set_option maxHeartbeats 1600000 in
theorem samePts_any (A : Option Addr) (n c : Nat) (B : Option Addr) (d : Nat) (T : Nat → Pt) (w : World) (hn : n ≤ maxLen) (hA : Pl w A n T) (hB : Pl w B n T) :
    Calls Try.prog 12 #[.slice A n c, .slice B n d] w fun e w' => e = .returned (.bool true) ∧ Bl w w' := by
  unfold maxLen at hn
  have HA := Lib.hid hA
  have HB := Lib.hid hB
  clear hA hB
  go_enter Try.func12, Try.ntmps12
  go_wp2_with fail
  go_loopw [13] (fun i wr => ∃ k N : Nat, k ≤ n ∧ i = .int .i64 k ∧ wr = w.drewN N) (fun i _ => n - (RowKit.intOf i).toNat)
  case atStart => exact ⟨0, 0, Nat.zero_le _, rfl, rfl⟩
  case round =>
    obtain ⟨k, N, hk, rfl, rfl⟩ := hrel
    by_cases hlt : k < n
    · obtain ⟨b, off, eA, hbb, hc⟩ := HA.out (by omega)
      obtain ⟨b', off', eB, hbb', hc'⟩ := HB.out (by omega)
      subst eA eB
      obtain ⟨c0, c1⟩ := hc k hlt
      obtain ⟨d0, d1⟩ := hc' k hlt
      clear hc hc'
      go_wp2_with fail
      go_quiet (fail)
      go_wp2_with fail
      go_roundw
      case rel => exact ⟨k + 1, _, by omega, by go_num, rfl⟩
      case measure => simp [RowKit.intOf]; omega
    · obtain rfl : k = n := by omega
      go_wp2_with fail
      go_ret
      exact ⟨rfl, Bl.dr _ _⟩
end Go.Proofs.Ythemoomfbbccjaa
