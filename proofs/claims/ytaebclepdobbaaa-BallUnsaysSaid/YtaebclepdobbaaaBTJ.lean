/-
  The walk of a law of package ball: a flag unsays a fault, whatever the log.
-/
import Derived.Test.YtaebclepdobbaaaBT
import Derived.Test.YtaebclepdobbaaaBTN
namespace Go.Proofs.Ytaebclepdobbaaa
open Go.RowKit Go.Shelf

theorem unsays_walk (M : Mst) (A : Option Addr) (n : Nat) (c : Nat) (E : Nat → Evt) (e : Evt) (w : World) (hn : n ≤ maxLen) (hc : n ≤ c ∧ c ≤ maxLen) (hA : El w A n E) : Calls Try.prog 11 #[encM M, .slice A n c, encE e] w fun e' w' => e' = .returned (.bool true) ∧ Bl w w' := by
  by_cases h : 300 < n ∨ (runR M E n).2.2 ≠ 0
  · exact unsays_first M A n c E e w hn hc hA h
  · have hv : verR M E n = (verL M E n, 0) := by
      unfold verR
      rw [if_pos (by by_cases h2 : (runR M E n).2.2 = 0; exact h2; exact absurd (Or.inr h2) h)]
    have h3 : n ≤ 300 := by omega
    cases A with
    | some ad => exact unsays_some M ad n c E e w hn hc hA h3 hv
    | none =>
      by_cases h0 : n = 0
      · subst h0
        exact unsays_none M c E e w hn hc hA h3 hv
      · obtain ⟨b, off, h, _⟩ := hA (by omega)
        cases h
end Go.Proofs.Ytaebclepdobbaaa
