/-
  Daily and Weekly of the reference; Mean of both.
-/
import Derived.Test.YtalofhbmkllifaaRS
import Derived.Test.YtalofhbmkllifaaRP
import Derived.Deep.RegionLaw
namespace Go.Proofs.Ytalofhbmkllifaa
open Go.RowKit
set_option linter.unusedSimpArgs false
set_option linter.unusedVariables false

theorem rates1q_any (s : ByteArray) (A : Option Addr) (n c : Nat) (E : Nat → Int) (w : World) (hA : Sl w A n E) (h1 : 1 ≤ n) (h4 : n ≤ 400) (hE : dyTo E n = true) :
    Calls Try.prog 17 #[encB s A n c, .int .i64 1] w fun e w' => Bl w w' ∧ ∃ A1 c1, e = .returned (.slice A1 (n - 1) c1) ∧ n - 1 ≤ c1 ∧ c1 ≤ maxLen ∧ Sl w' A1 (n - 1) (rtF E 1) := by
  refine (rates_any s A n c 1 E w hA h1 h4 (.inl rfl) hE).mono ?_
  rintro e w1 ⟨hb, v, rfl, ho⟩
  rw [Nat.div_one] at ho
  obtain ⟨A1, c1, rfl, k1, k2, h⟩ := sl_of_own ho
  exact ⟨hb, A1, c1, rfl, k1, k2, h⟩
theorem rates7q_any (s : ByteArray) (A : Option Addr) (n c : Nat) (E : Nat → Int) (w : World) (hA : Sl w A n E) (h1 : 1 ≤ n) (h4 : n ≤ 400) (hE : dyTo E n = true) :
    Calls Try.prog 17 #[encB s A n c, .int .i64 7] w fun e w' => Bl w w' ∧ ∃ A1 c1, e = .returned (.slice A1 ((n - 1) / 7) c1) ∧ (n - 1) / 7 ≤ c1 ∧ c1 ≤ maxLen ∧ Sl w' A1 ((n - 1) / 7) (rtF E 7) := by
  refine (rates_any s A n c 7 E w hA h1 h4 (.inr rfl) hE).mono ?_
  rintro e w1 ⟨hb, v, rfl, ho⟩
  obtain ⟨A1, c1, rfl, k1, k2, h⟩ := sl_of_own ho
  exact ⟨hb, A1, c1, rfl, k1, k2, h⟩

def meanF (s : ByteArray) (n : Nat) (E : Nat → Int) : Int × Int × Int := if vbB s n E = true then lowF (E (n - 1) - E 0) ((n : Int) - 1) else (0, 0, 1)
