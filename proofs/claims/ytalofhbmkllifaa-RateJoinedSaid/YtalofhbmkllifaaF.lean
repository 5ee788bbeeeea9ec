/-
  Contracts of the fractions: lowest terms.
-/
import Derived.Test.YtalofhbmkllifaaE
import Derived.Test.YtalofhbmkllifaaD
import Derived.RegionTactic
import Derived.ChangeAlike
import Derived.BigRegion
namespace Go.Proofs.Ytalofhbmkllifaa
open Go.RowKit
set_option linter.unusedSimpArgs false

/-- A fraction and an error as a result. -/
def rR (r : Int × Int × Int) : Value := .tuple #[.agg #[.int .i64 r.1, .int .i64 r.2.1], .int .i64 r.2.2]
def lowN (n d : Int) : Int := (if d < 0 then -n else n) / (Int.gcd n d : Int)
def lowD (n d : Int) : Int := (if d < 0 then -d else d) / (Int.gcd n d : Int)
def lowF (n d : Int) : Int × Int × Int := if 1000000000 < lowD n d ∨ lowN n d < -1000000000 ∨ 1000000000 < lowN n d then (0, 0, 4) else (lowN n d, lowD n d, 0)


theorem tdiv_dvd {x g : Int} (h : g ∣ x) : x.tdiv g = x / g := Int.tdiv_eq_ediv_of_dvd h
theorem div_small {x g : Int} (hg : 0 < g) (h1 : -2000000000000000000 ≤ x) (h2 : x ≤ 2000000000000000000) : -2000000000000000000 ≤ x / g ∧ x / g ≤ 2000000000000000000 := by
  constructor
  · refine Int.le_trans ?_ (Int.ediv_le_ediv hg h1)
    exact Int.le_ediv_of_mul_le hg (by
      have : (2000000000000000000 : Int) * 1 ≤ 2000000000000000000 * g := Int.mul_le_mul_of_nonneg_left (by omega) (by omega)
      omega)
  · refine Int.le_trans (Int.ediv_le_ediv hg h2) ?_
    exact Int.ediv_le_of_le_mul hg (by
      have : (2000000000000000000 : Int) * 1 ≤ 2000000000000000000 * g := Int.mul_le_mul_of_nonneg_left (by omega) (by omega)
      omega)
theorem gcd_pos' {n d : Int} (h0 : d ≠ 0) : (0 : Int) < Int.gcd n d := by
  have : 0 < Int.gcd n d := Int.gcd_pos_of_ne_zero_right _ h0
  omega

theorem rR_eq {a b c : Int} {r : Int × Int × Int} (h1 : r.1 = a) (h2 : r.2.1 = b) (h3 : r.2.2 = c) : Ending.returned (.tuple #[.agg #[.int .i64 a, .int .i64 b], .int .i64 c]) = .returned (rR r) := by
  subst h1 h2 h3; rfl


