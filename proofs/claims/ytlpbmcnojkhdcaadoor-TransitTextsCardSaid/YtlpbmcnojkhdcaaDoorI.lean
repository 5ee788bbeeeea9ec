/-
  Contracts of the sky's day: sidereal and mean time, and the text of a time of the day.
-/
import Derived.Test.YtlpbmcnojkhdcaaDoorE
import Derived.Test.YtlpbmcnojkhdcaaDoorShelf
namespace Go.Proofs.YtlpbmcnojkhdcaaDoor
open Go.RowKit
set_option linter.unusedSimpArgs false
set_option linter.unusedVariables false

def dig2 (n : Nat) : List UInt8 := [UInt8.ofNat (48 + n / 10), UInt8.ofNat (48 + n % 10)]
def dig3 (n : Nat) : List UInt8 := [UInt8.ofNat (48 + n / 100), UInt8.ofNat (48 + n / 10 % 10), UInt8.ofNat (48 + n % 10)]
theorem dec_all : ∀ n : Fin 100, (n.val < 10 → Lib.decDigits n.val = [UInt8.ofNat (48 + n.val % 10)] ∧ dig2 n.val = [48, UInt8.ofNat (48 + n.val % 10)] ∧ dig3 n.val = [48, 48, UInt8.ofNat (48 + n.val % 10)]) ∧ (10 ≤ n.val → Lib.decDigits n.val = dig2 n.val ∧ dig3 n.val = 48 :: dig2 n.val) := by decide +kernel
theorem dec_all3 : ∀ n : Fin 1000, 100 ≤ n.val → Lib.itoa n.val = dig3 n.val := by decide +kernel
theorem ret_str {a b : List UInt8} (h : a = b) : Ending.returned (.string ⟨a.toArray⟩) = .returned (.string ⟨b.toArray⟩) := by rw [h]


def sidF (t : Int) : Int × Int := if t < 0 ∨ 1000000000000 < t then (0, 7) else (t * 3662422 / 3652422, 0)

def meanF (t : Int) : Int × Int := if t < 0 ∨ 1000000000000 < t then (0, 7) else (t * 3652422 / 3662422, 0)
