/-
  Package sight: the laws' Light and inside; the walk of SightOrders.
-/
import Derived.Test.YtchikfegpoonjaaUC
import Derived.Test.YtchikfegpoonjaaUP
namespace Go.Proofs.Ytchikfegpoonjaa
open Go.RowKit Go.Maps
set_option linter.unusedSimpArgs false
set_option linter.unusedVariables false

/-- Whether a net is small enough. -/
def ligB (n m : Nat) : Bool := decide (n ≤ 100) && (decide (m ≤ 8) || decide (30 < m) && decide (m ≤ 100))
set_option maxRecDepth 100000 in
set_option maxHeartbeats 1600000 in
theorem light_any (A : Option Addr) (n c : Nat) (B : Option Addr) (m d : Nat) (w : World) :
    Calls Try.prog 13 #[encN A n c B m d] w fun e w' => e = .returned (.bool (ligB n m)) ∧ Bl w w' := by
  by_cases h1 : (n : Int) ≤ 100
  · by_cases h2 : (m : Int) ≤ 8
    · have HF := Lib.hid (show ligB n m = true by simp [ligB]; omega)
      go_enter Try.func13, Try.ntmps13
      go_wp2_with fail
      go_ret
      exact ⟨ret_bool HF.out.symm, by go_grown⟩
    · by_cases h3 : (30 : Int) < (m : Int)
      · by_cases h4 : (m : Int) ≤ 100
        · have HF := Lib.hid (show ligB n m = true by simp [ligB]; omega)
          go_enter Try.func13, Try.ntmps13
          go_wp2_with fail
          go_ret
          exact ⟨ret_bool HF.out.symm, by go_grown⟩
        · have HF := Lib.hid (show ligB n m = false by simp [ligB]; omega)
          go_enter Try.func13, Try.ntmps13
          go_wp2_with fail
          go_ret
          exact ⟨ret_bool HF.out.symm, by go_grown⟩
      · have HF := Lib.hid (show ligB n m = false by simp [ligB]; omega)
        go_enter Try.func13, Try.ntmps13
        go_wp2_with fail
        go_ret
        exact ⟨ret_bool HF.out.symm, by go_grown⟩
  · have HF := Lib.hid (show ligB n m = false by simp [ligB]; omega)
    go_enter Try.func13, Try.ntmps13
    go_wp2_with fail
    go_ret
    exact ⟨ret_bool HF.out.symm, by go_grown⟩