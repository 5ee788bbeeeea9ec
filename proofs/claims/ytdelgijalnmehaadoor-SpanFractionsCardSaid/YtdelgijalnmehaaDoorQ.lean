/-
  The examples of the document, as every law of layer 1 asks them.
-/
import Derived.Test.YtdelgijalnmehaaDoorK
import Derived.Test.YtdelgijalnmehaaDoorP
namespace Go.Proofs.YtdelgijalnmehaaDoor
open Go.RowKit Cal
set_option linter.unusedSimpArgs false
set_option linter.unusedVariables false

theorem pdat2 : PdAt 2 (-1) 3 (-1, true) := fun w => by
  have h := pd_any 2 (-1) 3 0 2 0 2 w (by omega) (by omega) (by omega) (by omega) (by omega) (by omega) (by decide) (by decide) (by omega) (by omega) (fun _ w => div64_zero 2 3 w (by omega) (by omega) (by omega))
  exact h
theorem pdat1 : PdAt (-1) (-1) 3 (0, true) := fun w => by
  have h := pd_any (-1) (-1) 3 0 1 0 1 w (by omega) (by omega) (by omega) (by omega) (by omega) (by omega) (by decide) (by decide) (by omega) (by omega) (fun _ w => div64_zero 1 3 w (by omega) (by omega) (by omega))
  exact h
theorem scaled0_any (w : World) :
    Calls Tryd.prog 12 #[.agg #[.int .i64 1, .int .i64 2], .agg #[.int .i64 (-1), .int .i64 3]] w fun e w' => e = .returned (.tuple #[.agg #[.int .i64 (-1), .int .i64 0], .int .i64 0]) ∧ Bl w w' :=
  scaled_neg 1 2 (-1) 3 (-1, true) (0, true) w (by decide) (by decide) (by omega) pdat2 pdat1 (by decide)
theorem dayOf0_any (w : World) (hM : Mo w) :
    Calls Tryd.prog 20 #[.agg #[.int .i64 1700, .int .i64 3, .int .i64 1]] w fun e w' => e = .returned (.tuple #[.int .i64 59, .int .i64 0]) ∧ Bl w w' :=
  dayOf_ok 1700 3 1 w hM (by decide)
theorem sid0_any (w : World) :
    Calls Tryd.prog 21 #[.int .i64 86400000] w fun e w' => e = .returned (.tuple #[.int .i64 86636555, .int .i64 0]) ∧ w = w' :=
  sid_any 86400000 w


set_option maxHeartbeats 800000 in
theorem awake_any (w : World) (hM : Mo w) :
    Calls Tryd.prog 7 #[] w fun e w' => e = .returned (.bool true) ∧ Bl w w' := by
  have HM := Lib.hid hM
  clear hM
  go_enter Tryd.func7, Tryd.ntmps7
  go_wp2_with fail
  refine (dayOf0_any _ HM.out).mono ?_
  rintro e w1 ⟨rfl, hb⟩
  have B1 : Bl w w1 := Bl.tr (by go_grown) hb
  clear hb
  go_wp2_with fail
  refine (scaled0_any _).mono ?_
  rintro e w2 ⟨rfl, hb⟩
  have B2 : Bl w w2 := Bl.tr B1 hb
  clear hb
  go_wp2_with fail
  refine (sid0_any _).mono ?_
  rintro e w3 ⟨rfl, rfl⟩
  go_wp2_with fail
  refine (clock0_any _).mono ?_
  rintro e w4 ⟨rfl, rfl⟩
  have z2 := B2.size
  go_wp2
  go_ret
  exact ⟨rfl, by go_grown⟩
end Go.Proofs.YtdelgijalnmehaaDoor
