/-
  Contracts of the product of a number and a fraction, rounded down.
-/
import Derived.Test.YtdelgijalnmehaaDoorI
import Derived.Test.YtdelgijalnmehaaDoorH
namespace Go.Proofs.YtdelgijalnmehaaDoor
open Go.RowKit
set_option linter.unusedSimpArgs false
set_option linter.unusedVariables false

set_option maxHeartbeats 400000 in
theorem size_any (n : Int) (w : World) (h1 : -4000000000000000000 ≤ n) (h2 : n ≤ 4000000000000000000) :
    Calls Tryd.prog 41 #[.int .i64 n] w fun e w' => e = .returned (.int .u64 (n.natAbs : Int)) ∧ w' = w := by
  by_cases h : n < 0
  · go_enter Tryd.func41, Tryd.ntmps41
    go_wp2
    go_ret
    exact ⟨ret_int (by omega), rfl⟩
  · go_enter Tryd.func41, Tryd.ntmps41
    go_wp2
    go_ret
    exact ⟨ret_int (by omega), rfl⟩

set_option maxHeartbeats 400000 in
theorem div64_zero (lo y : Nat) (w : World) (h1 : 1 ≤ y) (h2 : y ≤ 1000000000) (h3 : lo < 18446744073709551616) :
    Calls Tryd.prog 42 #[.int .u64 0, .int .u64 lo, .int .u64 y] w fun e w' => e = .returned (.tuple #[.int .u64 ((lo / y : Nat) : Int), .int .u64 ((lo % y : Nat) : Int)]) ∧ Bl w w' := by
  go_enter Tryd.func42, Tryd.ntmps42
  go_wp2
  go_quiet (fail)
  go_wp2
  go_ret2
  refine ⟨?_, Bl.dn _ _⟩
  have e1 : IntKind.u64.wrap ((lo : Int) / (y : Int)) = ((lo / y : Nat) : Int) := by
    rw [← Int.natCast_ediv]
    have := Nat.div_le_self lo y
    generalize lo / y = q at this ⊢
    exact IntWalk.u64_in _ (by omega)
  show Ending.returned (.tuple #[.int .u64 (IntKind.u64.wrap ((lo : Int) / (y : Int))), .int .u64 ((lo : Int) % (y : Int))]) = _
  rw [e1, Int.natCast_emod]

theorem m64_any (a b hi lo : Nat) (w : World) (ha : a < 18446744073709551616) (hb : b < 18446744073709551616) (h : a * b / 18446744073709551616 = hi) (h' : a * b % 18446744073709551616 = lo) :
    Calls Tryd.prog 40 #[.int .u64 a, .int .u64 b] w fun e w' => e = .returned (.tuple #[.int .u64 (hi : Int), .int .u64 (lo : Int)]) ∧ w' = w := by
  subst h h'
  exact Tryd.bits_Mul64 a b ha hb w

/-- What the division must give: the quotient and the rest of hi * 2^64 + lo. -/
def DivAt (hi lo : Nat) (y : Int) (q r : Nat) : Prop := ∀ w : World, Calls Tryd.prog 42 #[.int .u64 hi, .int .u64 lo, .int .u64 y] w fun e w' => e = .returned (.tuple #[.int .u64 (q : Int), .int .u64 (r : Int)]) ∧ Bl w w'

def pdF (below : Bool) (hi q r : Nat) (d : Int) : Int × Bool :=
  if d ≤ hi then (0, false) else if 1000000000000 < (q : Int) then (0, false) else if below then (if 0 < r then (-((q : Int) + 1), true) else (-(q : Int), true)) else ((q : Int), true)
def rP (r : Int × Bool) : Value := .tuple #[.int .i64 r.1, .bool r.2]

set_option maxHeartbeats 1600000 in
theorem pd_any (x n d : Int) (hi lo q r : Nat) (w : World) (x1 : -1000000000000 ≤ x) (x2 : x ≤ 1000000000000) (n1 : -1000000000 ≤ n) (n2 : n ≤ 1000000000) (d1 : 1 ≤ d) (d2 : d ≤ 1000000000)
    (h : x.natAbs * n.natAbs / 18446744073709551616 = hi) (h' : x.natAbs * n.natAbs % 18446744073709551616 = lo) (hh : hi < 1000000) (hr : r < 1000000000) (HD : (hi : Int) < d → DivAt hi lo d q r) :
    Calls Tryd.prog 26 #[.int .i64 x, .agg #[.int .i64 n, .int .i64 d]] w fun e w' => e = .returned (rP (pdF (decide (x < 0) != decide (n < 0)) hi q r d)) ∧ Bl w w' := by
  have H := Lib.hid h
  have H' := Lib.hid h'
  have HH := Lib.hid HD
  clear h h' HD
  by_cases hd : d ≤ (hi : Int)
  · have hp : pdF (decide (x < 0) != decide (n < 0)) hi q r d = (0, false) := by rw [pdF, if_pos hd]
    rw [hp]
    clear hp
    go_enter Tryd.func26, Tryd.ntmps26
    go_wp2
    go_quiet ((first | (go_at_call 41; exact Calls.quiet_of_same (size_any _ _ (by omega) (by omega))) | (go_at_call 40; exact Calls.quiet_of_same (m64_any _ _ hi lo _ (by omega) (by omega) H.out H'.out))))
    go_wp2
    go_ret2
    exact ⟨rfl, Bl.tr (by go_grown) (Bl.dn _ _)⟩
  · have HV := HH.out (by omega)
    clear HH
    by_cases hq : 1000000000000 < (q : Int)
    · have hp : pdF (decide (x < 0) != decide (n < 0)) hi q r d = (0, false) := by rw [pdF, if_neg hd, if_pos hq]
      rw [hp]
      clear hp
      go_enter Tryd.func26, Tryd.ntmps26
      go_wp2
      go_quiet ((first | (go_at_call 41; exact Calls.quiet_of_same (size_any _ _ (by omega) (by omega))) | (go_at_call 40; exact Calls.quiet_of_same (m64_any _ _ hi lo _ (by omega) (by omega) H.out H'.out))))
      go_wp2_with fail
      refine (HV _).mono ?_
      rintro e w1 ⟨rfl, hb⟩
      have B1 : Bl w w1 := Bl.tr (Bl.tr (by go_grown) (Bl.dn _ _)) hb
      clear hb HV
      go_wp2
      go_ret2
      exact ⟨rfl, by go_grown⟩
    · by_cases hx : x < 0
      · by_cases hn : n < 0
        · have hp : pdF (decide (x < 0) != decide (n < 0)) hi q r d = (if false then (if 0 < r then (-((q : Int) + 1), true) else (-(q : Int), true)) else ((q : Int), true)) := by
            rw [pdF, if_neg hd, if_neg hq, decide_eq_true hx, decide_eq_true hn]; rfl
          rw [hp]
          clear hp
          rw [if_neg (by decide)]
          go_enter Tryd.func26, Tryd.ntmps26
          go_wp2
          go_quiet ((first | (go_at_call 41; exact Calls.quiet_of_same (size_any _ _ (by omega) (by omega))) | (go_at_call 40; exact Calls.quiet_of_same (m64_any _ _ hi lo _ (by omega) (by omega) H.out H'.out))))
          go_wp2_with fail
          refine (HV _).mono ?_
          rintro e w1 ⟨rfl, hb⟩
          have B1 : Bl w w1 := Bl.tr (Bl.tr (by go_grown) (Bl.dn _ _)) hb
          clear hb HV
          go_wp2
          go_ret2
          exact ⟨rfl, by go_grown⟩
        · have hp : pdF (decide (x < 0) != decide (n < 0)) hi q r d = (if true then (if 0 < r then (-((q : Int) + 1), true) else (-(q : Int), true)) else ((q : Int), true)) := by
            rw [pdF, if_neg hd, if_neg hq, decide_eq_true hx, decide_eq_false hn]; rfl
          rw [hp]
          clear hp
          by_cases hr0 : 0 < r
          · rw [if_pos rfl, if_pos hr0]
            go_enter Tryd.func26, Tryd.ntmps26
            go_wp2
            go_quiet ((first | (go_at_call 41; exact Calls.quiet_of_same (size_any _ _ (by omega) (by omega))) | (go_at_call 40; exact Calls.quiet_of_same (m64_any _ _ hi lo _ (by omega) (by omega) H.out H'.out))))
            go_wp2_with fail
            refine (HV _).mono ?_
            rintro e w1 ⟨rfl, hb⟩
            have B1 : Bl w w1 := Bl.tr (Bl.tr (by go_grown) (Bl.dn _ _)) hb
            clear hb HV
            go_wp2
            go_ret2
            exact ⟨rfl, by go_grown⟩
          · rw [if_pos rfl, if_neg hr0]
            go_enter Tryd.func26, Tryd.ntmps26
            go_wp2
            go_quiet ((first | (go_at_call 41; exact Calls.quiet_of_same (size_any _ _ (by omega) (by omega))) | (go_at_call 40; exact Calls.quiet_of_same (m64_any _ _ hi lo _ (by omega) (by omega) H.out H'.out))))
            go_wp2_with fail
            refine (HV _).mono ?_
            rintro e w1 ⟨rfl, hb⟩
            have B1 : Bl w w1 := Bl.tr (Bl.tr (by go_grown) (Bl.dn _ _)) hb
            clear hb HV
            go_wp2
            go_ret2
            exact ⟨rfl, by go_grown⟩
      · by_cases hn : n < 0
        · have hp : pdF (decide (x < 0) != decide (n < 0)) hi q r d = (if true then (if 0 < r then (-((q : Int) + 1), true) else (-(q : Int), true)) else ((q : Int), true)) := by
            rw [pdF, if_neg hd, if_neg hq, decide_eq_false hx, decide_eq_true hn]; rfl
          rw [hp]
          clear hp
          by_cases hr0 : 0 < r
          · rw [if_pos rfl, if_pos hr0]
            go_enter Tryd.func26, Tryd.ntmps26
            go_wp2
            go_quiet ((first | (go_at_call 41; exact Calls.quiet_of_same (size_any _ _ (by omega) (by omega))) | (go_at_call 40; exact Calls.quiet_of_same (m64_any _ _ hi lo _ (by omega) (by omega) H.out H'.out))))
            go_wp2_with fail
            refine (HV _).mono ?_
            rintro e w1 ⟨rfl, hb⟩
            have B1 : Bl w w1 := Bl.tr (Bl.tr (by go_grown) (Bl.dn _ _)) hb
            clear hb HV
            go_wp2
            go_ret2
            exact ⟨rfl, by go_grown⟩
          · rw [if_pos rfl, if_neg hr0]
            go_enter Tryd.func26, Tryd.ntmps26
            go_wp2
            go_quiet ((first | (go_at_call 41; exact Calls.quiet_of_same (size_any _ _ (by omega) (by omega))) | (go_at_call 40; exact Calls.quiet_of_same (m64_any _ _ hi lo _ (by omega) (by omega) H.out H'.out))))
            go_wp2_with fail
            refine (HV _).mono ?_
            rintro e w1 ⟨rfl, hb⟩
            have B1 : Bl w w1 := Bl.tr (Bl.tr (by go_grown) (Bl.dn _ _)) hb
            clear hb HV
            go_wp2
            go_ret2
            exact ⟨rfl, by go_grown⟩
        · have hp : pdF (decide (x < 0) != decide (n < 0)) hi q r d = (if false then (if 0 < r then (-((q : Int) + 1), true) else (-(q : Int), true)) else ((q : Int), true)) := by
            rw [pdF, if_neg hd, if_neg hq, decide_eq_false hx, decide_eq_false hn]; rfl
          rw [hp]
          clear hp
          rw [if_neg (by decide)]
          go_enter Tryd.func26, Tryd.ntmps26
          go_wp2
          go_quiet ((first | (go_at_call 41; exact Calls.quiet_of_same (size_any _ _ (by omega) (by omega))) | (go_at_call 40; exact Calls.quiet_of_same (m64_any _ _ hi lo _ (by omega) (by omega) H.out H'.out))))
          go_wp2_with fail
          refine (HV _).mono ?_
          rintro e w1 ⟨rfl, hb⟩
          have B1 : Bl w w1 := Bl.tr (Bl.tr (by go_grown) (Bl.dn _ _)) hb
          clear hb HV
          go_wp2
          go_ret2
          exact ⟨rfl, by go_grown⟩
end Go.Proofs.YtdelgijalnmehaaDoor
