/-
  Contracts of package night: follows, a chance alone.
-/
import Derived.Test.YtbmenpfpeadckaaNN
namespace Go.Proofs.Ytbmenpfpeadckaa
open Go.RowKit
set_option linter.unusedSimpArgs false
set_option linter.unusedVariables false

theorem bl_drN (w : World) : Bl w w.drew := ⟨rfl, rfl, rfl, Nat.le_refl _, fun _ _ => rfl⟩
theorem bl_dnN (w : World) (n : Nat) : Bl w (w.drewN n) := ⟨rfl, rfl, rfl, Nat.le_refl _, fun _ _ => rfl⟩
def SF (w : World) (a b : Ch) (W' : World) : Prop := Bl w W' ∧ W'.cell? ⟨w.heap.size, 0, none⟩ = some (.string a.nm) ∧ W'.cell? ⟨w.heap.size, 1, none⟩ = some (.int .i64 a.fr) ∧ W'.cell? ⟨w.heap.size, 2, none⟩ = some (.int .i64 a.to) ∧ W'.cell? ⟨w.heap.size, 3, none⟩ = some (.int .i64 a.tl) ∧ W'.cell? ⟨w.heap.size, 4, none⟩ = some (.int .i64 a.wo) ∧ W'.cell? ⟨w.heap.size + 1, 0, none⟩ = some (.string b.nm) ∧ W'.cell? ⟨w.heap.size + 1, 1, none⟩ = some (.int .i64 b.fr) ∧ W'.cell? ⟨w.heap.size + 1, 2, none⟩ = some (.int .i64 b.to) ∧ W'.cell? ⟨w.heap.size + 1, 3, none⟩ = some (.int .i64 b.tl) ∧ W'.cell? ⟨w.heap.size + 1, 4, none⟩ = some (.int .i64 b.wo) ∧ w.heap.size + 1 < W'.heap.size
theorem SF.t {w : World} {a b : Ch} {W W' : World} (h : SF w a b W) (hb : Bl W W') : SF w a b W' := by
  obtain ⟨h0, a0, a1, a2, a3, a4, b0, b1, b2, b3, b4, l⟩ := h
  exact ⟨h0.tr hb, kcb hb a0, kcb hb a1, kcb hb a2, kcb hb a3, kcb hb a4, kcb hb b0, kcb hb b1, kcb hb b2, kcb hb b3, kcb hb b4, Nat.lt_of_lt_of_le l hb.size⟩
set_option maxRecDepth 100000 in
set_option maxHeartbeats 3200000 in
theorem followsN_any (a b : Ch) (per : Int) (w : World) (ha : vcB a = true) (hb : vcB b = true) (hp : 0 ≤ per ∧ per ≤ 10000) :
    Calls Try.prog 52 #[encC a, encC b, .int .i64 per] w fun e w' => e = .returned (.bool (flw a b per)) ∧ Bl w w' := by
  obtain ⟨_, f1, f2, f3, f4, f5, _, _⟩ := vc_iff.1 ha
  obtain ⟨_, g1, g2, g3, g4, g5, _, _⟩ := vc_iff.1 hb
  have ht := trn_bd (per := per) ⟨f4, f5⟩ ⟨g4, g5⟩ hp
  have HCT := Lib.hid (fun (X : World) => turnN_any a b per X ⟨f4, f5⟩ ⟨g4, g5⟩ hp)
  have HR := Lib.hid (show flw a b per = decide (a.to + trn a b per ≤ b.fr) from rfl)
  obtain ⟨T, hT⟩ : ∃ T, trn a b per = T := ⟨_, rfl⟩
  rw [hT] at HR ht
  have HT := Lib.hid hT
  obtain ⟨t1, t2⟩ := ht
  have h1 : 0 < a.to := by omega
  have h2 : a.to ≤ 86400000 := f3
  have w1 : IntKind.i64.wrap (a.to + T) = a.to + T := IntWalk.i64_in _ (by omega)
  have w2 : wrap64 (a.to + T) = a.to + T := IntWalk.wrap64_in _ (by omega)
  clear ha hb hT f4 f5 g4 g5
  go_enter Try.func52, Try.ntmps52
  go_wp2_with fail
  have S0 : SF w a b ((w.alloc (.cells #[.string a.nm, .int .i64 a.fr, .int .i64 a.to, .int .i64 a.tl, .int .i64 a.wo] 56)).alloc (.cells #[.string b.nm, .int .i64 b.fr, .int .i64 b.to, .int .i64 b.tl, .int .i64 b.wo] 56)) :=
    ⟨by go_grown, by go_cell, by go_cell, by go_cell, by go_cell, by go_cell, by go_cell, by go_cell, by go_cell, by go_cell, by go_cell, by simp⟩
  go_region_held3 (fun W' => Bl w W' ∧ W'.cell? ⟨w.heap.size, 0, none⟩ = some (.string a.nm) ∧ W'.cell? ⟨w.heap.size, 1, none⟩ = some (.int .i64 a.fr) ∧ W'.cell? ⟨w.heap.size, 2, none⟩ = some (.int .i64 a.to) ∧ W'.cell? ⟨w.heap.size, 3, none⟩ = some (.int .i64 a.tl) ∧ W'.cell? ⟨w.heap.size, 4, none⟩ = some (.int .i64 a.wo) ∧ W'.cell? ⟨w.heap.size + 1, 0, none⟩ = some (.string b.nm) ∧ W'.cell? ⟨w.heap.size + 1, 1, none⟩ = some (.int .i64 b.fr) ∧ W'.cell? ⟨w.heap.size + 1, 2, none⟩ = some (.int .i64 b.to) ∧ W'.cell? ⟨w.heap.size + 1, 3, none⟩ = some (.int .i64 b.tl) ∧ W'.cell? ⟨w.heap.size + 1, 4, none⟩ = some (.int .i64 b.wo) ∧ w.heap.size + 1 < W'.heap.size) (first | exact SF.t S0 (bl_drN _) | exact SF.t (by assumption) hh0) (first | (go_at_call 89; refine (HCT.out _).mono ?_; rintro e v0 ⟨rfl, hh0⟩; rw [HT.out]))
  all_goals
    rename_i hHeld
    have hHB := hHeld.1
    clear hHeld
    go_wp2_with fail
    go_ret
    exact ⟨ret_boolN HR.out.symm, hHB⟩
set_option maxHeartbeats 400000 in
theorem isPerN_any (p : Int) (w : World) : Calls Try.prog 71 #[.int .i64 p] w fun e w' => e = .returned (.bool (inB p 0 10000)) ∧ w = w' := by
  go_enter Try.func71, Try.ntmps71
  go_wp2
  all_goals (go_ret; exact ⟨ret_boolN (by simp [inB]; try omega), rfl⟩)
set_option maxRecDepth 100000 in
set_option maxHeartbeats 3200000 in
theorem isChanceN_any (c : Ch) (w : World) (hs : c.nm.size ≤ maxLen) :
    Calls Try.prog 108 #[encC c] w fun e w' => e = .returned (.bool (vcB c)) ∧ Bl w w' := by
  have HS := Lib.hid hs
  clear hs
  cases hn : nmB c.nm with
  | false =>
    have HN := Lib.hid hn
    have HR := Lib.hid (show vcB c = false from by simp [vcB, hn])
    clear hn
    go_enter Try.func108, Try.ntmps108
    go_wp2_with fail
    refine (isNameN_any _ _ HS.out).mono ?_
    rintro q1 w1 ⟨rfl, rfl⟩
    rw [HN.out]
    go_wp2_with fail
    go_ret
    exact ⟨ret_boolN (by first | exact HR.out.symm | (rw [HR.out]; simp; omega)), by go_grown⟩
  | true =>
    have HN := Lib.hid hn
    by_cases q0 : 0 ≤ c.fr
    rotate_left
    · have HR := Lib.hid (show vcB c = false from by simp [vcB, q0])
      clear hn
      go_enter Try.func108, Try.ntmps108
      go_wp2_with fail
      refine (isNameN_any _ _ HS.out).mono ?_
      rintro q1 w1 ⟨rfl, rfl⟩
      rw [HN.out]
      go_wp2_with fail
      go_ret
      exact ⟨ret_boolN (by first | exact HR.out.symm | (rw [HR.out]; simp; omega)), by go_grown⟩
    by_cases q1 : c.fr < c.to
    rotate_left
    · have HR := Lib.hid (show vcB c = false from by simp [vcB, q1])
      clear hn
      go_enter Try.func108, Try.ntmps108
      go_wp2_with fail
      refine (isNameN_any _ _ HS.out).mono ?_
      rintro q1 w1 ⟨rfl, rfl⟩
      rw [HN.out]
      go_wp2_with fail
      go_ret
      exact ⟨ret_boolN (by first | exact HR.out.symm | (rw [HR.out]; simp; omega)), by go_grown⟩
    by_cases q2 : c.to ≤ 86400000
    rotate_left
    · have HR := Lib.hid (show vcB c = false from by simp [vcB, q2])
      clear hn
      go_enter Try.func108, Try.ntmps108
      go_wp2_with fail
      refine (isNameN_any _ _ HS.out).mono ?_
      rintro q1 w1 ⟨rfl, rfl⟩
      rw [HN.out]
      go_wp2_with fail
      go_ret
      exact ⟨ret_boolN (by first | exact HR.out.symm | (rw [HR.out]; simp; omega)), by go_grown⟩
    by_cases q3 : -90000 ≤ c.tl
    rotate_left
    · have HR := Lib.hid (show vcB c = false from by simp [vcB, q3])
      clear hn
      go_enter Try.func108, Try.ntmps108
      go_wp2_with fail
      refine (isNameN_any _ _ HS.out).mono ?_
      rintro q1 w1 ⟨rfl, rfl⟩
      rw [HN.out]
      go_wp2_with fail
      go_ret
      exact ⟨ret_boolN (by first | exact HR.out.symm | (rw [HR.out]; simp; omega)), by go_grown⟩
    by_cases q4 : c.tl ≤ 90000
    rotate_left
    · have HR := Lib.hid (show vcB c = false from by simp [vcB, q4])
      clear hn
      go_enter Try.func108, Try.ntmps108
      go_wp2_with fail
      refine (isNameN_any _ _ HS.out).mono ?_
      rintro q1 w1 ⟨rfl, rfl⟩
      rw [HN.out]
      go_wp2_with fail
      go_ret
      exact ⟨ret_boolN (by first | exact HR.out.symm | (rw [HR.out]; simp; omega)), by go_grown⟩
    by_cases q5 : 0 ≤ c.wo
    rotate_left
    · have HR := Lib.hid (show vcB c = false from by simp [vcB, q5])
      clear hn
      go_enter Try.func108, Try.ntmps108
      go_wp2_with fail
      refine (isNameN_any _ _ HS.out).mono ?_
      rintro q1 w1 ⟨rfl, rfl⟩
      rw [HN.out]
      go_wp2_with fail
      go_ret
      exact ⟨ret_boolN (by first | exact HR.out.symm | (rw [HR.out]; simp; omega)), by go_grown⟩
    by_cases q6 : c.wo ≤ 1000000
    rotate_left
    · have HR := Lib.hid (show vcB c = false from by simp [vcB, q6])
      clear hn
      go_enter Try.func108, Try.ntmps108
      go_wp2_with fail
      refine (isNameN_any _ _ HS.out).mono ?_
      rintro q1 w1 ⟨rfl, rfl⟩
      rw [HN.out]
      go_wp2_with fail
      go_ret
      exact ⟨ret_boolN (by first | exact HR.out.symm | (rw [HR.out]; simp; omega)), by go_grown⟩
    have HR := Lib.hid (show vcB c = true from vc_iff.2 ⟨hn, q0, q1, q2, q3, q4, q5, q6⟩)
    clear hn
    go_enter Try.func108, Try.ntmps108
    go_wp2_with fail
    refine (isNameN_any _ _ HS.out).mono ?_
    rintro q1 w1 ⟨rfl, rfl⟩
    rw [HN.out]
    go_wp2_with fail
    go_ret
    exact ⟨ret_boolN (by first | exact HR.out.symm | (rw [HR.out]; simp; omega)), by go_grown⟩
set_option maxRecDepth 100000 in
set_option maxHeartbeats 3200000 in
theorem validChance_any (c : Ch) (w : World) (hs : c.nm.size ≤ maxLen) :
    Calls Try.prog 105 #[encC c] w fun e w' => e = .returned (.bool (vcB c)) ∧ Bl w w' := by
  have HS := Lib.hid hs
  clear hs
  cases hn : nmB c.nm with
  | false =>
    have HN := Lib.hid hn
    have HR := Lib.hid (show vcB c = false from by simp [vcB, hn])
    clear hn
    go_enter Try.func105, Try.ntmps105
    go_wp2_with fail
    refine (name8_any _ _ HS.out).mono ?_
    rintro q1 w1 ⟨rfl, rfl⟩
    rw [HN.out]
    go_wp2_with fail
    go_ret
    exact ⟨ret_boolN (by first | exact HR.out.symm | (rw [HR.out]; simp; omega)), by go_grown⟩
  | true =>
    have HN := Lib.hid hn
    by_cases q0 : 0 ≤ c.fr
    rotate_left
    · have HR := Lib.hid (show vcB c = false from by simp [vcB, q0])
      clear hn
      go_enter Try.func105, Try.ntmps105
      go_wp2_with fail
      refine (name8_any _ _ HS.out).mono ?_
      rintro q1 w1 ⟨rfl, rfl⟩
      rw [HN.out]
      go_wp2_with fail
      go_ret
      exact ⟨ret_boolN (by first | exact HR.out.symm | (rw [HR.out]; simp; omega)), by go_grown⟩
    by_cases q1 : c.fr < c.to
    rotate_left
    · have HR := Lib.hid (show vcB c = false from by simp [vcB, q1])
      clear hn
      go_enter Try.func105, Try.ntmps105
      go_wp2_with fail
      refine (name8_any _ _ HS.out).mono ?_
      rintro q1 w1 ⟨rfl, rfl⟩
      rw [HN.out]
      go_wp2_with fail
      go_ret
      exact ⟨ret_boolN (by first | exact HR.out.symm | (rw [HR.out]; simp; omega)), by go_grown⟩
    by_cases q2 : c.to ≤ 86400000
    rotate_left
    · have HR := Lib.hid (show vcB c = false from by simp [vcB, q2])
      clear hn
      go_enter Try.func105, Try.ntmps105
      go_wp2_with fail
      refine (name8_any _ _ HS.out).mono ?_
      rintro q1 w1 ⟨rfl, rfl⟩
      rw [HN.out]
      go_wp2_with fail
      go_ret
      exact ⟨ret_boolN (by first | exact HR.out.symm | (rw [HR.out]; simp; omega)), by go_grown⟩
    by_cases q3 : -90000 ≤ c.tl
    rotate_left
    · have HR := Lib.hid (show vcB c = false from by simp [vcB, q3])
      clear hn
      go_enter Try.func105, Try.ntmps105
      go_wp2_with fail
      refine (name8_any _ _ HS.out).mono ?_
      rintro q1 w1 ⟨rfl, rfl⟩
      rw [HN.out]
      go_wp2_with fail
      go_ret
      exact ⟨ret_boolN (by first | exact HR.out.symm | (rw [HR.out]; simp; omega)), by go_grown⟩
    by_cases q4 : c.tl ≤ 90000
    rotate_left
    · have HR := Lib.hid (show vcB c = false from by simp [vcB, q4])
      clear hn
      go_enter Try.func105, Try.ntmps105
      go_wp2_with fail
      refine (name8_any _ _ HS.out).mono ?_
      rintro q1 w1 ⟨rfl, rfl⟩
      rw [HN.out]
      go_wp2_with fail
      go_ret
      exact ⟨ret_boolN (by first | exact HR.out.symm | (rw [HR.out]; simp; omega)), by go_grown⟩
    by_cases q5 : 0 ≤ c.wo
    rotate_left
    · have HR := Lib.hid (show vcB c = false from by simp [vcB, q5])
      clear hn
      go_enter Try.func105, Try.ntmps105
      go_wp2_with fail
      refine (name8_any _ _ HS.out).mono ?_
      rintro q1 w1 ⟨rfl, rfl⟩
      rw [HN.out]
      go_wp2_with fail
      go_ret
      exact ⟨ret_boolN (by first | exact HR.out.symm | (rw [HR.out]; simp; omega)), by go_grown⟩
    by_cases q6 : c.wo ≤ 1000000
    rotate_left
    · have HR := Lib.hid (show vcB c = false from by simp [vcB, q6])
      clear hn
      go_enter Try.func105, Try.ntmps105
      go_wp2_with fail
      refine (name8_any _ _ HS.out).mono ?_
      rintro q1 w1 ⟨rfl, rfl⟩
      rw [HN.out]
      go_wp2_with fail
      go_ret
      exact ⟨ret_boolN (by first | exact HR.out.symm | (rw [HR.out]; simp; omega)), by go_grown⟩
    have HR := Lib.hid (show vcB c = true from vc_iff.2 ⟨hn, q0, q1, q2, q3, q4, q5, q6⟩)
    clear hn
    go_enter Try.func105, Try.ntmps105
    go_wp2_with fail
    refine (name8_any _ _ HS.out).mono ?_
    rintro q1 w1 ⟨rfl, rfl⟩
    rw [HN.out]
    go_wp2_with fail
    go_ret
    exact ⟨ret_boolN (by first | exact HR.out.symm | (rw [HR.out]; simp; omega)), by go_grown⟩
end Go.Proofs.Ytbmenpfpeadckaa
