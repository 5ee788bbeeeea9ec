/-
  Contracts of package ledger: the closures that say what an off must be; size, isBound.
-/
import Derived.Test.YtbmenpfpeadckaaLZ
namespace Go.Proofs.Ytbmenpfpeadckaa
open Go.RowKit Go.Maps Go.Shelf
set_option linter.unusedSimpArgs false
set_option linter.unusedVariables false

def absI (x : Int) : Int := max x (-x)
set_option maxHeartbeats 400000 in
theorem sizeL_any (x : Int) (w : World) (hx : -172800000 ≤ x ∧ x ≤ 172800000) : Calls Try.prog 68 #[.int .i64 x] w fun e w' => e = .returned (.int .i64 (absI x)) ∧ w = w' := by
  have e1 : wrap64 (-x) = -x := IntWalk.wrap64_in _ (by omega)
  have e2 : IntKind.i64.wrap (-x) = -x := IntWalk.i64_in _ (by omega)
  have HA := Lib.hid (show absI x = max x (-x) from rfl)
  go_enter Try.func68, Try.ntmps68
  go_wp2_with fail
  go_ret
  exact ⟨by rw [HA.out]; rfl, rfl⟩
def bndB (n : Int) : Bool := decide (0 ≤ n) && decide (n ≤ 86400000)
set_option maxHeartbeats 400000 in
theorem isBound_any (n : Int) (w : World) : Calls Try.prog 66 #[.int .i64 n] w fun e w' => e = .returned (.bool (bndB n)) ∧ w = w' := by
  go_enter Try.func66, Try.ntmps66
  go_wp2
  all_goals (go_ret; exact ⟨ret_boolE (by simp [bndB]; try omega), rfl⟩)
def mallP (d x : Int) : Bool := true
set_option maxHeartbeats 400000 in
theorem mall_any (d x : Int) (w : World) : Calls Try.prog 63 #[.int .i64 d, .int .i64 x] w fun e w' => e = .returned (.bool (mallP d x)) ∧ Bl w w' := by
  go_enter Try.func63, Try.ntmps63
  go_wp2
  go_ret
  exact ⟨rfl, Bl.rf _⟩
def mstreakP (m : Int) (d x : Int) : Bool := decide (absI x ≤ m)
def mletterP (m : Int) (d x : Int) : Bool := decide (m < absI x)
def mbetweenP (a b : Int) (d x : Int) : Bool := decide (a ≤ d) && decide (d ≤ b)
set_option maxHeartbeats 1600000 in
theorem mstreak_any (p : Nat) (m d x : Int) (w : World) (h : w.cell? ⟨p, 0, none⟩ = some (.int .i64 m)) (hx : -172800000 ≤ x ∧ x ≤ 172800000) : Calls Try.prog 69 #[.int .i64 d, .int .i64 x, .pointer (some ⟨p, 0, none⟩)] w fun e w' => e = .returned (.bool (mstreakP m d x)) ∧ Bl w w' := by
  have HS := Lib.hid (fun (X : World) => sizeL_any x X hx)
  have HR := Lib.hid (show mstreakP m d x = decide (absI x ≤ m) from rfl)
  clear hx
  obtain ⟨z, hz⟩ : ∃ z, z = absI x := ⟨_, rfl⟩
  rw [← hz] at HR HS
  clear hz
  go_enter Try.func69, Try.ntmps69
  go_wp2_with fail
  go_quiet ((go_at_call 68; refine Calls.quiet_of_same ((HS.out _).mono fun e w h => ⟨h.1, h.2.symm⟩)))
  go_wp2_with fail
  go_ret
  exact ⟨ret_boolE (by rw [HR.out]), bl_dn _ _⟩
set_option maxHeartbeats 1600000 in
theorem mletter_any (p : Nat) (m d x : Int) (w : World) (h : w.cell? ⟨p, 0, none⟩ = some (.int .i64 m)) (hx : -172800000 ≤ x ∧ x ≤ 172800000) : Calls Try.prog 67 #[.int .i64 d, .int .i64 x, .pointer (some ⟨p, 0, none⟩)] w fun e w' => e = .returned (.bool (mletterP m d x)) ∧ Bl w w' := by
  have HS := Lib.hid (fun (X : World) => sizeL_any x X hx)
  have HR := Lib.hid (show mletterP m d x = decide (m < absI x) from rfl)
  clear hx
  obtain ⟨z, hz⟩ : ∃ z, z = absI x := ⟨_, rfl⟩
  rw [← hz] at HR HS
  clear hz
  go_enter Try.func67, Try.ntmps67
  go_wp2_with fail
  go_quiet ((go_at_call 68; refine Calls.quiet_of_same ((HS.out _).mono fun e w h => ⟨h.1, h.2.symm⟩)))
  go_wp2_with fail
  go_ret
  exact ⟨ret_boolE (by rw [HR.out]), bl_dn _ _⟩
set_option maxHeartbeats 1600000 in
theorem mbetween_any (p q : Nat) (a b d x : Int) (w : World) (h : w.cell? ⟨p, 0, none⟩ = some (.int .i64 a)) (h2 : w.cell? ⟨q, 0, none⟩ = some (.int .i64 b)) : Calls Try.prog 95 #[.int .i64 d, .int .i64 x, .pointer (some ⟨p, 0, none⟩), .pointer (some ⟨q, 0, none⟩)] w fun e w' => e = .returned (.bool (mbetweenP a b d x)) ∧ Bl w w' := by
  by_cases q1 : a ≤ d
  · have HR := Lib.hid (show mbetweenP a b d x = decide (d ≤ b) by simp [mbetweenP, q1])
    go_enter Try.func95, Try.ntmps95
    go_wp2_with fail
    go_ret
    exact ⟨ret_boolE HR.out.symm, Bl.rf _⟩
  · have HR := Lib.hid (show mbetweenP a b d x = false by simp [mbetweenP, q1])
    go_enter Try.func95, Try.ntmps95
    go_wp2_with fail
    go_ret
    exact ⟨ret_boolE HR.out.symm, Bl.rf _⟩
end Go.Proofs.Ytbmenpfpeadckaa
