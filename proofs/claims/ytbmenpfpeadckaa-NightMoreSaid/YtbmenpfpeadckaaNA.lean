/-
  Package night: chances; turn, follows.
-/
import Derived.Test.YtbmenpfpeadckaaKB
import Derived.Deep.RegionLaw
import Derived.Deep.RegionHeld3
import Derived.Lib.MinMax
namespace Go.Proofs.Ytbmenpfpeadckaa
open Go.RowKit
set_option linter.unusedSimpArgs false
set_option linter.unusedVariables false

structure Ch where
  nm : ByteArray
  (fr to tl wo : Int)
abbrev encC (c : Ch) : Value := .agg #[.string c.nm, .int .i64 c.fr, .int .i64 c.to, .int .i64 c.tl, .int .i64 c.wo]
/-- A slice of chances reads as a function. -/
def Chl (w : World) (A : Option Addr) (n : Nat) (L : Nat → Ch) : Prop :=
  0 < n → ∃ b off, A = some ⟨b, off, none⟩ ∧ b < w.heap.size ∧ ∀ j, j < n → w.cell? ⟨b, off + j * 5, none⟩ = some (.string (L j).nm) ∧ w.cell? ⟨b, off + j * 5 + 1, none⟩ = some (.int .i64 (L j).fr) ∧ w.cell? ⟨b, off + j * 5 + 2, none⟩ = some (.int .i64 (L j).to) ∧
    w.cell? ⟨b, off + j * 5 + 3, none⟩ = some (.int .i64 (L j).tl) ∧ w.cell? ⟨b, off + j * 5 + 4, none⟩ = some (.int .i64 (L j).wo)
theorem Chl.below {w w' : World} {A : Option Addr} {n : Nat} {L : Nat → Ch} (h : Chl w A n L) (hb : Bl w w') : Chl w' A n L := fun hn => by
  obtain ⟨b, off, e, hlt, hc⟩ := h hn
  exact ⟨b, off, e, Nat.lt_of_lt_of_le hlt hb.size, fun j hj => by
    obtain ⟨c0, c1, c2, c3, c4⟩ := hc j hj
    exact ⟨kcb hb c0, kcb hb c1, kcb hb c2, kcb hb c3, kcb hb c4⟩⟩
/-- A chance is valid. -/
def vcB (c : Ch) : Bool := nmB c.nm && decide (0 ≤ c.fr) && decide (c.fr < c.to) && decide (c.to ≤ 86400000) && decide (-90000 ≤ c.tl) && decide (c.tl ≤ 90000) && decide (0 ≤ c.wo) && decide (c.wo ≤ 1000000)
theorem vc_iff {c : Ch} : vcB c = true ↔ nmB c.nm = true ∧ 0 ≤ c.fr ∧ c.fr < c.to ∧ c.to ≤ 86400000 ∧ -90000 ≤ c.tl ∧ c.tl ≤ 90000 ∧ 0 ≤ c.wo ∧ c.wo ≤ 1000000 := by simp [vcB, and_assoc]
/-- How long the instrument is turned. -/
def trn (a b : Ch) (per : Int) : Int := per * max (a.tl - b.tl) (b.tl - a.tl)
theorem trn_bd {a b : Ch} {per : Int} (ha : -90000 ≤ a.tl ∧ a.tl ≤ 90000) (hb : -90000 ≤ b.tl ∧ b.tl ≤ 90000) (hp : 0 ≤ per ∧ per ≤ 10000) : 0 ≤ trn a b per ∧ trn a b per ≤ 1800000000 := by
  unfold trn
  obtain ⟨x, hx⟩ : ∃ x, x = max (a.tl - b.tl) (b.tl - a.tl) := ⟨_, rfl⟩
  have h1 : 0 ≤ x ∧ x ≤ 180000 := by omega
  rw [← hx]
  exact ⟨Int.mul_nonneg hp.1 h1.1, by
    have h2 : per * x ≤ 10000 * x := Int.mul_le_mul_of_nonneg_right hp.2 h1.1
    omega⟩
def flw (a b : Ch) (per : Int) : Bool := decide (a.to + trn a b per ≤ b.fr)
theorem ret_boolN {a b : Bool} (h : a = b) : Ending.returned (.bool a) = .returned (.bool b) := by rw [h]
theorem ret_intN {k : IntKind} {a b : Int} (h : a = b) : Ending.returned (.int k a) = .returned (.int k b) := by rw [h]

set_option maxHeartbeats 800000 in
theorem turnN_any (a b : Ch) (per : Int) (w : World) (ha : -90000 ≤ a.tl ∧ a.tl ≤ 90000) (hb : -90000 ≤ b.tl ∧ b.tl ≤ 90000) (hp : 0 ≤ per ∧ per ≤ 10000) :
    Calls Try.prog 89 #[encC a, encC b, .int .i64 per] w fun e w' => e = .returned (.int .i64 (trn a b per)) ∧ Bl w w' := by
  have ht := trn_bd ha hb hp
  obtain ⟨a1, a2⟩ := ha
  obtain ⟨b1, b2⟩ := hb
  obtain ⟨p1, p2⟩ := hp
  obtain ⟨t1, t2⟩ := ht
  have HT := Lib.hid (show trn a b per = per * max (a.tl - b.tl) (b.tl - a.tl) from rfl)
  obtain ⟨T, hT⟩ : ∃ T, trn a b per = T := ⟨_, rfl⟩
  rw [hT] at HT t1 t2 ⊢
  have e1 : wrap64 (per * max (a.tl - b.tl) (b.tl - a.tl)) = T := by rw [IntWalk.wrap64_in _ (by rw [← HT.out]; omega), HT.out]
  have e2 : IntKind.i64.wrap (per * max (a.tl - b.tl) (b.tl - a.tl)) = T := by rw [IntWalk.i64_in _ (by rw [← HT.out]; omega), HT.out]
  clear hT
  go_enter Try.func89, Try.ntmps89
  go_wp2_with fail
  trace_state
  go_ret
  exact ⟨rfl, by go_grown⟩
end Go.Proofs.Ytbmenpfpeadckaa
