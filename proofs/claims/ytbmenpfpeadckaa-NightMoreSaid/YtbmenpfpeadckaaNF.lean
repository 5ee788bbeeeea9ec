/-
  Contracts of package night: what a list is worth; lists compared.
-/
import Derived.Test.YtbmenpfpeadckaaNE
namespace Go.Proofs.Ytbmenpfpeadckaa
open Go.RowKit
set_option linter.unusedSimpArgs false
set_option linter.unusedVariables false

def sgn (a b : Int) : Int := if a < b then -1 else if b < a then 1 else 0
theorem sgn_lt {a b : Int} (h : a < b) : sgn a b = -1 := if_pos h
theorem sgn_gt {a b : Int} (h : b < a) : sgn a b = 1 := by rw [sgn, if_neg (by omega), if_pos h]
theorem sgn_eq {a b : Int} (h : a = b) : sgn a b = 0 := by rw [sgn, if_neg (by omega), if_neg (by omega)]
theorem sgn_bd (a b : Int) : -1 ≤ sgn a b ∧ sgn a b ≤ 1 := by unfold sgn; split <;> (try split) <;> omega
/-- What the first k of a list are worth. -/
def wthF (L : Nat → Ch) (l : List Int) : Nat → Int
  | 0 => 0
  | k + 1 => wthF L l k + (L (l.getD k 0).toNat).wo
def inx (n : Nat) (l : List Int) : Prop := ∀ i ∈ l, 0 ≤ i ∧ i < (n : Int)
theorem inx_at {n : Nat} {l : List Int} (h : inx n l) {k : Nat} (hk : k < l.length) : 0 ≤ l.getD k 0 ∧ l.getD k 0 < (n : Int) := by
  rw [List.getD, List.getElem?_eq_getElem hk]
  exact h _ (List.getElem_mem hk)
theorem wth_bd {n : Nat} {L : Nat → Ch} {l : List Int} (h : inx n l) (hL : ∀ j, j < n → 0 ≤ (L j).wo ∧ (L j).wo ≤ 1000000) {k : Nat} (hk : k ≤ l.length) : 0 ≤ wthF L l k ∧ wthF L l k ≤ 1000000 * (k : Int) := by
  induction k with
  | zero => exact ⟨Int.le_refl _, Int.le_refl _⟩
  | succ k ih =>
    have h1 := ih (by omega)
    have h2 := inx_at h (k := k) (by omega)
    have h3 := hL (l.getD k 0).toNat (by omega)
    rw [wthF]
    omega
def lexL : List Int → List Int → Int
  | [], [] => 0
  | [], _ :: _ => -1
  | _ :: _, [] => 1
  | a :: x, b :: y => if a < b then -1 else if b < a then 1 else lexL x y
def orF (a b c : Int) : Int := if a ≠ 0 then a else if b ≠ 0 then b else c
/-- How two lists are compared. -/
def cmpL (L : Nat → Ch) (a b : List Int) : Int := orF (sgn (wthF L b b.length) (wthF L a a.length)) (sgn (a.length : Int) (b.length : Int)) (lexL a b)

set_option maxHeartbeats 400000 in
theorem isNaNN_any (a : Int) (w : World) : Calls Try.prog 104 #[.int .i64 a] w fun e w' => e = .returned (.bool false) ∧ w = w' := by
  go_enter Try.func104, Try.ntmps104
  go_wp2
  go_ret
  exact ⟨ret_boolN (by simp), rfl⟩
set_option maxHeartbeats 800000 in
theorem compareN_any (a b : Int) (w : World) : Calls Try.prog 74 #[.int .i64 a, .int .i64 b] w fun e w' => e = .returned (.int .i64 (sgn a b)) ∧ w = w' := by
  go_enter Try.func74, Try.ntmps74
  go_wp2_with fail
  refine (isNaNN_any a _).mono ?_
  rintro e1 w1 ⟨rfl, rfl⟩
  go_wp2_with fail
  refine (isNaNN_any b _).mono ?_
  rintro e1 w1 ⟨rfl, rfl⟩
  by_cases h1 : a < b
  · have HR := Lib.hid (sgn_lt h1)
    go_wp2_with fail
    go_ret
    exact ⟨ret_intN HR.out.symm, rfl⟩
  · by_cases h2 : b < a
    · have HR := Lib.hid (sgn_gt h2)
      go_wp2_with fail
      go_ret
      exact ⟨ret_intN HR.out.symm, rfl⟩
    · have HR := Lib.hid (sgn_eq (show a = b by omega))
      go_wp2_with fail
      go_ret
      exact ⟨ret_intN HR.out.symm, rfl⟩
set_option maxRecDepth 100000 in
set_option maxHeartbeats 1600000 in
theorem worthN_any (A : Option Addr) (n c : Nat) (L : Nat → Ch) (v : Value) (l : List Int) (w : World) (lo : Nat) (hA : Chl w A n L) (hn : n ≤ 20) (hL : ∀ j, j < n → 0 ≤ (L j).wo ∧ (L j).wo ≤ 1000000) (hv : IsL w lo v l) (hi : inx n l) (h4 : l.length ≤ 400) :
    Calls Try.prog 48 #[.slice A n c, v] w fun e w' => e = .returned (.int .i64 (wthF L l l.length)) ∧ w = w' := by
  obtain ⟨B, d, rfl, q1, q2, hsl, _⟩ := hv
  obtain ⟨m, hm⟩ : ∃ m, m = l.length := ⟨_, rfl⟩
  have HIX := Lib.hid (fun k (hk : k < m) => inx_at hi (k := k) (by omega))
  have HBD := Lib.hid (fun k (hk : k ≤ m) => wth_bd hi hL (k := k) (by omega))
  have HLB := Lib.hid hL
  rw [← hm] at q1 hsl h4 ⊢
  have HM := Lib.hid hm
  have HA := Lib.hid hA
  have HS := Lib.hid hsl
  clear hA hsl hi hm hL
  go_enter Try.func48, Try.ntmps48
  go_wp2_with fail
  go_loop [5, 10] (fun s i => ∃ k : Nat, k ≤ m ∧ i = .int .i64 k ∧ s = .int .i64 (wthF L l k)) (fun _ i => m - (intOf i).toNat)
  case atStart => exact ⟨0, Nat.zero_le _, rfl, rfl⟩
  case round =>
    obtain ⟨k, hk, rfl, rfl⟩ := hrel
    by_cases hlt : k < m
    · obtain ⟨b, off, rfl, hbb, hc⟩ := HS.out (by omega)
      have c0 := hc k hlt
      have hx := HIX.out k hlt
      obtain ⟨j, hj⟩ : ∃ j : Nat, (j : Int) = l.getD k 0 := ⟨(l.getD k 0).toNat, by omega⟩
      have hjn : j < n := by omega
      obtain ⟨b2, off2, rfl, hbb2, hc2⟩ := HA.out (by omega)
      obtain ⟨_, _, _, _, d4⟩ := hc2 j hjn
      have HSU := Lib.hid (show wthF L l (k + 1) = wthF L l k + (L j).wo by rw [wthF, ← hj]; rfl)
      have b0 := HBD.out k (by omega)
      have hb1 := HLB.out j hjn
      obtain ⟨s, hs⟩ : ∃ s, s = wthF L l k := ⟨_, rfl⟩
      obtain ⟨x, hx'⟩ : ∃ x, x = (L j).wo := ⟨_, rfl⟩
      dsimp only at c0
      rw [← hj] at c0
      rw [← hs] at HSU b0 ⊢
      rw [← hx'] at HSU d4 hb1
      obtain ⟨b01, b02⟩ := b0
      obtain ⟨b11, b12⟩ := hb1
      have w1 : IntKind.i64.wrap (s + x) = s + x := IntWalk.i64_in _ (by omega)
      have w2 : wrap64 (s + x) = s + x := IntWalk.wrap64_in _ (by omega)
      clear hc hc2 hj hs hx' hx
      go_wp2_with fail
      go_round
      case rel => exact ⟨k + 1, by omega, by go_num, by rw [HSU.out]⟩
      case measure => simp [intOf]; omega
    · obtain rfl : k = m := by omega
      go_wp2_with fail
      go_ret
      exact ⟨rfl, rfl⟩
end Go.Proofs.Ytbmenpfpeadckaa
