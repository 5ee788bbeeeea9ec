/-
  Contracts of package night: the scale that compares lists.
-/
import Derived.Test.YtbmenpfpeadckaaNG
namespace Go.Proofs.Ytbmenpfpeadckaa
open Go.RowKit
set_option linter.unusedSimpArgs false
set_option linter.unusedVariables false

theorem two_callsN {P : Program} {fn : Nat} {s a b : Value} {p q : Int} {w X : World} (h1 : ∀ X, Bl w X → Calls P fn #[s, a] X (fun e' w' => e' = .returned (.int .i64 p) ∧ X = w')) (h2 : ∀ X, Bl w X → Calls P fn #[s, b] X (fun e' w' => e' = .returned (.int .i64 q) ∧ X = w'))
    {v : Value} {z : Int} (hX : Bl w X) (hs : (v = a ∧ z = p) ∨ (v = b ∧ z = q)) : Calls P fn #[s, v] X fun e' w' => e' = .returned (.int .i64 z) ∧ X = w' := by
  rcases hs with ⟨rfl, rfl⟩ | ⟨rfl, rfl⟩
  · exact h1 X hX
  · exact h2 X hX
theorem bl_allocN (w : World) (o : Obj) : Bl w (w.alloc o) := by go_grown
def SG (w : World) (b : Nat) (x : Value) (W' : World) : Prop := Bl w W' ∧ W'.cell? ⟨b, 0, none⟩ = some x ∧ b < W'.heap.size
theorem SG.t {w : World} {b : Nat} {x : Value} {W W' : World} (h : SG w b x W) (hb : Bl W W') : SG w b x W' := ⟨h.1.tr hb, kcb hb h.2.1, Nat.lt_of_lt_of_le h.2.2 hb.size⟩
theorem SG.bl {w : World} {b : Nat} {x : Value} {W : World} (h : SG w b x W) : Bl w W := h.1
set_option maxRecDepth 100000 in
set_option maxHeartbeats 3200000 in
theorem scale_any (A : Option Addr) (n c : Nat) (L : Nat → Ch) (u v : Value) (la lb : List Int) (w : World) (lo lo' : Nat) (hA : Chl w A n L) (hn : n ≤ 20) (hL : ∀ j, j < n → 0 ≤ (L j).wo ∧ (L j).wo ≤ 1000000)
    (hu : IsL w lo u la) (hv : IsL w lo' v lb) (hia : inx n la) (hib : inx n lb) (h1 : la.length ≤ 400) (h2 : lb.length ≤ 400) :
    Calls Try.prog 37 #[.agg #[.slice A n c], u, v] w fun e w' => e = .returned (.int .i64 (cmpL L la lb)) ∧ Bl w w' := by
  have HWA := Lib.hid (fun (X : World) (hb : Bl w X) => worthN_any A n c L u la X lo (hA.below hb) hn hL (hu.below hb) hia h1)
  have HWB := Lib.hid (fun (X : World) (hb : Bl w X) => worthN_any A n c L v lb X lo' (hA.below hb) hn hL (hv.below hb) hib h2)
  have HLX := Lib.hid (fun (X : World) (hb : Bl w X) => lexN_any u v la lb X lo lo' (hu.below hb) (hv.below hb) h1 h2)
  have HR := Lib.hid (show cmpL L la lb = orF (sgn (wthF L lb lb.length) (wthF L la la.length)) (sgn (la.length : Int) (lb.length : Int)) (lexL la lb) from rfl)
  obtain ⟨B1, c1, rfl, -, -, -, -⟩ := hu
  obtain ⟨B2, c2, rfl, -, -, -, -⟩ := hv
  obtain ⟨m1, e1⟩ : ∃ m, m = la.length := ⟨_, rfl⟩
  obtain ⟨m2, e2⟩ : ∃ m, m = lb.length := ⟨_, rfl⟩
  obtain ⟨p, ep⟩ : ∃ p, p = wthF L la la.length := ⟨_, rfl⟩
  obtain ⟨q, eq⟩ : ∃ q, q = wthF L lb lb.length := ⟨_, rfl⟩
  obtain ⟨r, er⟩ : ∃ r, r = lexL la lb := ⟨_, rfl⟩
  rw [← ep] at HWA
  rw [← eq] at HWB
  rw [← er] at HLX
  rw [← ep, ← eq, ← er] at HR
  rw [← e1] at HWA HLX HR
  rw [← e2] at HWB HLX HR
  rw [← e1, ← e2]
  clear hA hL hia hib h1 h2 e1 e2 ep eq er
  go_enter Try.func37, Try.ntmps37
  go_wp2_with fail
  have S0 : SG w w.heap.size (.slice A n c) (w.alloc (.cells #[.slice A n c] 62)) := ⟨by go_grown, by go_cell, by simp⟩
  go_region_held3 (fun W' => Bl w W' ∧ W'.cell? ⟨w.heap.size, 0, none⟩ = some (.slice A n c) ∧ w.heap.size < W'.heap.size) (first | exact SG.t S0 (bl_drN _) | assumption | exact SG.t (by assumption) (bl_allocN _ _)) (first | (go_at_call 48; refine (two_callsN HWA.out HWB.out (SG.bl (by assumption)) (by first | exact .inl ⟨rfl, rfl⟩ | exact .inr ⟨rfl, rfl⟩)).mono ?_; rintro e9 v1 ⟨rfl, rfl⟩) | (go_at_call 74; refine (compareN_any _ _ _).mono ?_; rintro e9 v1 ⟨rfl, rfl⟩) | (go_at_call 75; refine (HLX.out _ (SG.bl (by assumption))).mono ?_; rintro e9 v1 ⟨rfl, rfl⟩) | (go_at_call 73; refine (orN_any _ (sgn q p) (sgn (m1 : Int) (m2 : Int)) r _ (by go_cell) (by go_cell) (by go_cell)).mono ?_; rintro e9 v1 ⟨rfl, rfl⟩))
  all_goals
    rename_i hHeld
    have hHB := hHeld.1
    clear hHeld
    go_wp2_with fail
    go_ret
    exact ⟨ret_intN HR.out.symm, hHB⟩
end Go.Proofs.Ytbmenpfpeadckaa
