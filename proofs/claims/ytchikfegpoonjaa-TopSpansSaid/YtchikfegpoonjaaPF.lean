/-
  Package sight: points, carries between them, the steps of sights.
-/
import Derived.Test.YtchikfegpoonjaaPG
import Derived.Deep.DeepCutAuto
import Derived.Laws.OwnMore
namespace Go.Proofs.Ytchikfegpoonjaa
open Go.RowKit
set_option linter.unusedSimpArgs false
set_option linter.unusedVariables false

theorem bl_dnS (w : World) (n : Nat) : Bl w (w.drewN n) := ⟨rfl, rfl, rfl, Nat.le_refl _, fun _ _ => rfl⟩
set_option maxHeartbeats 800000 in
theorem pointOf_eq (c t : Int) (w : World) : Calls Try.prog 36 #[.int .i64 c, .int .i64 t] w fun e w' => e = .returned (encT (spo c t)) ∧ w' = w.alloc (.cells #[.int .i64 (spo c t).1, .int .i64 (spo c t).2] 69) := by
  by_cases h : c = 0
  · have HS := Lib.hid (show spo c t = (0, 0) by simp [spo, h])
    rw [HS.out]
    subst h
    go_enter Try.func36, Try.ntmps36
    go_wp2
    go_returns
    exact ⟨rfl, rfl⟩
  · have HS := Lib.hid (show spo c t = (c, t) by simp [spo, h])
    rw [HS.out]
    have h' : (c == 0) = false := by simp [h]
    go_enter Try.func36, Try.ntmps36
    go_wp2
    go_returns
    exact ⟨rfl, rfl⟩
theorem pointOf_any (c t : Int) (w : World) : Calls Try.prog 36 #[.int .i64 c, .int .i64 t] w fun e w' => e = .returned (encT (spo c t)) ∧ Bl w w' :=
  (pointOf_eq c t w).mono fun e w' h => ⟨h.1, by rw [h.2]; go_grown⟩
theorem crr_bd {r dt : Int} (hr : 0 ≤ r ∧ r ≤ 1000000) (hd : 0 ≤ dt ∧ dt ≤ 1000000000000) : 0 ≤ r * dt ∧ r * dt ≤ 1000000000000000000 ∧ 0 ≤ crr r dt ∧ crr r dt ≤ 1000000000 := by
  have h0 := Int.mul_nonneg hr.1 hd.1
  have h1 : r * dt ≤ 1000000 * 1000000000000 := Int.mul_le_mul hr.2 hd.2 hd.1 (by omega)
  unfold crr
  omega
set_option maxHeartbeats 800000 in
theorem carryS_any (r dt : Int) (hr : 0 ≤ r ∧ r ≤ 1000000) (hd : 0 ≤ dt ∧ dt ≤ 1000000000000) (w : World) : Calls Try.prog 25 #[.int .i64 r, .int .i64 dt] w fun e w' => e = .returned (.int .i64 (crr r dt)) ∧ w' = w := by
  obtain ⟨h0, h1, h2, h3⟩ := crr_bd hr hd
  have HC := Lib.hid (show crr r dt = (r * dt + 999999999) / 1000000000 from rfl)
  obtain ⟨x, hx⟩ : ∃ x, x = r * dt := ⟨_, rfl⟩
  obtain ⟨y, hy⟩ : ∃ y, y = crr r dt := ⟨_, rfl⟩
  rw [← hx] at h0 h1 HC
  rw [← hy] at HC h2 h3 ⊢
  have hy2 := HC.out
  have e0 : IntKind.i64.wrap (r * dt) = x := by rw [← hx]; exact IntWalk.i64_in _ (by omega)
  have e1 : IntKind.i64.wrap (x + 1000000000) = x + 1000000000 := IntWalk.i64_in _ (by omega)
  have e2 : IntKind.i64.wrap (x + 1000000000 - 1) = x + 999999999 := by rw [IntWalk.i64_in _ (by omega)]; omega
  have e3 : (x + 999999999).tdiv 1000000000 = y := by rw [Int.tdiv_eq_ediv_of_nonneg (by omega)]; omega
  have e4 : IntKind.i64.wrap ((x + 999999999).tdiv 1000000000) = y := by rw [e3]; exact IntWalk.i64_in _ (by omega)
  have e5 : IntKind.i64.wrap y = y := IntWalk.i64_in _ (by omega)
  have e6 : (x + 999999999) / 1000000000 = y := hy2.symm
  clear hx hy hy2 h0 h1 h2 h3
  go_enter Try.func25, Try.ntmps25
  go_wp2_with fail
  go_ret
  exact ⟨ret_int rfl, rfl⟩
set_option maxRecDepth 100000 in
set_option maxHeartbeats 1600000 in
theorem carryBetween_any (A : Option Addr) (n c : Nat) (R : Nat → Int) (p q : Spt) (w : World) (hA : Sl w A n R) (hn : n ≤ 1000) (hp : 0 ≤ p.1 ∧ p.1 < (n : Int)) (hr : ∀ k, k < n → 0 ≤ R k ∧ R k ≤ 1000000)
    (hp2 : 0 ≤ p.2 ∧ p.2 ≤ 1000000000000) (hq2 : 0 ≤ q.2 ∧ q.2 ≤ 1000000000000) :
    Calls Try.prog 41 #[.slice A n c, encT p, encT q] w fun e w' => e = .returned (.int .i64 (crb R p q)) ∧ Bl w w' := by
  obtain ⟨p1, p2⟩ := p
  obtain ⟨q1, q2⟩ := q
  dsimp only at hp hp2 hq2
  obtain ⟨i, rfl⟩ := Int.eq_ofNat_of_zero_le hp.1
  have hi : i < n := by omega
  obtain ⟨b, off, rfl, hbb, hc⟩ := hA (by omega)
  have c0 := hc i hi
  have hri := hr i hi
  have HC := Lib.hid (show crb R ((i : Int), p2) (q1, q2) = crr (R i) (max p2 q2 - min p2 q2) by simp [crb])
  have HK := Lib.hid (fun X => carryS_any (R i) (max p2 q2 - min p2 q2) hri (by omega) X)
  have e1 : IntKind.i64.wrap (max p2 q2 - min p2 q2) = max p2 q2 - min p2 q2 := IntWalk.i64_in _ (by omega)
  clear hc hr hp hri hA hp2 hq2
  rw [HC.out]
  go_enter Try.func41, Try.ntmps41
  go_wp2_with fail
  go_quiet ((go_at_call 25; exact Calls.quiet_of_same (HK.out _)))
  go_wp2_with fail
  go_ret
  exact ⟨ret_int rfl, Bl.tr (by go_grown) (bl_dnS _ _)⟩
theorem cell_setO {Y : World} {b o b' o' : Nat} {v u : Value} (h : Y.cell? ⟨b', o', none⟩ = some u) (hne : b' ≠ b) : (Y.setCell ⟨b, o, none⟩ v).cell? ⟨b', o', none⟩ = some u :=
  (World.cell?_of_block (Below.heap_setCell _ _ _ b' (fun e => hne (by rw [e])))).trans h
theorem size_setS (Y : World) (a : Addr) (v : Value) : Y.heap.size ≤ (Y.setCell a v).heap.size := by simp
theorem bl_set {X Y : World} {b o : Nat} {v : Value} (h : Bl X Y) (hb : X.heap.size ≤ b) : Bl X (Y.setCell ⟨b, o, none⟩ v) :=
  ⟨h.os, h.tape, h.output, Nat.le_trans h.size (size_setS Y _ v), fun k hk => (Below.heap_setCell _ _ _ k (fun e => by simp only at e; omega)).trans (h.block k hk)⟩
theorem taken_res (tmps : Array Value) (W : World) (p1 p2 : Nat) (p q : Spt) (e : Int) (h4 : tmps.getD 4 undef = .pointer (some ⟨p1, 0, none⟩)) (h5 : tmps.getD 5 undef = .pointer (some ⟨p2, 0, none⟩)) (h6 : tmps.getD 6 undef = .int .i64 e)
    (c0 : W.cell? ⟨p1, 0, none⟩ = some (.int .i64 p.1)) (c1 : W.cell? ⟨p1, 1, none⟩ = some (.int .i64 p.2)) (c2 : W.cell? ⟨p2, 0, none⟩ = some (.int .i64 q.1)) (c3 : W.cell? ⟨p2, 1, none⟩ = some (.int .i64 q.2)) :
    (results Try.f30 tmps).run Try.prog W = .ok (.tuple #[encT p, encT q, .int .i64 e]) W := by
  have h4' : tmps[4]?.getD undef = .pointer (some ⟨p1, 0, none⟩) := by simpa using h4
  have h5' : tmps[5]?.getD undef = .pointer (some ⟨p2, 0, none⟩) := by simpa using h5
  have h6' : tmps[6]?.getD undef = .int .i64 e := by simpa using h6
  simp [results, Try.results30, go_sem, h4', h5', h6', c0, c1, c2, c3]
  try rfl
end Go.Proofs.Ytchikfegpoonjaa
