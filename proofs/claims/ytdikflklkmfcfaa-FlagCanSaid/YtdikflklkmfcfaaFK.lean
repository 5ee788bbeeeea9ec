/-
  The walk of FlagUsual.
-/
import Derived.Test.YtdikflklkmfcfaaFX
import Derived.Test.YtdikflklkmfcfaaFZ
import Derived.Test.YtdikflklkmfcfaaFV
namespace Go.Proofs.Ytdikflklkmfcfaa
open Go.RowKit Go.Shelf
set_option linter.unusedSimpArgs false
set_option linter.unusedVariables false

theorem tre_congr (w1 w2 : Nat → Nat → Bool) (r : Nat) : ∀ (h d : List Nat) (L : Nat), (∀ p x, p < h.length + r → w1 p x = w2 p x) → tre w1 r h d L = tre w2 r h d L := by
  induction r with
  | zero => intro h d L _; rfl
  | succ r ih =>
    intro h d L hw
    rw [tre_to, tre_to]
    have hk : ∀ k, treTo w1 r h d L k = treTo w2 r h d L k := by
      intro k
      induction k with
      | zero => rfl
      | succ k ihk =>
        have hc : canB w1 h d L k = canB w2 h d L k := by unfold canB; rw [hw _ _ (by omega)]
        rw [treTo_succ, treTo_succ, ihk, hc, ih _ _ _ (fun p x hp => hw p x (by simp at hp; omega))]
    exact hk 13
theorem hstL_lst {n : Nat} {D : Nat → Int} (hd : dgTo D n = true) (L : Nat) : hstL n D L = hstL n (gI (lst D n)) L := tre_congr _ _ _ _ _ _ fun p x hp => by
  simp only [List.length_nil, Nat.zero_add] at hp
  unfold wnB
  rw [lst_at hp (dgTo_at hd hp).1]
theorem lst_lt {n : Nat} {D : Nat → Int} (hd : dgTo D n = true) : ∀ x, x ∈ lst D n → x < 10 := fun x hx => by
  obtain ⟨j, hj, rfl⟩ := List.mem_map.1 hx
  have := dgTo_at hd (List.mem_range.1 hj)
  omega
/-- The usual hoist is the only one; it is valid and means the number. -/
theorem usl_all {n : Nat} {D : Nat → Int} (hv : vdB n D = true) : hstL n D 8191 = [usl (lst D n)] ∧ (usl (lst D n)).length = n ∧ vhB n (gI (usl (lst D n))) = true ∧ dgs (gI (usl (lst D n))) n = lst D n := by
  obtain ⟨h14, hd⟩ := vdB_iff.1 hv
  have hc := chk_all (l := lst D n) (by rw [lst_len]; exact h14.1) (by rw [lst_len]; exact h14.2) (lst_lt hd)
  simp only [chkU, Bool.and_eq_true, beq_iff_eq, lst_len] at hc
  obtain ⟨⟨h1, h2⟩, h3⟩ := hc
  have hl : (usl (lst D n)).length = n := by
    have := tre_lens (wnB (gI (lst D n))) n [] [] 8191 (usl (lst D n)) (by rw [h1]; simp)
    simpa using this
  refine ⟨by rw [hstL_lst hd]; exact h1, hl, ?_, ?_⟩
  · unfold okH at h2; rwa [hl] at h2
  · unfold mnH at h3; rwa [hl] at h3
theorem one_of_map {α β : Type} {f : α → β} {l : List α} {y : β} (h : l.map f = [y]) : ∃ x, l = [x] ∧ f x = y := by
  cases l with
  | nil => cases h
  | cons x r =>
    cases r with
    | nil => exact ⟨x, rfl, by simpa using h⟩
    | cons z r => simp at h