/-
  A shift by a flag, as the walk meets it; SameHoists of equal lists.
-/
import Derived.Test.YtdikflklkmfcfaaFP
namespace Go.Proofs.Ytdikflklkmfcfaa
open Go.RowKit
set_option linter.unusedSimpArgs false
set_option linter.unusedVariables false

theorem shr_run (L f : Nat) (hL : L < 8192) (hf : f < 13) (w : World) : Sem.run Try.prog (binOp .shr 3 (.int .i64 (L : Int)) (.int .i64 (f : Int))) w = .ok (.int .i64 ((L / 2 ^ f : Nat) : Int)) w := by
  rcases cases13 hf with rfl | rfl | rfl | rfl | rfl | rfl | rfl | rfl | rfl | rfl | rfl | rfl | rfl <;> go_simp
/-- A slice of slices of numbers, as functions. -/
def Rl (w : World) (A : Option Addr) (n : Nat) (V : Nat → Option Addr × Nat) (T : Nat → List Nat) : Prop :=
  0 < n → ∃ b off, A = some ⟨b, off, none⟩ ∧ b < w.heap.size ∧ ∀ j, j < n → w.cell? ⟨b, off + j, none⟩ = some (.slice (V j).1 (T j).length (V j).2) ∧ Sl w (V j).1 (T j).length (gI (T j)) ∧ (T j).length ≤ 4
theorem Rl.below {w w' : World} {A : Option Addr} {n : Nat} {V : Nat → Option Addr × Nat} {T : Nat → List Nat} (h : Rl w A n V T) (hb : Bl w w') : Rl w' A n V T := fun hn => by
  obtain ⟨b, off, e, hl, hc⟩ := h hn
  exact ⟨b, off, e, Nat.lt_of_lt_of_le hl hb.size, fun j hj => ⟨kcb hb (hc j hj).1, (hc j hj).2.1.below hb, (hc j hj).2.2⟩⟩
theorem bl_dN7 (w : World) (n : Nat) : Bl w (w.drewN n) := ⟨rfl, rfl, rfl, Nat.le_refl _, fun _ _ => rfl⟩
theorem sIB_same7 {n : Nat} {f : Nat → Int} : sIB n f n f = true := by
  unfold sIB
  rw [decide_eq_true rfl, Bool.true_and]
  exact eqTo_same f n
set_option maxHeartbeats 4000000 in
theorem sameHoists_eq (A : Option Addr) (n c : Nat) (V : Nat → Option Addr × Nat) (B : Option Addr) (d : Nat) (U : Nat → Option Addr × Nat) (T : Nat → List Nat) (w : World) (hn : n ≤ maxLen) (hA : Rl w A n V T) (hB : Rl w B n U T) :
    Calls Try.prog 12 #[.slice A n c, .slice B n d] w fun e w' => e = .returned (.bool true) ∧ ∃ N, w' = w.drewN N := by
  unfold maxLen at hn
  have HA := Lib.hid hA
  have HB := Lib.hid hB
  clear hA hB
  have q0 : ((n : Int) != (n : Int)) = false := by simp
  go_enter Try.func12, Try.ntmps12
  go_wp2_with fail
  clear q0
  go_loopw [13] (fun i wr => ∃ k N : Nat, k ≤ n ∧ i = .int .i64 k ∧ wr = w.drewN N) (fun i _ => n - (intOf i).toNat)
  case atStart => exact ⟨0, 0, Nat.zero_le _, rfl, rfl⟩
  case round =>
    obtain ⟨k, N, hk, rfl, rfl⟩ := hrel
    by_cases hlt : k < n
    · obtain ⟨b, off, eA, hbb, hc⟩ := HA.out (by omega)
      obtain ⟨b', off', eB, hbb', hc'⟩ := HB.out (by omega)
      subst eA eB
      obtain ⟨c1, s1, l1⟩ := hc k hlt
      obtain ⟨c2, s2, l2⟩ := hc' k hlt
      have S1 := Lib.hid s1
      have S2 := Lib.hid s2
      clear hc hc' s1 s2
      obtain ⟨V1, V2, hV⟩ : ∃ V1 V2, V k = (V1, V2) := ⟨_, _, rfl⟩
      obtain ⟨U1, U2, hU⟩ : ∃ U1 U2, U k = (U1, U2) := ⟨_, _, rfl⟩
      obtain ⟨l, hl⟩ : ∃ l, l = T k := ⟨_, rfl⟩
      rw [hV] at c1 S1
      rw [hU] at c2 S2
      rw [← hl] at c1 S1 c2 S2 l1
      dsimp only at c1 c2 S1 S2
      clear hV hU hl l2
      obtain ⟨X, hX⟩ : ∃ X, X = w.drewN N := ⟨_, rfl⟩
      have c1' : X.cell? ⟨b, off + k, none⟩ = some (.slice V1 l.length V2) := by rw [hX]; exact c1
      have c2' : X.cell? ⟨b', off' + k, none⟩ = some (.slice U1 l.length U2) := by rw [hX]; exact c2
      have S1' := Lib.hid (show Sl X V1 l.length (gI l) from by rw [hX]; exact S1.out.below (bl_dN7 _ _))
      have S2' := Lib.hid (show Sl X U1 l.length (gI l) from by rw [hX]; exact S2.out.below (bl_dN7 _ _))
      rw [← hX]
      have HX := Lib.hid hX
      clear hX c1 c2
      go_wp2_with fail
      go_quiet ((go_at_call 13; exact Calls.quiet_of ((sameInts7_any V1 l.length V2 (gI l) U1 l.length U2 (gI l) _ (by unfold maxLen; omega) (by unfold maxLen; omega) (S1'.out.below (by exact bl_dN7 _ _)) (S2'.out.below (by exact bl_dN7 _ _))).mono fun e w' h => ⟨h.1.trans (by rw [sIB_same7]), h.2⟩)))
      all_goals
        go_wp2_with fail
        go_roundw
        case rel => exact ⟨k + 1, N + nq, by omega, by go_num, by rw [HX.out, World.drewN_drewN]⟩
        case measure => simp [intOf]; omega
    · obtain rfl : k = n := by omega
      go_wp2_with fail
      go_ret
      exact ⟨rfl, _, rfl⟩
end Go.Proofs.Ytdikflklkmfcfaa
