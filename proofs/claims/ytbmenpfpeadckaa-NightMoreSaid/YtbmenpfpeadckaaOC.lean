/-
  Package night: what the searches' laws look at; the walk of NightMore.
-/
import Derived.Test.YtbmenpfpeadckaaOB
import Derived.Test.YtbmenpfpeadckaaNL
import Derived.Test.YtbmenpfpeadckaaNS
import Derived.BigQuiet
namespace Go.Proofs.Ytbmenpfpeadckaa
open Go.RowKit Go.Maps
set_option linter.unusedSimpArgs false
set_option linter.unusedVariables false

theorem bl_dra (w : World) (o : Obj) : Bl w (w.alloc o).drew := Bl.tr (by go_grown) (bl_drN _)
theorem size_dra (w : World) (o : Obj) : w.heap.size ≤ (w.alloc o).drew.heap.size := (bl_dra w o).size
theorem bl_first {w w9 : World} {o : Obj} (hg : (w.alloc o).drew.grownBy w9 (Value.slice (some ⟨w.heap.size, 0, none⟩) 0 0).ownBlock) : Bl w w9 :=
  Below.grown (bl_dra w o) hg (size_dra w o) (fun j hj => by simp only [Value.ownBlock, Option.some.injEq] at hj; omega)
theorem chl_drop' {w : World} {b off n k : Nat} {L : Nat → Ch} (h : Chl w (some ⟨b, off, none⟩) n L) (hk : k ≤ n) : Chl w (some ⟨b, off + k * 5, none⟩) (n - k) (fun j => L (k + j)) := by
  by_cases e : k = n
  · subst e; rw [Nat.sub_self]; exact Chl.none
  · exact h.drop (by omega)
theorem spl_take {w : World} {A : Option Addr} {n k : Nat} {S : Nat → Sp2} (h : Spl w A n S) (hk : k ≤ n) : Spl w A k S := fun h0 => by
  obtain ⟨b, o, e, hl, hc⟩ := h (by omega)
  exact ⟨b, o, e, hl, fun j hj => hc j (by omega)⟩
def fitB (L : Nat → Ch) (n ms : Nat) : Bool := namB L n && (decide ((n : Int) ≤ 9) || decide (20 < (n : Int))) && decide ((ms : Int) ≤ 60)
set_option maxHeartbeats 1600000 in
theorem fitN_any (A : Option Addr) (n c : Nat) (L : Nat → Ch) (C : Option Addr) (ms e0 : Nat) (w : World) (hA : Chl w A n L) (hS : ∀ j, j < n → (L j).nm.size ≤ maxLen) (hn : n ≤ maxLen) (hm : ms ≤ maxLen) :
    Calls Try.prog 8 #[.slice A n c, .slice C ms e0] w fun e w' => e = .returned (.bool (fitB L n ms)) ∧ Bl w w' := by
  have HN := Lib.hid (named_any A n c L w hA hS hn)
  unfold maxLen at hn hm
  clear hA hS
  cases f1 : namB L n with
  | false =>
    have HF := Lib.hid f1
    have HR := Lib.hid (show fitB L n ms = false by unfold fitB; rw [f1]; rfl)
    clear f1
    go_enter Try.func8, Try.ntmps8
    go_wp2_with fail
    refine HN.out.mono ?_
    rintro e1 w1 ⟨rfl, hb⟩
    rw [HF.out]
    go_wp2_with fail
    go_ret
    exact ⟨ret_boolN HR.out.symm, hb⟩
  | true =>
    have HF := Lib.hid f1
    by_cases g1 : (n : Int) ≤ 9
    · have HR := Lib.hid (show fitB L n ms = decide ((ms : Int) ≤ 60) by unfold fitB; rw [f1, decide_eq_true g1]; rfl)
      clear f1
      go_enter Try.func8, Try.ntmps8
      go_wp2_with fail
      refine HN.out.mono ?_
      rintro e1 w1 ⟨rfl, hb⟩
      rw [HF.out]
      go_wp2_with fail
      go_ret
      exact ⟨ret_boolN HR.out.symm, hb⟩
    · by_cases g2 : 20 < (n : Int)
      · have HR := Lib.hid (show fitB L n ms = decide ((ms : Int) ≤ 60) by unfold fitB; rw [f1, decide_eq_false g1, decide_eq_true g2]; rfl)
        clear f1
        go_enter Try.func8, Try.ntmps8
        go_wp2_with fail
        refine HN.out.mono ?_
        rintro e1 w1 ⟨rfl, hb⟩
        rw [HF.out]
        go_wp2_with fail
        go_ret
        exact ⟨ret_boolN HR.out.symm, hb⟩
      · have HR := Lib.hid (show fitB L n ms = false by unfold fitB; rw [f1, decide_eq_false g1, decide_eq_false g2]; rfl)
        clear f1
        go_enter Try.func8, Try.ntmps8
        go_wp2_with fail
        refine HN.out.mono ?_
        rintro e1 w1 ⟨rfl, hb⟩
        rw [HF.out]
        go_wp2_with fail
        go_ret
        exact ⟨ret_boolN HR.out.symm, hb⟩
theorem best_len (L : Nat → Ch) {n : Nat} (S : Nat → Sp2) (m : Nat) (per : Int) : (bestL L n S m per).length ≤ n := by
  have h := (st_ok (fol := fun j i => flw (L j.toNat) (L i.toNat) per) (cmp := cmpL L) (G := fun k => (clrL S m L n).getD k 0) (n := n) (m := (clrL S m L n).length) (fun k hk => inx_at (clrL_inx S m L n) hk) _ (Nat.le_refl _)).2.1.2
  exact Nat.le_trans h (clrL_len S m L n)
set_option maxRecDepth 100000 in
set_option maxHeartbeats 3200000 in
theorem more_w0 (A : Option Addr) (n c : Nat) (L : Nat → Ch) (C : Option Addr) (ms e0 : Nat) (S : Nat → Sp2) (per k i : Int) (w : World) (hn : n ≤ c ∧ c ≤ maxLen) (hS : ∀ j, j < n → (L j).nm.size ≤ maxLen) (hA : Chl w A n L) (hms : ms ≤ e0 ∧ e0 ≤ maxLen) (hC : Spl w C ms S) (h0 : fitB L n ms = false ∨ k < 0 ∨ i < 0 ∨ n = 0) :
    Calls Try.prog 5 #[.slice A n c, .slice C ms e0, .int .i64 per, .int .i64 k, .int .i64 i] w fun e' w' => e' = .returned (.bool true) ∧ Bl w w' := by
  have HA := Lib.hid hA
  have HCC := Lib.hid hC
  have HS := Lib.hid hS
  have HC := Lib.hid hn
  have HMS := Lib.hid (Nat.le_trans hms.1 hms.2)
  have HME := Lib.hid hms
  clear hA hC hS hn hms
  cases f1 : fitB L n ms with
  | false =>
    have HF1 := Lib.hid f1
    clear f1 h0
    go_enter Try.func5, Try.ntmps5
    go_wp2_with fail
    refine (fitN_any A n c L C ms e0 _ HA.out HS.out (Nat.le_trans HC.out.1 HC.out.2) HMS.out).mono ?_
    rintro q1 w1 ⟨rfl, hb⟩
    have B1 := Lib.hid hb
    clear hb
    rw [HF1.out]
    go_wp2_with fail
    refine (awakeN_any _).mono ?_
    rintro q9 w9 ⟨rfl, hb⟩
    go_wp2_with fail
    go_ret
    exact ⟨rfl, Bl.tr B1.out hb⟩
  | true =>
    have HF1 := Lib.hid f1
    have h0 : k < 0 ∨ i < 0 ∨ n = 0 := by
      rcases h0 with h | h
      · rw [f1] at h; cases h
      · exact h
    clear f1
    by_cases g1 : k < 0
    · clear h0
      go_enter Try.func5, Try.ntmps5
      go_wp2_with fail
      refine (fitN_any A n c L C ms e0 _ HA.out HS.out (Nat.le_trans HC.out.1 HC.out.2) HMS.out).mono ?_
      rintro q1 w1 ⟨rfl, hb⟩
      have B1 := Lib.hid hb
      clear hb
      rw [HF1.out]
      go_wp2_with fail
      refine (awakeN_any _).mono ?_
      rintro q9 w9 ⟨rfl, hb⟩
      go_wp2_with fail
      go_ret
      exact ⟨rfl, Bl.tr B1.out hb⟩
    · by_cases g2 : i < 0
      · clear h0
        go_enter Try.func5, Try.ntmps5
        go_wp2_with fail
        refine (fitN_any A n c L C ms e0 _ HA.out HS.out (Nat.le_trans HC.out.1 HC.out.2) HMS.out).mono ?_
        rintro q1 w1 ⟨rfl, hb⟩
        have B1 := Lib.hid hb
        clear hb
        rw [HF1.out]
        go_wp2_with fail
        refine (awakeN_any _).mono ?_
        rintro q9 w9 ⟨rfl, hb⟩
        go_wp2_with fail
        go_ret
        exact ⟨rfl, Bl.tr B1.out hb⟩
      · have g3 : (n : Int) = 0 := by omega
        have g3' : ((n : Int) == 0) = true := by simp [g3]
        clear h0 g3
        go_enter Try.func5, Try.ntmps5
        go_wp2_with fail
        refine (fitN_any A n c L C ms e0 _ HA.out HS.out (Nat.le_trans HC.out.1 HC.out.2) HMS.out).mono ?_
        rintro q1 w1 ⟨rfl, hb⟩
        have B1 := Lib.hid hb
        clear hb
        rw [HF1.out]
        go_wp2_with fail
        refine (awakeN_any _).mono ?_
        rintro q9 w9 ⟨rfl, hb⟩
        go_wp2_with fail
        go_ret
        exact ⟨rfl, Bl.tr B1.out hb⟩
set_option maxRecDepth 100000 in
set_option maxHeartbeats 3200000 in
theorem more_w1 (A : Option Addr) (n c : Nat) (L : Nat → Ch) (C : Option Addr) (ms e0 : Nat) (S : Nat → Sp2) (per k i : Int) (w : World) (hn : n ≤ c ∧ c ≤ maxLen) (hS : ∀ j, j < n → (L j).nm.size ≤ maxLen) (hA : Chl w A n L) (hms : ms ≤ e0 ∧ e0 ≤ maxLen) (hC : Spl w C ms S) (hf : fitB L n ms = true) (hk : 0 ≤ k) (hi : 0 ≤ i) (h0 : 0 < n) (hkr : k ≤ 9223372036854775807) (hir : i ≤ 9223372036854775807) (hc : chkN L n S ms per ≠ 0) :
    Calls Try.prog 5 #[.slice A n c, .slice C ms e0, .int .i64 per, .int .i64 k, .int .i64 i] w fun e' w' => e' = .returned (.bool true) ∧ Bl w w' := by
  have HA := Lib.hid hA
  have HCC := Lib.hid hC
  have HS := Lib.hid hS
  have HC := Lib.hid hn
  have HMS := Lib.hid (Nat.le_trans hms.1 hms.2)
  have HME := Lib.hid hms
  clear hA hC hS hn hms
  have g1 : ¬ k < 0 := by omega
  have g2 : ¬ i < 0 := by omega
  have g3 : ((n : Int) == 0) = false := by simp; omega
  have HF1 := Lib.hid hf
  have HKI := Lib.hid (show 0 ≤ k ∧ 0 ≤ i ∧ 0 < n ∧ k ≤ 9223372036854775807 ∧ i ≤ 9223372036854775807 from ⟨hk, hi, h0, hkr, hir⟩)
  clear hf hk hi h0 hkr hir
  have HQ := Lib.hid hc
  have hq : (chkN L n S ms per != 0) = true := by simp [hc]
  clear hc
  go_enter Try.func5, Try.ntmps5
  go_wp2_with fail
  refine (fitN_any A n c L C ms e0 _ HA.out HS.out (Nat.le_trans HC.out.1 HC.out.2) HMS.out).mono ?_
  rintro q1 w1 ⟨rfl, hb⟩
  have B1 := Lib.hid hb
  clear hb
  rw [HF1.out]
  go_wp2_with fail
  refine (best_any A n c L C ms e0 S per _ (HA.out.below B1.out) HS.out HC.out.1 HC.out.2 (HCC.out.below B1.out) HMS.out).mono ?_
  rintro q2 w2 ⟨hb, ⟨-, rfl⟩ | ⟨h, _⟩⟩
  · have B2 := Lib.hid (B1.out.tr hb)
    clear hb
    go_wp2_with fail
    refine (awakeN_any _).mono ?_
    rintro q9 w9 ⟨rfl, hb⟩
    go_wp2_with fail
    go_ret
    exact ⟨rfl, Bl.tr B2.out hb⟩
  · exact absurd h HQ.out
end Go.Proofs.Ytbmenpfpeadckaa
