/-
  The walk of SightCarries.
-/
import Derived.Test.YtennmdlajealpaaUC
import Derived.Test.YtennmdlajealpaaUO
namespace Go.Proofs.Ytennmdlajealpaa
open Go.RowKit Go.Maps
set_option linter.unusedSimpArgs false
set_option linter.unusedVariables false

/-- What Carry answers, as two numbers. -/
def crP (R : Nat → Int) (S : Nat → Sgt) (n m : Nat) (a t : Int) : Int × Int :=
  if vnB R n S m = false then (0, 1) else if clB n a = false then (0, 5) else if inB t 0 1000000000000 = false then (0, 7) else (crr (R a.toNat) t, 0)
theorem crV_eq (R : Nat → Int) (S : Nat → Sgt) (n m : Nat) (a t : Int) : crV R S n m a t = .tuple #[.int .i64 (crP R S n m a t).1, .int .i64 (crP R S n m a t).2] := by
  unfold crV crP
  split
  · rfl
  · split
    · rfl
    · split <;> rfl
/-- A box that holds a net. -/
def NB (X : World) (b : Nat) (v u : Value) (W' : World) : Prop := Bl X W' ∧ W'.cell? ⟨b, 0, none⟩ = some v ∧ W'.cell? ⟨b, 1, none⟩ = some u
theorem NB.t {X : World} {b : Nat} {v u : Value} {Y Z : World} (h : NB X b v u Y) (hb : Bl Y Z) : NB X b v u Z := ⟨h.1.tr hb, kcb hb h.2.1, kcb hb h.2.2⟩
theorem NB.b {X : World} {b : Nat} {v u : Value} {Y : World} (h : NB X b v u Y) : Bl X Y := h.1
set_option maxRecDepth 100000 in
set_option maxHeartbeats 6400000 in
theorem carries_walk (A : Option Addr) (n c : Nat) (R : Nat → Int) (B : Option Addr) (m d : Nat) (S : Nat → Sgt) (a t : Int) (w : World) (hA : Sl w A n R) (hB : Sgl w B m S) (hn : n ≤ c ∧ c ≤ maxLen) (hm : m ≤ d ∧ d ≤ maxLen) :
    Calls Try.prog 3 #[encN A n c B m d, .int .i64 a, .int .i64 t] w fun e w' => e = .returned (.bool true) ∧ Bl w w' := by
  have hn := Nat.le_trans hn.1 hn.2
  have hm := Nat.le_trans hm.1 hm.2
  by_cases hs : n > 100 ∨ m > 100
  · have hs' : (100 : Int) < (n : Int) ∨ ¬ (100 : Int) < (n : Int) ∧ (100 : Int) < (m : Int) := by omega
    clear hs hA hB hn hm
    rcases hs' with hs | ⟨hs, hs2⟩
    all_goals
      go_enter Try.func3, Try.ntmps3
      go_wp2_with fail
      refine (awakeS_any _).mono ?_
      rintro ea wa ⟨rfl, ha⟩
      go_wp2_with fail
      go_ret
      exact ⟨rfl, Bl.tr (bl_alS _ _) ha⟩
  · have hs1 : ¬ (100 : Int) < (n : Int) := by omega
    have hs2 : ¬ (100 : Int) < (m : Int) := by omega
    have HC := Lib.hid (fun (W : World) (hW : Bl w W) => carryN_any A n c R B m d S a t W (hA.below hW) (hB.below hW) hn hm)
    have HRC := Lib.hid (fun (W : World) (hW : Bl w W) => rcarryN_any A n c R B m d S a t W (hA.below hW) (hB.below hW) hn hm)
    have HV := Lib.hid (fun (W : World) (hW : Bl w W) => validN_any A n c R B m d S W (hA.below hW) (hB.below hW) hn hm)
    have HRV := Lib.hid (fun (W : World) (hW : Bl w W) => rvalidN_any A n c R B m d S W (hA.below hW) (hB.below hW) hn hm)
    rw [crV_eq] at HC HRC
    obtain ⟨u, hu⟩ : ∃ u, u = crP R S n m a t := ⟨_, rfl⟩
    obtain ⟨b, hb⟩ : ∃ b, b = vnB R n S m := ⟨_, rfl⟩
    rw [← hu] at HC HRC
    rw [← hb] at HV HRV
    clear hs hA hB hn hm hu hb
    have q1 : (b == b) = true := by simp
    go_enter Try.func3, Try.ntmps3
    go_wp2_with fail
    obtain ⟨BX, x0, x1⟩ := box_kS w A n c B m d
    obtain ⟨X, hX⟩ : ∃ X, X = w.alloc (Obj.cells #[.slice A n c, .slice B m d] 25) := ⟨_, rfl⟩
    rw [← hX] at BX x0 x1
    rw [← hX]
    clear hX
    refine (HC.out X BX).mono ?_
    rintro e1 w1 ⟨rfl, hb1⟩
    have HB1 := Lib.hid (BX.tr hb1)
    have x0 := kcb hb1 x0
    have x1 := kcb hb1 x1
    have lx := ltb x0
    clear hb1
    go_wp2_with fail
    refine (HRC.out w1 HB1.out).mono ?_
    rintro e2 w2 ⟨rfl, hb2⟩
    have HB2 := Lib.hid (HB1.out.tr hb2)
    have x0 := kcb hb2 x0
    have x1 := kcb hb2 x1
    have lx := ltb x0
    clear hb2
    go_wp2_with fail
    have S0 : NB w w.heap.size (.slice A n c) (.slice B m d) w2 := ⟨HB2.out, x0, x1⟩
    go_region_held3 (fun W' => Bl w W' ∧ W'.cell? ⟨w.heap.size, 0, none⟩ = some (.slice A n c) ∧ W'.cell? ⟨w.heap.size, 1, none⟩ = some (.slice B m d)) (first | exact NB.t S0 (bl_drS _) | exact NB.t (by assumption) hh0) (first | (go_at_call 17; refine (HV.out _ (NB.b (by assumption))).mono ?_; rintro e v0 ⟨rfl, hh0⟩) | (go_at_call 18; refine (HRV.out _ (NB.b (by assumption))).mono ?_; rintro e v0 ⟨rfl, hh0⟩) | (go_at_call 14; refine (awakeS_any _).mono ?_; rintro e v0 ⟨rfl, hh0⟩))
    rename_i hS9
    go_wp2_with fail
    go_ret
    exact ⟨rfl, hS9.1⟩
end Go.Proofs.Ytennmdlajealpaa
