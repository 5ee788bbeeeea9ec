/-
  Package sight: Between and Error, all answers in one.
-/
import Derived.Test.YtchikfegpoonjaaPV
namespace Go.Proofs.Ytchikfegpoonjaa
open Go.RowKit Go.Maps
set_option linter.unusedSimpArgs false
set_option linter.unusedVariables false

/-- What Between answers: lower and upper bound, error. -/
def BtR (R : Nat → Int) (S : Nat → Sgt) (n m : Nat) (a b t x y k : Int) : Prop :=
  (vnB R n S m = false ∧ x = 0 ∧ y = 0 ∧ k = 1) ∨ (vnB R n S m = true ∧ (clB n a && clB n b) = false ∧ x = 0 ∧ y = 0 ∧ k = 5) ∨
  (vnB R n S m = true ∧ (clB n a && clB n b) = true ∧ inB t 0 1000000000000 = false ∧ x = 0 ∧ y = 0 ∧ k = 7) ∨
  (vnB R n S m = true ∧ (clB n a && clB n b) = true ∧ inB t 0 1000000000000 = true ∧
    ((¬ NoC R S m ∧ x = 0 ∧ y = 0 ∧ k = 9) ∨ (NoC R S m ∧ (∀ w, ¬ Way R S m (spo b t) (spo a t) w) ∧ x = 0 ∧ y = 0 ∧ k = 8) ∨
      (NoC R S m ∧ LstW R S m (spo b t) (spo a t) y ∧ CostW R S m (spo a t) (spo b t) (-x) ∧ k = 0)))
theorem between_any (A : Option Addr) (n c : Nat) (R : Nat → Int) (B : Option Addr) (m d : Nat) (S : Nat → Sgt) (a b t : Int) (w : World) (hA : Sl w A n R) (hB : Sgl w B m S) (hn : n ≤ maxLen) (hm : m ≤ maxLen) :
    Calls Try.prog 27 #[encN A n c B m d, .int .i64 a, .int .i64 b, .int .i64 t] w fun e w' => ∃ x y k, e = .returned (spnV x y k) ∧ BtR R S n m a b t x y k ∧ Bl w w' := by
  cases hv : vnB R n S m with
  | false => exact (btw_bad A n c R B m d S a b t w hA hB hn hm hv).mono fun e w' h => ⟨0, 0, 1, h.1, .inl ⟨hv, rfl, rfl, rfl⟩, h.2⟩
  | true =>
    cases ha : clB n a with
    | false => exact (btw_name1 A n c R B m d S a b t w hA hB hn hm hv ha).mono fun e w' h => ⟨0, 0, 5, h.1, .inr (.inl ⟨hv, by rw [ha]; rfl, rfl, rfl, rfl⟩), h.2⟩
    | true =>
      cases hb : clB n b with
      | false => exact (btw_name2 A n c R B m d S a b t w hA hB hn hm hv ha hb).mono fun e w' h => ⟨0, 0, 5, h.1, .inr (.inl ⟨hv, by rw [ha, hb]; rfl, rfl, rfl, rfl⟩), h.2⟩
      | true =>
        have hab : (clB n a && clB n b) = true := by rw [ha, hb]; rfl
        cases ht : inB t 0 1000000000000 with
        | false => exact (btw_time A n c R B m d S a b t w hA hB hn hm hv ha hb ht).mono fun e w' h => ⟨0, 0, 7, h.1, .inr (.inr (.inl ⟨hv, hab, ht, rfl, rfl, rfl⟩)), h.2⟩
        | true =>
          refine (btw_good A n c R B m d S a b t w hA hB hn hm hv ha hb ht).mono ?_
          rintro e w' (⟨h1, h2, h3⟩ | ⟨h1, x, y, hx, hy, he, h3⟩)
          · exact ⟨0, 0, 9, h2, .inr (.inr (.inr ⟨hv, hab, ht, .inl ⟨h1, rfl, rfl, rfl⟩⟩)), h3⟩
          · by_cases hu : x = unR
            · rw [if_pos hu] at he
              rcases hx with ⟨_, g⟩ | ⟨g, _⟩
              · exact ⟨0, 0, 8, he, .inr (.inr (.inr ⟨hv, hab, ht, .inr (.inl ⟨h1, g, rfl, rfl, rfl⟩)⟩)), h3⟩
              · exact absurd hu g
            · rw [if_neg hu] at he
              rcases hx with ⟨g, _⟩ | ⟨_, g⟩
              · exact absurd g hu
              · exact ⟨-y, x, 0, he, .inr (.inr (.inr ⟨hv, hab, ht, .inr (.inr ⟨h1, g, by rw [Int.neg_neg]; exact hy, rfl⟩)⟩)), h3⟩
theorem err_res (tmps : Array Value) (W : World) (p1 : Nat) (a b : Int) (t : Int) (h8 : tmps.getD 6 undef = .pointer (some ⟨p1, 0, none⟩)) (h9 : tmps.getD 7 undef = .int .i64 t) (c0 : W.cell? ⟨p1, 0, none⟩ = some (.int .i64 a)) (c1 : W.cell? ⟨p1, 1, none⟩ = some (.int .i64 b)) :
    (results Try.f11 tmps).run Try.prog W = .ok (.tuple #[.agg #[.int .i64 a, .int .i64 b], .int .i64 t]) W := by
  have h8' : tmps[6]?.getD undef = .pointer (some ⟨p1, 0, none⟩) := by simpa using h8
  have h9' : tmps[7]?.getD undef = .int .i64 t := by simpa using h9
  simp [results, Try.results11, go_sem, h8', h9', c0, c1]
  try rfl
set_option maxRecDepth 100000 in
set_option maxHeartbeats 3200000 in
theorem error_any (A : Option Addr) (n c : Nat) (R : Nat → Int) (B : Option Addr) (m d : Nat) (S : Nat → Sgt) (a t : Int) (w : World) (hA : Sl w A n R) (hB : Sgl w B m S) (hn : n ≤ maxLen) (hm : m ≤ maxLen) :
    Calls Try.prog 11 #[encN A n c B m d, .int .i64 a, .int .i64 t] w fun e w' => ∃ x y k, e = .returned (spnV x y k) ∧ BtR R S n m a 0 t x y k ∧ Bl w w' := by
  have HBT := Lib.hid (fun (W : World) (hW : Bl w W) => between_any A n c R B m d S a 0 t W (hA.below hW) (hB.below hW) hn hm)
  clear hA hB hn hm
  go_enter Try.func11, Try.ntmps11
  go_wp2_with fail
  obtain ⟨X, hX⟩ : ∃ X, X = (w.alloc (Obj.cells #[.slice A n c, .slice B m d] 27)).alloc (Obj.cells #[.int .i64 0, .int .i64 0] 35) := ⟨_, rfl⟩
  have BX : Bl w X := by rw [hX]; go_grown
  have y0 : X.cell? ⟨w.heap.size + 1, 0, none⟩ = some (.int .i64 0) := by rw [hX]; go_cell
  have y1 : X.cell? ⟨w.heap.size + 1, 1, none⟩ = some (.int .i64 0) := by rw [hX]; go_cell
  have z0 : X.frozen? ⟨w.heap.size + 1, 0, none⟩ = false := by rw [hX]; go_cell
  have z1 : X.frozen? ⟨w.heap.size + 1, 1, none⟩ = false := by rw [hX]; go_cell
  rw [← hX]
  clear hX
  refine (HBT.out X BX).mono ?_
  rintro e1 w1 ⟨x, y, k, rfl, hr, hb1⟩
  have z0 := fzb hb1 z0 (ltb y0)
  have z1 := fzb hb1 z1 (ltb y1)
  have y0 := kcb hb1 y0
  have y1 := kcb hb1 y1
  have ly := ltb y0
  have HR := Lib.hid hr
  have HB1 := Lib.hid (BX.tr hb1)
  clear hr hb1 BX
  rw [show spnV x y k = .tuple #[.agg #[.int .i64 x, .int .i64 y], .int .i64 k] from rfl]
  go_wp2_with fail
  exact bodyPost_ret (err_res _ _ _ _ _ _ rfl rfl (by go_cell) (by go_cell)) rfl ⟨x, y, k, rfl, HR.out, bl_set (bl_set HB1.out (by omega)) (by omega)⟩
end Go.Proofs.Ytchikfegpoonjaa
