/-
  Contracts of package transit and of its reference: differences; the law's wide and awake.
-/
import Derived.Test.YtlpbmcnojkhdcaaDoorTF
namespace Go.Proofs.YtlpbmcnojkhdcaaDoor
open Go.RowKit
set_option linter.unusedSimpArgs false
set_option linter.unusedVariables false

theorem cross_ok {n : Nat} {f : Nat → Int} {e : Int} {s : ByteArray} {a h l : Int} {m : Nat} {g : Nat → Int} (q : (crossF n f e s a h l m g).2 = 0) : 0 ≤ a ∧ a ≤ 86399999 := by
  unfold crossF at q
  by_cases hf : fitB n f e s a h l m g = true
  · have F := fitsIt hf
    exact ⟨F.alo, F.ahi⟩
  · rw [if_neg hf] at q
    simp at q

/-- What a transit reads as. -/
structure Tra where
  s : ByteArray
  a : Int
  h : Int
  l : Int
  B : Option Addr
  m : Nat
  d : Nat
/-- A slice of transits reads as a function. -/
def Tl (w : World) (A : Option Addr) (n : Nat) (T : Nat → Tra) : Prop :=
  0 < n → ∃ b off, A = some ⟨b, off, none⟩ ∧ b < w.heap.size ∧ ∀ j, j < n →
    w.cell? ⟨b, off + j * 5, none⟩ = some (.string (T j).s) ∧ w.cell? ⟨b, off + j * 5 + 1, none⟩ = some (.int .i64 (T j).a) ∧ w.cell? ⟨b, off + j * 5 + 2, none⟩ = some (.int .i64 (T j).h) ∧
    w.cell? ⟨b, off + j * 5 + 3, none⟩ = some (.int .i64 (T j).l) ∧ w.cell? ⟨b, off + j * 5 + 4, none⟩ = some (.slice (T j).B (T j).m (T j).d)
theorem Tl.keep {w w' : World} {A : Option Addr} {n : Nat} {T : Nat → Tra} (h : Tl w A n T) (hs : w.heap.size ≤ w'.heap.size) (hk : ∀ p : Addr, p.block < w.heap.size → w'.cell? p = w.cell? p) : Tl w' A n T := fun hn => by
  obtain ⟨b, off, e, hb, hc⟩ := h hn
  exact ⟨b, off, e, Nat.lt_of_lt_of_le hb hs, fun j hj => by
    obtain ⟨c0, c1, c2, c3, c4⟩ := hc j hj
    exact ⟨(hk _ hb).trans c0, (hk _ hb).trans c1, (hk _ hb).trans c2, (hk _ hb).trans c3, (hk _ hb).trans c4⟩⟩
theorem Tl.below {w w' : World} {A : Option Addr} {n : Nat} {T : Nat → Tra} (h : Tl w A n T) (hb : Bl w w') : Tl w' A n T := h.keep hb.size fun _ hp => hb.cell hp
/-- A bool. -/
def SomeB (w : World) (e : Ending) (w' : World) : Prop := ∃ v : Bool, e = .returned (.bool v) ∧ Bl w w'

def exF (k : Nat) : Int := if k = 0 then -10000 else if k = 1 then 0 else 10000
def exG (k : Nat) : Int := if k = 0 then 80000 else if k = 1 then -1 else 120000
theorem ex_cross : crossF 3 exF 0 ⟨#[97]⟩ 0 0 2000 3 exG = (100000, 0) := by decide +kernel
theorem ex_fold : foldF 43200000 = (-43200000, 0) := by decide +kernel
theorem sl3 {w : World} {b : Nat} {x y z : Int} (f : Nat → Int) (h0 : w.cell? ⟨b, 0, none⟩ = some (.int .i64 x)) (h1 : w.cell? ⟨b, 1, none⟩ = some (.int .i64 y)) (h2 : w.cell? ⟨b, 2, none⟩ = some (.int .i64 z))
    (e0 : f 0 = x) (e1 : f 1 = y) (e2 : f 2 = z) : Sl w (some ⟨b, 0, none⟩) 3 f := fun _ =>
  ⟨b, 0, rfl, World.block_lt_of_cell? w ⟨b, 0, none⟩ h0, fun j hj => by
    rw [Nat.zero_add]
    match j, hj with
    | 0, _ => rw [h0, e0]
    | 1, _ => rw [h1, e1]
    | 2, _ => rw [h2, e2]⟩

set_option maxHeartbeats 1600000 in
theorem awake3_any (w : World) : Calls Tryd.prog 4 #[] w fun e w' => e = .returned (.bool true) ∧ Bl w w' := by
  go_enter Tryd.func4, Tryd.ntmps4
  go_wp2_with fail
  obtain ⟨W, hW⟩ : ∃ W, W = ((w.alloc (Obj.cells #[.int .i64 (-10000), .int .i64 0, .int .i64 10000] 3)).alloc (Obj.cells #[.slice (some ⟨w.heap.size, 0, none⟩) 3 3, .int .i64 0] 34)).alloc (Obj.cells #[.int .i64 80000, .int .i64 (-1), .int .i64 120000] 3) := ⟨_, rfl⟩
  have S1 : Sl W (some ⟨w.heap.size, 0, none⟩) 3 exF := sl3 (x := -10000) (y := 0) (z := 10000) exF (by rw [hW]; go_cell) (by rw [hW]; go_cell) (by rw [hW]; go_cell) rfl rfl rfl
  have S2 : Sl W (some ⟨w.heap.size + 1 + 1, 0, none⟩) 3 exG := sl3 (x := 80000) (y := -1) (z := 120000) exG (by rw [hW]; go_cell) (by rw [hW]; go_cell) (by rw [hW]; go_cell) rfl rfl rfl
  have BW : Bl w W := by rw [hW]; go_grown
  rw [← hW]
  clear hW
  refine (cross_any _ 3 3 exF 0 ⟨#[97]⟩ 0 0 2000 _ 3 3 exG W (by decide) (by decide) (by decide) S1 S2).mono ?_
  rintro e1 w1 ⟨rfl, hb⟩
  have B1 : Bl w w1 := BW.tr hb
  clear hb S1 S2
  rw [ex_cross]
  unfold rI
  go_wp2_with fail
  refine (folded_any _ _).mono ?_
  rintro e2 w2 ⟨rfl, rfl⟩
  rw [ex_fold]
  unfold rI
  go_wp2_with fail
  go_ret
  exact ⟨rfl, B1⟩
end Go.Proofs.YtlpbmcnojkhdcaaDoor
