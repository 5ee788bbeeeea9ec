/-
  Package ledger: entries, what counts of them; pure.
-/
import Derived.Test.YtbmenpfpeadckaaKB
import Derived.Deep.RegionLaw
import Derived.Deep.RegionHeld3
import Derived.Lib.MinMax
import Derived.Laws.OwnMore
import Derived.Deep.AppendLies
import Derived.Deep.OwnRows
namespace Go.Proofs.Ytbmenpfpeadckaa
open Go.RowKit
set_option linter.unusedSimpArgs false
set_option linter.unusedVariables false

structure En where
  day : Int
  fo : Bool
  er : Int
abbrev encE (x : En) : Value := .agg #[.int .i64 x.day, .bool x.fo, .int .i64 x.er]
/-- A slice of entries reads as a function. -/
def El (w : World) (A : Option Addr) (n : Nat) (L : Nat → En) : Prop :=
  0 < n → ∃ b off, A = some ⟨b, off, none⟩ ∧ b < w.heap.size ∧ ∀ j, j < n → w.cell? ⟨b, off + j * 3, none⟩ = some (.int .i64 (L j).day) ∧ w.cell? ⟨b, off + j * 3 + 1, none⟩ = some (.bool (L j).fo) ∧ w.cell? ⟨b, off + j * 3 + 2, none⟩ = some (.int .i64 (L j).er)
theorem El.below {w w' : World} {A : Option Addr} {n : Nat} {L : Nat → En} (h : El w A n L) (hb : Bl w w') : El w' A n L := fun hn => by
  obtain ⟨b, off, e, hlt, hc⟩ := h hn
  exact ⟨b, off, e, Nat.lt_of_lt_of_le hlt hb.size, fun j hj => by
    obtain ⟨c0, c1, c2⟩ := hc j hj
    exact ⟨kcb hb c0, kcb hb c1, kcb hb c2⟩⟩
theorem El.take {w : World} {A : Option Addr} {n m : Nat} {L : Nat → En} (h : El w A n L) (hm : m ≤ n) : El w A m L := fun h0 => by
  obtain ⟨b, off, e, hlt, hc⟩ := h (by omega)
  exact ⟨b, off, e, hlt, fun j hj => hc j (by omega)⟩
theorem El.congr {w : World} {A : Option Addr} {n : Nat} {L M : Nat → En} (h : El w A n L) (he : ∀ j, j < n → L j = M j) : El w A n M := fun h0 => by
  obtain ⟨b, off, e, hlt, hc⟩ := h h0
  exact ⟨b, off, e, hlt, fun j hj => by rw [← he j hj]; exact hc j hj⟩
def dayB (d : Int) : Bool := decide (0 ≤ d) && decide (d ≤ 182985)
theorem day_iff {d : Int} : dayB d = true ↔ 0 ≤ d ∧ d ≤ 182985 := by simp [dayB]
theorem day_no {d : Int} : dayB d = false ↔ ¬ (0 ≤ d ∧ d ≤ 182985) := by rw [← day_iff]; simp
/-- An entry is valid. -/
def enB (x : En) : Bool := dayB x.day && decide (-86400000 ≤ x.er) && decide (x.er ≤ 86400000)
theorem en_iff {x : En} : enB x = true ↔ 0 ≤ x.day ∧ x.day ≤ 182985 ∧ -86400000 ≤ x.er ∧ x.er ≤ 86400000 := by simp [enB, dayB, and_assoc]
def allE (L : Nat → En) : Nat → Bool
  | 0 => true
  | k + 1 => allE L k && enB (L k)
theorem all_no {L : Nat → En} {k n : Nat} (hk : k < n) (h : enB (L k) = false) : allE L n = false := by
  induction n with
  | zero => omega
  | succ n ih =>
    by_cases e : k = n
    · subst e; simp [allE, h]
    · simp [allE, ih (by omega)]
theorem all_iff {L : Nat → En} {n : Nat} : allE L n = true ↔ ∀ k, k < n → enB (L k) = true := by
  constructor
  · intro h k hk
    cases e : enB (L k) with
    | true => rfl
    | false => rw [all_no hk e] at h; cases h
  · intro h
    induction n with
    | zero => rfl
    | succ n ih => rw [allE, ih fun k hk => h k (by omega), h n (by omega)]; rfl
/-- Entries are valid. -/
def vlB (L : Nat → En) (n : Nat) : Bool := decide (n ≤ 1000) && allE L n
theorem vl_iff {L : Nat → En} {n : Nat} : vlB L n = true ↔ n ≤ 1000 ∧ ∀ k, k < n → enB (L k) = true := by simp [vlB, all_iff]
def slotB (x : En) (d : Int) (f : Bool) : Bool := decide (x.day = d) && (x.fo == f)
theorem slot_iff {x : En} {d : Int} {f : Bool} : slotB x d f = true ↔ x.day = d ∧ x.fo = f := by simp [slotB]
/-- The error of the last one of the first n entries of a day and kind. -/
def lst (L : Nat → En) (d : Int) (f : Bool) : Nat → Option Int
  | 0 => none
  | k + 1 => if slotB (L k) d f then some (L k).er else lst L d f k
theorem lst_bd {L : Nat → En} {d : Int} {f : Bool} {n : Nat} (h : ∀ k, k < n → enB (L k) = true) {x : Int} (hx : lst L d f n = some x) : -86400000 ≤ x ∧ x ≤ 86400000 := by
  induction n with
  | zero => cases hx
  | succ n ih =>
    rw [lst] at hx
    split at hx
    · have := en_iff.1 (h n (by omega))
      cases hx
      exact ⟨this.2.2.1, this.2.2.2⟩
    · exact ih (fun k hk => h k (by omega)) hx
theorem lst_day {L : Nat → En} {d : Int} {f : Bool} {n : Nat} (h : ∀ k, k < n → enB (L k) = true) {x : Int} (hx : lst L d f n = some x) : 0 ≤ d ∧ d ≤ 182985 := by
  induction n with
  | zero => cases hx
  | succ n ih =>
    rw [lst] at hx
    split at hx
    · rename_i hs
      have := en_iff.1 (h n (by omega))
      rw [← (slot_iff.1 hs).1]
      exact ⟨this.1, this.2.1⟩
    · exact ih (fun k hk => h k (by omega)) hx
theorem lst_congr {L M : Nat → En} {d : Int} {f : Bool} {n : Nat} (h : ∀ j, j < n → L j = M j) : lst L d f n = lst M d f n := by
  induction n with
  | zero => rfl
  | succ n ih => rw [lst, lst, h n (by omega), ih fun j hj => h j (by omega)]
/-- The off of a day. -/
def offO (L : Nat → En) (n : Nat) (d : Int) : Option Int :=
  match lst L d false n, lst L d true n with
  | some a, some b => some (b - a)
  | _, _ => none
theorem off_some {L : Nat → En} {n : Nat} {d a b : Int} (h : lst L d false n = some a) (h' : lst L d true n = some b) : offO L n d = some (b - a) := by simp [offO, h, h']
theorem off_none1 {L : Nat → En} {n : Nat} {d : Int} (h : lst L d false n = none) : offO L n d = none := by simp [offO, h]
theorem off_none2 {L : Nat → En} {n : Nat} {d : Int} (h : lst L d true n = none) : offO L n d = none := by unfold offO; rw [h]; cases lst L d false n <;> rfl
theorem off_bd {L : Nat → En} {n : Nat} {d x : Int} (h : ∀ k, k < n → enB (L k) = true) (hx : offO L n d = some x) : -172800000 ≤ x ∧ x ≤ 172800000 := by
  unfold offO at hx
  split at hx
  · rename_i a b ha hb
    have h1 := lst_bd h ha
    have h2 := lst_bd h hb
    cases hx
    omega
  · cases hx
/-- The error code that a question about a day gets, and the answer. -/
def errL (L : Nat → En) (n : Nat) (d : Int) (r : Option Int) : Int × Int :=
  if vlB L n then (if dayB d then (match r with | some x => (x, 0) | none => (0, 8)) else (0, 7)) else (0, 1)
def saidP (L : Nat → En) (n : Nat) (f : Bool) (d : Int) : Int × Int := errL L n d (lst L d f n)
def offP (L : Nat → En) (n : Nat) (d : Int) : Int × Int := errL L n d (offO L n d)
theorem err_inv {L : Nat → En} {n : Nat} {d : Int} {r : Option Int} (h : vlB L n = false) : errL L n d r = (0, 1) := by simp [errL, h]
theorem err_rng {L : Nat → En} {n : Nat} {d : Int} {r : Option Int} (h : vlB L n = true) (hd : dayB d = false) : errL L n d r = (0, 7) := by simp [errL, h, hd]
theorem err_none {L : Nat → En} {n : Nat} {d : Int} (h : vlB L n = true) (hd : dayB d = true) : errL L n d none = (0, 8) := by simp [errL, h, hd]
theorem err_some {L : Nat → En} {n : Nat} {d x : Int} (h : vlB L n = true) (hd : dayB d = true) : errL L n d (some x) = (x, 0) := by simp [errL, h, hd]
theorem ret_boolE {a b : Bool} (h : a = b) : Ending.returned (.bool a) = .returned (.bool b) := by rw [h]
theorem ret_intE {k : IntKind} {a b : Int} (h : a = b) : Ending.returned (.int k a) = .returned (.int k b) := by rw [h]
abbrev encP (p : Int × Int) : Value := .tuple #[.int .i64 p.1, .int .i64 p.2]
/-- The indexes of the corrections among the first k entries. -/
def corF (L : Nat → En) : Nat → List Int
  | 0 => []
  | k + 1 => if (lst L (L k).day (L k).fo k).isSome then corF L k ++ [(k : Int)] else corF L k
theorem cor_len (L : Nat → En) (k : Nat) : (corF L k).length ≤ k := by
  induction k with
  | zero => exact Nat.le_refl _
  | succ k ih => rw [corF]; split <;> (try simp) <;> omega
theorem bl_dr (w : World) : Bl w w.drew := ⟨rfl, rfl, rfl, Nat.le_refl _, fun _ _ => rfl⟩
theorem bl_dn (w : World) (n : Nat) : Bl w (w.drewN n) := ⟨rfl, rfl, rfl, Nat.le_refl _, fun _ _ => rfl⟩
def anyTo (P : Nat → Bool) : Nat → Bool
  | 0 => false
  | k + 1 => anyTo P k || P k
theorem anyTo_at {P : Nat → Bool} {k n : Nat} (hk : k < n) (h : P k = true) : anyTo P n = true := by
  induction n with
  | zero => omega
  | succ n ih =>
    by_cases e : k = n
    · subst e; simp [anyTo, h]
    · simp [anyTo, ih (by omega)]
theorem any_all (L : Nat → En) (n : Nat) : anyTo (fun j => !enB (L j)) n = !allE L n := by
  induction n with
  | zero => rfl
  | succ n ih => simp only [anyTo, allE, ih]; cases allE L n <;> cases enB (L n) <;> rfl
end Go.Proofs.Ytbmenpfpeadckaa
