/-
  Contracts of package gun and of its reference: tables of lags.
-/
import Derived.Test.YthemoomfbbccjaaGG
import Derived.Deep.OwnRows
import Derived.Deep.AppendLies
import Derived.Laws.OwnMore
import Derived.Deep.RegionLaw
namespace Go.Proofs.Ythemoomfbbccjaa
open Go.RowKit
set_option linter.unusedSimpArgs false
set_option linter.unusedVariables false

theorem info_parts {P : Program} {t : TypeId} {z : Value} {n b : Nat} (h : (P.info? t).map (fun i => (i.zero, i.size, i.bytes)) = some (some z, n, b)) : ∃ i, P.info? t = some i ∧ i.zero = some z ∧ i.size = n ∧ i.bytes = b := by
  cases hi : P.info? t with
  | none => rw [hi] at h; cases h
  | some i =>
    rw [hi] at h
    simp only [Option.map_some, Option.some.injEq, Prod.mk.injEq] at h
    exact ⟨i, rfl, h.1, h.2.1, h.2.2⟩
theorem span_info : (Try.prog.info? 42).map (fun i => (i.zero, i.size, i.bytes)) = some (some (.agg #[.int .i64 0, .int .i64 0]), 2, 16) := by kernel_rfl
/-- The cells of the first k spans. -/
def spC (f : Nat → Int × Int) : Nat → List Value
  | 0 => []
  | k + 1 => spC f k ++ [.int .i64 (f k).1, .int .i64 (f k).2]
theorem spC_len (f : Nat → Int × Int) (k : Nat) : (spC f k).length = k * 2 := by
  induction k with
  | zero => rfl
  | succ k ih => simp [spC, ih]; omega
theorem spC_at (f : Nat → Int × Int) {n j : Nat} (hj : j < n) : (spC f n)[j * 2]? = some (.int .i64 (f j).1) ∧ (spC f n)[j * 2 + 1]? = some (.int .i64 (f j).2) := by
  induction n with
  | zero => omega
  | succ n ih =>
    by_cases e : j = n
    · subst e
      constructor
      · rw [spC, List.getElem?_append_right (by rw [spC_len]; omega), spC_len]; simp
      · rw [spC, List.getElem?_append_right (by rw [spC_len]; omega), spC_len, show j * 2 + 1 - j * 2 = 1 by omega]; rfl
    · obtain ⟨h1, h2⟩ := ih (by omega)
      have l := spC_len f n
      constructor
      · rw [spC, List.getElem?_append_left (by omega)]; exact h1
      · rw [spC, List.getElem?_append_left (by omega)]; exact h2
/-- A slice of spans reads as a function. -/
def Spl (w : World) (A : Option Addr) (n : Nat) (f : Nat → Int × Int) : Prop :=
  0 < n → ∃ b off, A = some ⟨b, off, none⟩ ∧ b < w.heap.size ∧ ∀ j, j < n →
    w.cell? ⟨b, off + j * 2, none⟩ = some (.int .i64 (f j).1) ∧ w.cell? ⟨b, off + j * 2 + 1, none⟩ = some (.int .i64 (f j).2)
theorem Spl.below {w w' : World} {A : Option Addr} {n : Nat} {R : Nat → Int × Int} (h : Spl w A n R) (hb : Bl w w') : Spl w' A n R := fun hn => by
  obtain ⟨b, off, e, hlt, hc⟩ := h hn
  exact ⟨b, off, e, Nat.lt_of_lt_of_le hlt hb.size, fun j hj => by
    obtain ⟨c0, c1⟩ := hc j hj
    exact ⟨kcb hb c0, kcb hb c1⟩⟩
theorem spl_of_own {w : World} {base : Nat} {e : TypeId} {v : Value} {n : Nat} {f : Nat → Int × Int} (h : w.ownsRow base e 2 v n (spC f n)) : ∃ A cap, v = .slice A n cap ∧ n ≤ cap ∧ cap ≤ maxLen ∧ Spl w A n f := by
  rcases h.2 with ⟨rfl, rfl⟩ | ⟨g, cap, cur, rfl, hb, hg, hnc, hcm, _⟩
  · exact ⟨none, 0, rfl, Nat.le_refl _, by decide, fun h => absurd h (by omega)⟩
  · refine ⟨some ⟨g, 0, none⟩, cap, rfl, hnc, hcm, fun hn => ⟨g, 0, rfl, (Array.getElem?_eq_some_iff.1 hg).1, fun j hj => ?_⟩⟩
    obtain ⟨h1, h2⟩ := spC_at f hj
    have k1 := h.cellAt (j * 2) (by omega)
    have k2 := h.cellAt (j * 2 + 1) (by omega)
    rw [Nat.zero_add]
    exact ⟨k1.trans h1, k2.trans h2⟩
theorem own_b {w w' : World} {base : Nat} {e : TypeId} {size : Nat} {v : Value} {n : Nat} {xs : List Value} (h : w.ownsRow base e size v n xs) (hb : Bl w w') : w'.ownsRow base e size v n xs := by
  have hg : w.grownBy w' none := ⟨hb.os, hb.tape, hb.output, hb.size, fun i hi _ => hb.block i hi⟩
  refine h.kept hg ?_
  cases hv : v.ownBlock with
  | none => exact .inl rfl
  | some k => exact .inr (by simp)
/-- The boxes of the air and of a place. -/
structure Tb (w X : World) (a : Air) (p : Pt) : Prop where
  a0 : X.cell? ⟨w.heap.size, 0, none⟩ = some (.int .i64 a.s)
  a1 : X.cell? ⟨w.heap.size, 1, none⟩ = some (.int .i64 a.w)
  p0 : X.cell? ⟨w.heap.size + 1, 0, none⟩ = some (.int .i64 p.x)
  p1 : X.cell? ⟨w.heap.size + 1, 1, none⟩ = some (.int .i64 p.y)
theorem Tb.below {w X X' : World} {a : Air} {p : Pt} {b : Nat} (h : Tb w X a p) (hb : Below b X X') (hl : w.heap.size + 1 < b) : Tb w X' a p := by
  obtain ⟨h0, h1, h2, h3⟩ := h
  exact ⟨(hb.cell (p := ⟨_, _, none⟩) (show w.heap.size < b by omega)).trans h0, (hb.cell (p := ⟨_, _, none⟩) (show w.heap.size < b by omega)).trans h1, (hb.cell (p := ⟨_, _, none⟩) hl).trans h2, (hb.cell (p := ⟨_, _, none⟩) hl).trans h3⟩
theorem Tb.bl {w X X' : World} {a : Air} {p : Pt} (h : Tb w X a p) (hb : Bl X X') : Tb w X' a p :=
  ⟨kcb hb h.a0, kcb hb h.a1, kcb hb h.p0, kcb hb h.p1⟩
def tabOk (p : Pt) (T : Nat → Pt) (n : Nat) : Prop := isP p ∧ n ≤ 100 ∧ allP T n
instance (p : Pt) (T : Nat → Pt) (n : Nat) : Decidable (tabOk p T n) := by unfold tabOk; infer_instance
/-- What Table returns. -/
def TabPost (a : Air) (p : Pt) (T : Nat → Pt) (n : Nat) (w : World) (e : Ending) (w' : World) : Prop :=
  Bl w w' ∧ ((VA a ∧ tabOk p T n ∧ ∃ A cap, e = .returned (.tuple #[.slice A n cap, .int .i64 0]) ∧ n ≤ cap ∧ cap ≤ maxLen ∧ Spl w' A n (fun j => lagP a p (T j))) ∨
    (VA a ∧ ¬ tabOk p T n ∧ e = .returned (.tuple #[.slice none 0 0, .int .i64 7])) ∨
    (¬ VA a ∧ e = .returned (.tuple #[.slice none 0 0, .int .i64 1])))
theorem tab_some {a : Air} {p : Pt} {T : Nat → Pt} {n base : Nat} {w w' : World} {v : Value} (ha : VA a) (hk : tabOk p T n) (ho : w'.ownsRow base 42 2 v n (spC (fun j => lagP a p (T j)) n)) (hb : Bl w w') : TabPost a p T n w (.returned (.tuple #[v, .int .i64 0])) w' := by
  obtain ⟨A, cap, rfl, h1, h2, h3⟩ := spl_of_own ho
  exact ⟨hb, .inl ⟨ha, hk, A, cap, rfl, h1, h2, h3⟩⟩
