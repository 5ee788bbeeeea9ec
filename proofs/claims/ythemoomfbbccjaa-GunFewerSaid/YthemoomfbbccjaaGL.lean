/-
  Contracts of package gun: Ring, by sort.Search over closures.
-/
import Derived.Test.YthemoomfbbccjaaGG
namespace Go.Proofs.Ythemoomfbbccjaa
open Go.RowKit
set_option linter.unusedSimpArgs false
set_option linter.unusedVariables false

/-- The lag over d metres; whether it has a number. -/
def ringL (a : Air) (d : Int) : Int × Int := lagO a (d * 1000) (d * 1000)
def hasL (a : Air) (lag d : Int) : Prop := (ringL a d).1 ≤ lag ∧ lag ≤ (ringL a d).2
theorem ringL_mono {a : Air} (h : VA a) {d e : Int} (h1 : d ≤ e) : (ringL a d).1 ≤ (ringL a e).1 ∧ (ringL a d).2 ≤ (ringL a e).2 := by
  obtain ⟨p1, p2, _⟩ := air_pos h
  exact ⟨Int.ediv_le_ediv p1 (by omega), up_mono p2 (by omega)⟩
def RingS (a : Air) (lag : Int) (r : Int × Int × Int) : Prop :=
  (r.2.2 = 0 ∧ 0 ≤ r.1 ∧ r.1 ≤ r.2.1 ∧ r.2.1 ≤ 200000 ∧ ∀ d, 0 ≤ d → d ≤ 200000 → (hasL a lag d ↔ r.1 ≤ d ∧ d ≤ r.2.1)) ∨ (r = (0, 0, 8) ∧ ∀ d, 0 ≤ d → d ≤ 200000 → ¬ hasL a lag d)
theorem RingS_one {a : Air} {lag : Int} {r s : Int × Int × Int} (h : RingS a lag r) (g : RingS a lag s) : r = s := by
  obtain ⟨r1, r2, r3⟩ := r
  obtain ⟨s1, s2, s3⟩ := s
  rcases h with ⟨h1, h2, h3, h4, h5⟩ | ⟨h1, h2⟩ <;> rcases g with ⟨g1, g2, g3, g4, g5⟩ | ⟨g1, g2⟩
  · dsimp only at *
    have a1 := (g5 r1 h2 (by omega)).1 ((h5 r1 h2 (by omega)).2 ⟨by omega, h3⟩)
    have a2 := (h5 s1 g2 (by omega)).1 ((g5 s1 g2 (by omega)).2 ⟨by omega, g3⟩)
    have a3 := (g5 r2 (by omega) h4).1 ((h5 r2 (by omega) h4).2 ⟨h3, by omega⟩)
    have a4 := (h5 s2 (by omega) g4).1 ((g5 s2 (by omega) g4).2 ⟨g3, by omega⟩)
    obtain rfl : r1 = s1 := by omega
    obtain rfl : r2 = s2 := by omega
    rw [h1, g1]
  · dsimp only at *
    exact absurd ((h5 r1 h2 (by omega)).2 ⟨by omega, h3⟩) (g2 r1 h2 (by omega))
  · dsimp only at *
    exact absurd ((g5 s1 g2 (by omega)).2 ⟨by omega, g3⟩) (h2 s1 g2 (by omega))
  · rw [h1, g1]
/-- What Ring answers. -/
def RingOk (a : Air) (p : Pt) (lag : Int) (r : Int × Int × Int) : Prop :=
  (¬ VA a ∧ r = (0, 0, 1)) ∨ (VA a ∧ ¬ (isP p ∧ 0 ≤ lag ∧ lag ≤ 1000000) ∧ r = (0, 0, 7)) ∨ (VA a ∧ (isP p ∧ 0 ≤ lag ∧ lag ≤ 1000000) ∧ RingS a lag r)
theorem RingOk_one {a : Air} {p : Pt} {lag : Int} {r s : Int × Int × Int} (h : RingOk a p lag r) (g : RingOk a p lag s) : r = s := by
  rcases h with ⟨h1, h2⟩ | ⟨h1, h2, h3⟩ | ⟨h1, h2, h3⟩ <;> rcases g with ⟨g1, g2⟩ | ⟨g1, g2, g3⟩ | ⟨g1, g2, g3⟩
  · rw [h2, g2]
  · exact absurd g1 h1
  · exact absurd g1 h1
  · exact absurd h1 g1
  · rw [h3, g3]
  · exact absurd g2 h2
  · exact absurd h1 g1
  · exact absurd h2 g2
  · exact RingS_one h3 g3
def atL (a : Air) (lag d : Int) : Bool := decide (lag ≤ (ringL a d).2)
def beyL (a : Air) (lag d : Int) : Bool := decide (lag < (ringL a d).1)
/-- What a search for the least number leaves. -/
def LeastOf (P : Int → Bool) (n r : Int) : Prop := 0 ≤ r ∧ r ≤ n ∧ (∀ d, 0 ≤ d → d < r → P d = false) ∧ ∀ d, r ≤ d → d < n → P d = true
theorem ring_none {a : Air} {lag x y : Int} (hx : LeastOf (atL a lag) 200001 x) (hy : LeastOf (beyL a lag) 200001 y) (h : y - 1 < x) : RingS a lag (0, 0, 8) := by
  obtain ⟨x0, x1, x2, x3⟩ := hx
  obtain ⟨y0, y1, y2, y3⟩ := hy
  refine .inr ⟨rfl, fun d d0 d1 ⟨g1, g2⟩ => ?_⟩
  by_cases hd : d < x
  · have := x2 d d0 hd
    simp [atL] at this; omega
  · have := y3 d (by omega) (by omega)
    simp [beyL] at this; omega
theorem ring_some {a : Air} {lag x y : Int} (hx : LeastOf (atL a lag) 200001 x) (hy : LeastOf (beyL a lag) 200001 y) (h : ¬ y - 1 < x) : RingS a lag (x, y - 1, 0) := by
  obtain ⟨x0, x1, x2, x3⟩ := hx
  obtain ⟨y0, y1, y2, y3⟩ := hy
  refine .inl ⟨rfl, x0, by dsimp only; omega, by dsimp only; omega, fun d d0 d1 => ⟨fun ⟨g1, g2⟩ => ⟨?_, ?_⟩, fun ⟨k1, k2⟩ => ⟨?_, ?_⟩⟩⟩
  · refine Int.not_lt.1 fun hd => ?_
    have := x2 d d0 hd
    simp [atL] at this; omega
  · refine Int.not_lt.1 fun hd => ?_
    have := y3 d (by dsimp only at hd; omega) (by omega)
    simp [beyL] at this; omega
  · dsimp only at k2
    have := y2 d d0 (by omega)
    simp [beyL] at this; omega
  · have := x3 d k1 (by omega)
    simp [atL] at this; omega
theorem atL_up {a : Air} (h : VA a) (lag : Int) {d e : Int} (hde : d ≤ e) (hd : atL a lag d = true) : atL a lag e = true := by
  have := (ringL_mono h hde).2
  simp [atL] at *; omega
theorem beyL_up {a : Air} (h : VA a) (lag : Int) {d e : Int} (hde : d ≤ e) (hd : beyL a lag d = true) : beyL a lag e = true := by
  have := (ringL_mono h hde).1
  simp [beyL] at *; omega
theorem up_false {P : Int → Bool} (hP : ∀ d e, d ≤ e → P d = true → P e = true) {h : Int} (hf : P h = false) {d : Int} (hd : d ≤ h) : P d = false := by
  cases hp : P d with
  | false => rfl
  | true => rw [hP d h hd hp] at hf; cases hf

/-- The boxes that the closures hold: what is asked, the air, the lag. -/
abbrev Sr (w : World) (fn bl : Nat) (b3 b2 : Nat) (a : Air) (lag : Int) (X : World) : Prop :=
  Bl w X ∧ X.cell? ⟨b3, 0, none⟩ = some (.func (.func fn) #[] #[.pointer (some ⟨bl, 0, none⟩)]) ∧ X.cell? ⟨b2, 0, none⟩ = some (.int .i64 a.s) ∧ X.cell? ⟨b2, 1, none⟩ = some (.int .i64 a.w) ∧ X.cell? ⟨bl, 0, none⟩ = some (.int .i64 lag) ∧ b3 < X.heap.size ∧ b2 < X.heap.size ∧ bl < X.heap.size
theorem Sr.t {w X X' : World} {fn bl b3 b2 : Nat} {a : Air} {lag : Int} (h : Sr w fn bl b3 b2 a lag X) (hb : Bl X X') : Sr w fn bl b3 b2 a lag X' := by
  obtain ⟨h0, h1, h2, h3, h4, h5, h6, h7⟩ := h
  exact ⟨h0.tr hb, kcb hb h1, kcb hb h2, kcb hb h3, kcb hb h4, Nat.lt_of_lt_of_le h5 hb.size, Nat.lt_of_lt_of_le h6 hb.size, Nat.lt_of_lt_of_le h7 hb.size⟩
