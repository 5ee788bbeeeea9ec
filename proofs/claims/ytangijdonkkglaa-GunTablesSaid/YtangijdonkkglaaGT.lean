/-
  Contracts of package gun and of its reference: tables of lags.
-/
import Derived.Test.YtangijdonkkglaaGG
import Derived.Deep.OwnRows
import Derived.Deep.AppendLies
import Derived.Laws.OwnMore
import Derived.Deep.RegionLaw
namespace Go.Proofs.Ytangijdonkkglaa
open Go.RowKit
set_option linter.unusedSimpArgs false
set_option linter.unusedVariables false

theorem info_parts {P : Program} {t : TypeId} {z : Value} {n b : Nat} (h : (P.info? t).map (fun i => (i.zero, i.size, i.bytes)) = some (some z, n, b)) : ∃ i, P.info? t = some i ∧ i.zero = some z ∧ i.size = n ∧ i.bytes = b := by
  cases hi : P.info? t with
  | none => rw [hi] at h; cases h
  | some i =>
    rw [hi] at h
    simp only [Option.map_some, Option.some.injEq, Prod.mk.injEq] at h
    exact ⟨i, rfl, h.1, h.2.1, h.2.2⟩
theorem span_info : (Try.prog.info? 37).map (fun i => (i.zero, i.size, i.bytes)) = some (some (.agg #[.int .i64 0, .int .i64 0]), 2, 16) := by kernel_rfl
/-- The cells of the first k spans. -/
def spC (f : Nat → Int × Int) : Nat → List Value
  | 0 => []
  | k + 1 => spC f k ++ [.int .i64 (f k).1, .int .i64 (f k).2]
theorem spC_len (f : Nat → Int × Int) (k : Nat) : (spC f k).length = k * 2 := by
  induction k with
  | zero => rfl
  | succ k ih => simp [spC, ih]; omega
theorem spC_at (f : Nat → Int × Int) {n j : Nat} (hj : j < n) : (spC f n)[j * 2]? = some (.int .i64 (f j).1) ∧ (spC f n)[j * 2 + 1]? = some (.int .i64 (f j).2) := by
  induction n with
  | zero => omega
  | succ n ih =>
    by_cases e : j = n
    · subst e
      constructor
      · rw [spC, List.getElem?_append_right (by rw [spC_len]; omega), spC_len]; simp
      · rw [spC, List.getElem?_append_right (by rw [spC_len]; omega), spC_len, show j * 2 + 1 - j * 2 = 1 by omega]; rfl
    · obtain ⟨h1, h2⟩ := ih (by omega)
      have l := spC_len f n
      constructor
      · rw [spC, List.getElem?_append_left (by omega)]; exact h1
      · rw [spC, List.getElem?_append_left (by omega)]; exact h2
/-- A slice of spans reads as a function. -/
def Spl (w : World) (A : Option Addr) (n : Nat) (f : Nat → Int × Int) : Prop :=
  0 < n → ∃ b off, A = some ⟨b, off, none⟩ ∧ b < w.heap.size ∧ ∀ j, j < n →
    w.cell? ⟨b, off + j * 2, none⟩ = some (.int .i64 (f j).1) ∧ w.cell? ⟨b, off + j * 2 + 1, none⟩ = some (.int .i64 (f j).2)
theorem Spl.below {w w' : World} {A : Option Addr} {n : Nat} {R : Nat → Int × Int} (h : Spl w A n R) (hb : Bl w w') : Spl w' A n R := fun hn => by
  obtain ⟨b, off, e, hlt, hc⟩ := h hn
  exact ⟨b, off, e, Nat.lt_of_lt_of_le hlt hb.size, fun j hj => by
    obtain ⟨c0, c1⟩ := hc j hj
    exact ⟨kcb hb c0, kcb hb c1⟩⟩
theorem spl_of_own {w : World} {base : Nat} {e : TypeId} {v : Value} {n : Nat} {f : Nat → Int × Int} (h : w.ownsRow base e 2 v n (spC f n)) : ∃ A cap, v = .slice A n cap ∧ n ≤ cap ∧ cap ≤ maxLen ∧ Spl w A n f := by
  rcases h.2 with ⟨rfl, rfl⟩ | ⟨g, cap, cur, rfl, hb, hg, hnc, hcm, _⟩
  · exact ⟨none, 0, rfl, Nat.le_refl _, by decide, fun h => absurd h (by omega)⟩
  · refine ⟨some ⟨g, 0, none⟩, cap, rfl, hnc, hcm, fun hn => ⟨g, 0, rfl, (Array.getElem?_eq_some_iff.1 hg).1, fun j hj => ?_⟩⟩
    obtain ⟨h1, h2⟩ := spC_at f hj
    have k1 := h.cellAt (j * 2) (by omega)
    have k2 := h.cellAt (j * 2 + 1) (by omega)
    rw [Nat.zero_add]
    exact ⟨k1.trans h1, k2.trans h2⟩
theorem own_b {w w' : World} {base : Nat} {e : TypeId} {size : Nat} {v : Value} {n : Nat} {xs : List Value} (h : w.ownsRow base e size v n xs) (hb : Bl w w') : w'.ownsRow base e size v n xs := by
  have hg : w.grownBy w' none := ⟨hb.os, hb.tape, hb.output, hb.size, fun i hi _ => hb.block i hi⟩
  refine h.kept hg ?_
  cases hv : v.ownBlock with
  | none => exact .inl rfl
  | some k => exact .inr (by simp)
/-- The boxes of the air and of a place. -/
structure Tb (w X : World) (a : Air) (p : Pt) : Prop where
  a0 : X.cell? ⟨w.heap.size, 0, none⟩ = some (.int .i64 a.s)
  a1 : X.cell? ⟨w.heap.size, 1, none⟩ = some (.int .i64 a.w)
  p0 : X.cell? ⟨w.heap.size + 1, 0, none⟩ = some (.int .i64 p.x)
  p1 : X.cell? ⟨w.heap.size + 1, 1, none⟩ = some (.int .i64 p.y)
theorem Tb.below {w X X' : World} {a : Air} {p : Pt} {b : Nat} (h : Tb w X a p) (hb : Below b X X') (hl : w.heap.size + 1 < b) : Tb w X' a p := by
  obtain ⟨h0, h1, h2, h3⟩ := h
  exact ⟨(hb.cell (p := ⟨_, _, none⟩) (show w.heap.size < b by omega)).trans h0, (hb.cell (p := ⟨_, _, none⟩) (show w.heap.size < b by omega)).trans h1, (hb.cell (p := ⟨_, _, none⟩) hl).trans h2, (hb.cell (p := ⟨_, _, none⟩) hl).trans h3⟩
theorem Tb.bl {w X X' : World} {a : Air} {p : Pt} (h : Tb w X a p) (hb : Bl X X') : Tb w X' a p :=
  ⟨kcb hb h.a0, kcb hb h.a1, kcb hb h.p0, kcb hb h.p1⟩
def tabOk (p : Pt) (T : Nat → Pt) (n : Nat) : Prop := isP p ∧ n ≤ 100 ∧ allP T n
instance (p : Pt) (T : Nat → Pt) (n : Nat) : Decidable (tabOk p T n) := by unfold tabOk; infer_instance
/-- What Table returns. -/
def TabPost (a : Air) (p : Pt) (T : Nat → Pt) (n : Nat) (w : World) (e : Ending) (w' : World) : Prop :=
  Bl w w' ∧ ((VA a ∧ tabOk p T n ∧ ∃ A cap, e = .returned (.tuple #[.slice A n cap, .int .i64 0]) ∧ n ≤ cap ∧ cap ≤ maxLen ∧ Spl w' A n (fun j => lagP a p (T j))) ∨
    (VA a ∧ ¬ tabOk p T n ∧ e = .returned (.tuple #[.slice none 0 0, .int .i64 7])) ∨
    (¬ VA a ∧ e = .returned (.tuple #[.slice none 0 0, .int .i64 1])))
theorem tab_some {a : Air} {p : Pt} {T : Nat → Pt} {n base : Nat} {w w' : World} {v : Value} (ha : VA a) (hk : tabOk p T n) (ho : w'.ownsRow base 37 2 v n (spC (fun j => lagP a p (T j)) n)) (hb : Bl w w') : TabPost a p T n w (.returned (.tuple #[v, .int .i64 0])) w' := by
  obtain ⟨A, cap, rfl, h1, h2, h3⟩ := spl_of_own ho
  exact ⟨hb, .inl ⟨ha, hk, A, cap, rfl, h1, h2, h3⟩⟩

set_option maxRecDepth 100000 in
set_option maxHeartbeats 6400000 in
theorem Table_any (a : Air) (p : Pt) (A : Option Addr) (n c : Nat) (T : Nat → Pt) (w : World) (hA : Pl w A n T) (hn : n ≤ maxLen) :
    Calls Try.prog 43 #[encA a, encP p, .slice A n c] w (TabPost a p T n w) := by
  obtain ⟨i0, hi0, hz0, hz1, hz2⟩ := info_parts span_info
  have HI := Lib.hid (And.intro hi0 (And.intro hz0 (And.intro hz1 hz2)))
  clear hi0 hz0 hz1 hz2
  have HA := Lib.hid hA
  have HN := Lib.hid hn
  clear hA
  unfold maxLen at hn
  by_cases ha : VA a
  · have Q0 := Lib.hid (show decide (VA a) = true from decide_eq_true ha)
    have HAA := Lib.hid ha
    clear ha
    by_cases hp : isP p
    · have Q1 := Lib.hid (show decide (allP (fun _ => p) 1) = true from decide_eq_true (allP_one.2 hp))
      have HP := Lib.hid hp
      clear hp
      by_cases h100 : n ≤ 100
      · by_cases hT : allP T n
        · have Q2 := Lib.hid (show decide (allP T n) = true from decide_eq_true hT)
          have HTT := Lib.hid hT
          clear hT
          go_enter Try.func43, Try.ntmps43
          go_wp2_with fail
          refine (validAir_any a _).mono ?_
          rintro q1 w1 ⟨rfl, hb⟩
          have xa0 := kcb hb (b := w.heap.size) (o := 0) (v := .int .i64 a.s) (by first | assumption | (refine cellUp ?_; assumption) | go_cell)
          have xa1 := kcb hb (b := w.heap.size) (o := 1) (v := .int .i64 a.w) (by first | assumption | (refine cellUp ?_; assumption) | go_cell)
          have xp0 := kcb hb (b := w.heap.size + 1) (o := 0) (v := .int .i64 p.x) (by first | assumption | (refine cellUp ?_; assumption) | go_cell)
          have xp1 := kcb hb (b := w.heap.size + 1) (o := 1) (v := .int .i64 p.y) (by first | assumption | (refine cellUp ?_; assumption) | go_cell)
          have B1 : Bl w w1 := Below.trans (by go_grown) (hb.mono (by (try simp only [World.size_alloc, World.size_setCell]); omega))
          have l1 := ltb xp1
          have l1_1 := ltb xa1
          have zz1 := B1.size
          clear hb
          rw [Q0.out]
          go_wp2_with fail
          refine (arePl_any _ 1 1 (fun _ => p) _ (pl_one (by go_cell) (by go_cell)) (by unfold maxLen; omega)).mono ?_
          rintro q2 w2 ⟨rfl, hb⟩
          have xa0 := kcb hb (b := w.heap.size) (o := 0) (v := .int .i64 a.s) (by first | assumption | (refine cellUp ?_; assumption) | go_cell)
          have xa1 := kcb hb (b := w.heap.size) (o := 1) (v := .int .i64 a.w) (by first | assumption | (refine cellUp ?_; assumption) | go_cell)
          have xp0 := kcb hb (b := w.heap.size + 1) (o := 0) (v := .int .i64 p.x) (by first | assumption | (refine cellUp ?_; assumption) | go_cell)
          have xp1 := kcb hb (b := w.heap.size + 1) (o := 1) (v := .int .i64 p.y) (by first | assumption | (refine cellUp ?_; assumption) | go_cell)
          have B2 : Bl w w2 := Below.trans (by go_grown) (hb.mono (by (try simp only [World.size_alloc, World.size_setCell]); omega))
          have l2 := ltb xp1
          have l2_1 := ltb xa1
          have zz2 := B2.size
          clear hb
          rw [Q1.out]
          go_wp2_with fail
          refine (arePl_any A n c T _ (HA.out.below (by exact B2)) HN.out).mono ?_
          rintro q3 w3 ⟨rfl, hb⟩
          have xa0 := kcb hb (b := w.heap.size) (o := 0) (v := .int .i64 a.s) (by first | assumption | (refine cellUp ?_; assumption) | go_cell)
          have xa1 := kcb hb (b := w.heap.size) (o := 1) (v := .int .i64 a.w) (by first | assumption | (refine cellUp ?_; assumption) | go_cell)
          have xp0 := kcb hb (b := w.heap.size + 1) (o := 0) (v := .int .i64 p.x) (by first | assumption | (refine cellUp ?_; assumption) | go_cell)
          have xp1 := kcb hb (b := w.heap.size + 1) (o := 1) (v := .int .i64 p.y) (by first | assumption | (refine cellUp ?_; assumption) | go_cell)
          have B3 : Bl w w3 := Below.trans (by go_grown) (hb.mono (by (try simp only [World.size_alloc, World.size_setCell]); omega))
          have l3 := ltb xp1
          have l3_1 := ltb xa1
          have zz3 := B3.size
          clear hb
          rw [Q2.out]
          go_wp2_with fail
          obtain ⟨V, hV⟩ : ∃ V, V = w3 := ⟨_, rfl⟩
          rw [← hV]
          have TV : Tb w V a p := by rw [hV]; exact ⟨xa0, xa1, xp0, xp1⟩
          have BV : Bl w V := by rw [hV]; exact B3
          have NV : World.ownsRow V (w.heap.size + 2) 37 2 (.slice none 0 0) 0 [] := World.ownsRow_nil _ _ _ _
          clear hV
          go_loopw [8, 30] (fun v i wr => ∃ k : Nat, k ≤ n ∧ i = .int .i64 k ∧ Hid (wr.ownsRow (w.heap.size + 2) 37 2 v k (spC (fun j => lagP a p (T j)) k)) ∧ Hid (Tb w wr a p) ∧ Bl w wr) (fun _ i _ => n - (RowKit.intOf i).toNat)
          case atStart => exact ⟨0, by omega, rfl, NV, TV, BV⟩
          case round =>
            obtain ⟨k, hk, rfl, HO, HT, hB⟩ := hrel
            have zB := hB.size
            obtain ⟨ca0, ca1, cp0, cp1⟩ := HT.out
            have la := ltb ca0
            have lp := ltb cp0
            by_cases hlt : k < n
            · obtain ⟨b, off, rfl, hbb, hc⟩ := (HA.out.below hB) (by omega)
              obtain ⟨c0, c1⟩ := hc k hlt
              clear hc
              obtain ⟨y, hy⟩ : ∃ y, y = T k := ⟨_, rfl⟩
              rw [← hy] at c0 c1
              have hyP : isP y := by rw [hy]; exact HTT.out k hlt
              have HY := Lib.hid hyP
              obtain ⟨u, v, huv⟩ : ∃ u v, lagP a p y = (u, v) := ⟨_, _, rfl⟩
              have HUV := Lib.hid huv
              clear hyP
              have HL := Lib.hid (show spC (fun j => lagP a p (T j)) (k + 1) = spC (fun j => lagP a p (T j)) k ++ [.int .i64 u, .int .i64 v] by rw [spC]; simp only [← hy, huv])
              have len := spC_len (fun j => lagP a p (T j)) k
              clear hy huv
              go_wp2_with fail
              refine (lagOf_any a p y _ HAA.out HP.out HY.out).mono ?_
              rintro q4 w4 ⟨rfl, hb⟩
              rw [HUV.out]
              have X4 : Bl wr w4 := Below.trans (by go_grown) (hb.mono (by (try simp only [World.size_alloc, World.size_setCell]); omega))
              have z4 := X4.size
              have HO4 := Lib.hid (own_b HO.out X4)
              have B4 := hB.tr X4
              have HT4 := Lib.hid (HT.out.bl X4)
              clear hb
              have hnew := Lib.hid (show (w4.alloc (.cells #[.int .i64 u, .int .i64 v] 37)).heap[w4.heap.size]? = some (.cells #[.int .i64 u, .int .i64 v] 37 (0, 0)) from heap_alloc_new w4 _)
              go_wp2_with (at_builtin; refine wpList_append_lies _ rfl _ _ _ rfl (w.heap.size + 2) 37 i0 _ 2 16 Try.underlying62 HI.out.1 HI.out.2.1 HI.out.2.2.1 HI.out.2.2.2 rfl (by omega) _ k (spC (fun j => lagP a p (T j)) k) rfl (HO4.out.alloc _) ⟨w4.heap.size, 0, none⟩ 1 1 [.int .i64 u, .int .i64 v] rfl rfl (World.news_of_block hnew.out) (by simp [Value.oneCell']) (by omega) (by unfold maxLen; omega) (by omega) (by (try simp only [World.size_alloc]); omega) _ rfl ?_; intro gg cap w9 hown1 hgrow hat hlt9)
              have HO9 := Lib.hid (show w9.ownsRow (w.heap.size + 2) 37 2 (.slice (some ⟨gg, 0, none⟩) (k + 1) cap) (k + 1) (spC (fun j => lagP a p (T j)) (k + 1)) by
                rw [HL.out]; exact hown1)
              have hl := HO.out.lt
              have X9 : Below (w.heap.size + 2) w4 w9 := Below.grown (w := w4.alloc (.cells #[.int .i64 u, .int .i64 v] 37)) (by go_grown) hgrow (by (try simp only [World.size_alloc]); omega) (fun j hj => (hl j hj).1)
              go_roundw
              case rel => exact ⟨k + 1, by omega, by go_num, HO9.out, HT4.out.below X9 (by omega), Below.trans B4 (X9.mono (by omega))⟩
              case measure => simp [RowKit.intOf]; omega
            · obtain rfl : n = k := by omega
              go_wp2_with fail
              go_ret2
              exact tab_some HAA.out ⟨HP.out, h100, HTT.out⟩ HO.out hB
        · have Q2 := Lib.hid (show decide (allP T n) = false from decide_eq_false hT)
          have HX := Lib.hid (show ¬ tabOk p T n from fun g => hT g.2.2)
          clear hT
          go_enter Try.func43, Try.ntmps43
          go_wp2_with fail
          refine (validAir_any a _).mono ?_
          rintro q1 w1 ⟨rfl, hb⟩
          have xa0 := kcb hb (b := w.heap.size) (o := 0) (v := .int .i64 a.s) (by first | assumption | (refine cellUp ?_; assumption) | go_cell)
          have xa1 := kcb hb (b := w.heap.size) (o := 1) (v := .int .i64 a.w) (by first | assumption | (refine cellUp ?_; assumption) | go_cell)
          have xp0 := kcb hb (b := w.heap.size + 1) (o := 0) (v := .int .i64 p.x) (by first | assumption | (refine cellUp ?_; assumption) | go_cell)
          have xp1 := kcb hb (b := w.heap.size + 1) (o := 1) (v := .int .i64 p.y) (by first | assumption | (refine cellUp ?_; assumption) | go_cell)
          have B1 : Bl w w1 := Below.trans (by go_grown) (hb.mono (by (try simp only [World.size_alloc, World.size_setCell]); omega))
          have l1 := ltb xp1
          have l1_1 := ltb xa1
          have zz1 := B1.size
          clear hb
          rw [Q0.out]
          go_wp2_with fail
          refine (arePl_any _ 1 1 (fun _ => p) _ (pl_one (by go_cell) (by go_cell)) (by unfold maxLen; omega)).mono ?_
          rintro q2 w2 ⟨rfl, hb⟩
          have xa0 := kcb hb (b := w.heap.size) (o := 0) (v := .int .i64 a.s) (by first | assumption | (refine cellUp ?_; assumption) | go_cell)
          have xa1 := kcb hb (b := w.heap.size) (o := 1) (v := .int .i64 a.w) (by first | assumption | (refine cellUp ?_; assumption) | go_cell)
          have xp0 := kcb hb (b := w.heap.size + 1) (o := 0) (v := .int .i64 p.x) (by first | assumption | (refine cellUp ?_; assumption) | go_cell)
          have xp1 := kcb hb (b := w.heap.size + 1) (o := 1) (v := .int .i64 p.y) (by first | assumption | (refine cellUp ?_; assumption) | go_cell)
          have B2 : Bl w w2 := Below.trans (by go_grown) (hb.mono (by (try simp only [World.size_alloc, World.size_setCell]); omega))
          have l2 := ltb xp1
          have l2_1 := ltb xa1
          have zz2 := B2.size
          clear hb
          rw [Q1.out]
          go_wp2_with fail
          refine (arePl_any A n c T _ (HA.out.below (by exact B2)) HN.out).mono ?_
          rintro q3 w3 ⟨rfl, hb⟩
          have xa0 := kcb hb (b := w.heap.size) (o := 0) (v := .int .i64 a.s) (by first | assumption | (refine cellUp ?_; assumption) | go_cell)
          have xa1 := kcb hb (b := w.heap.size) (o := 1) (v := .int .i64 a.w) (by first | assumption | (refine cellUp ?_; assumption) | go_cell)
          have xp0 := kcb hb (b := w.heap.size + 1) (o := 0) (v := .int .i64 p.x) (by first | assumption | (refine cellUp ?_; assumption) | go_cell)
          have xp1 := kcb hb (b := w.heap.size + 1) (o := 1) (v := .int .i64 p.y) (by first | assumption | (refine cellUp ?_; assumption) | go_cell)
          have B3 : Bl w w3 := Below.trans (by go_grown) (hb.mono (by (try simp only [World.size_alloc, World.size_setCell]); omega))
          have l3 := ltb xp1
          have l3_1 := ltb xa1
          have zz3 := B3.size
          clear hb
          rw [Q2.out]
          go_wp2_with fail
          go_ret2
          exact ⟨by go_grown, .inr (.inl ⟨HAA.out, HX.out, rfl⟩)⟩
      · have HX := Lib.hid (show ¬ tabOk p T n from fun g => h100 g.2.1)
        go_enter Try.func43, Try.ntmps43
        go_wp2_with fail
        refine (validAir_any a _).mono ?_
        rintro q1 w1 ⟨rfl, hb⟩
        have xa0 := kcb hb (b := w.heap.size) (o := 0) (v := .int .i64 a.s) (by first | assumption | (refine cellUp ?_; assumption) | go_cell)
        have xa1 := kcb hb (b := w.heap.size) (o := 1) (v := .int .i64 a.w) (by first | assumption | (refine cellUp ?_; assumption) | go_cell)
        have xp0 := kcb hb (b := w.heap.size + 1) (o := 0) (v := .int .i64 p.x) (by first | assumption | (refine cellUp ?_; assumption) | go_cell)
        have xp1 := kcb hb (b := w.heap.size + 1) (o := 1) (v := .int .i64 p.y) (by first | assumption | (refine cellUp ?_; assumption) | go_cell)
        have B1 : Bl w w1 := Below.trans (by go_grown) (hb.mono (by (try simp only [World.size_alloc, World.size_setCell]); omega))
        have l1 := ltb xp1
        have l1_1 := ltb xa1
        have zz1 := B1.size
        clear hb
        rw [Q0.out]
        go_wp2_with fail
        refine (arePl_any _ 1 1 (fun _ => p) _ (pl_one (by go_cell) (by go_cell)) (by unfold maxLen; omega)).mono ?_
        rintro q2 w2 ⟨rfl, hb⟩
        have xa0 := kcb hb (b := w.heap.size) (o := 0) (v := .int .i64 a.s) (by first | assumption | (refine cellUp ?_; assumption) | go_cell)
        have xa1 := kcb hb (b := w.heap.size) (o := 1) (v := .int .i64 a.w) (by first | assumption | (refine cellUp ?_; assumption) | go_cell)
        have xp0 := kcb hb (b := w.heap.size + 1) (o := 0) (v := .int .i64 p.x) (by first | assumption | (refine cellUp ?_; assumption) | go_cell)
        have xp1 := kcb hb (b := w.heap.size + 1) (o := 1) (v := .int .i64 p.y) (by first | assumption | (refine cellUp ?_; assumption) | go_cell)
        have B2 : Bl w w2 := Below.trans (by go_grown) (hb.mono (by (try simp only [World.size_alloc, World.size_setCell]); omega))
        have l2 := ltb xp1
        have l2_1 := ltb xa1
        have zz2 := B2.size
        clear hb
        rw [Q1.out]
        go_wp2_with fail
        go_ret2
        exact ⟨by go_grown, .inr (.inl ⟨HAA.out, HX.out, rfl⟩)⟩
    · have Q1 := Lib.hid (show decide (allP (fun _ => p) 1) = false from decide_eq_false (fun g => hp (allP_one.1 g)))
      have HX := Lib.hid (show ¬ tabOk p T n from fun g => hp g.1)
      clear hp
      go_enter Try.func43, Try.ntmps43
      go_wp2_with fail
      refine (validAir_any a _).mono ?_
      rintro q1 w1 ⟨rfl, hb⟩
      have xa0 := kcb hb (b := w.heap.size) (o := 0) (v := .int .i64 a.s) (by first | assumption | (refine cellUp ?_; assumption) | go_cell)
      have xa1 := kcb hb (b := w.heap.size) (o := 1) (v := .int .i64 a.w) (by first | assumption | (refine cellUp ?_; assumption) | go_cell)
      have xp0 := kcb hb (b := w.heap.size + 1) (o := 0) (v := .int .i64 p.x) (by first | assumption | (refine cellUp ?_; assumption) | go_cell)
      have xp1 := kcb hb (b := w.heap.size + 1) (o := 1) (v := .int .i64 p.y) (by first | assumption | (refine cellUp ?_; assumption) | go_cell)
      have B1 : Bl w w1 := Below.trans (by go_grown) (hb.mono (by (try simp only [World.size_alloc, World.size_setCell]); omega))
      have l1 := ltb xp1
      have l1_1 := ltb xa1
      have zz1 := B1.size
      clear hb
      rw [Q0.out]
      go_wp2_with fail
      refine (arePl_any _ 1 1 (fun _ => p) _ (pl_one (by go_cell) (by go_cell)) (by unfold maxLen; omega)).mono ?_
      rintro q2 w2 ⟨rfl, hb⟩
      have xa0 := kcb hb (b := w.heap.size) (o := 0) (v := .int .i64 a.s) (by first | assumption | (refine cellUp ?_; assumption) | go_cell)
      have xa1 := kcb hb (b := w.heap.size) (o := 1) (v := .int .i64 a.w) (by first | assumption | (refine cellUp ?_; assumption) | go_cell)
      have xp0 := kcb hb (b := w.heap.size + 1) (o := 0) (v := .int .i64 p.x) (by first | assumption | (refine cellUp ?_; assumption) | go_cell)
      have xp1 := kcb hb (b := w.heap.size + 1) (o := 1) (v := .int .i64 p.y) (by first | assumption | (refine cellUp ?_; assumption) | go_cell)
      have B2 : Bl w w2 := Below.trans (by go_grown) (hb.mono (by (try simp only [World.size_alloc, World.size_setCell]); omega))
      have l2 := ltb xp1
      have l2_1 := ltb xa1
      have zz2 := B2.size
      clear hb
      rw [Q1.out]
      go_wp2_with fail
      go_ret2
      exact ⟨by go_grown, .inr (.inl ⟨HAA.out, HX.out, rfl⟩)⟩
  · have Q0 := Lib.hid (show decide (VA a) = false from decide_eq_false ha)
    have HX := Lib.hid ha
    clear ha
    go_enter Try.func43, Try.ntmps43
    go_wp2_with fail
    refine (validAir_any a _).mono ?_
    rintro q1 w1 ⟨rfl, hb⟩
    have xa0 := kcb hb (b := w.heap.size) (o := 0) (v := .int .i64 a.s) (by first | assumption | (refine cellUp ?_; assumption) | go_cell)
    have xa1 := kcb hb (b := w.heap.size) (o := 1) (v := .int .i64 a.w) (by first | assumption | (refine cellUp ?_; assumption) | go_cell)
    have xp0 := kcb hb (b := w.heap.size + 1) (o := 0) (v := .int .i64 p.x) (by first | assumption | (refine cellUp ?_; assumption) | go_cell)
    have xp1 := kcb hb (b := w.heap.size + 1) (o := 1) (v := .int .i64 p.y) (by first | assumption | (refine cellUp ?_; assumption) | go_cell)
    have B1 : Bl w w1 := Below.trans (by go_grown) (hb.mono (by (try simp only [World.size_alloc, World.size_setCell]); omega))
    have l1 := ltb xp1
    have l1_1 := ltb xa1
    have zz1 := B1.size
    clear hb
    rw [Q0.out]
    go_wp2_with fail
    go_ret2
    exact ⟨by go_grown, .inr (.inr ⟨HX.out, rfl⟩)⟩

set_option maxRecDepth 100000 in
set_option maxHeartbeats 6400000 in
theorem rTable_any (a : Air) (p : Pt) (A : Option Addr) (n c : Nat) (T : Nat → Pt) (w : World) (hA : Pl w A n T) (hn : n ≤ maxLen) :
    Calls Try.prog 44 #[encA a, encP p, .slice A n c] w (TabPost a p T n w) := by
  obtain ⟨i0, hi0, hz0, hz1, hz2⟩ := info_parts span_info
  have HI := Lib.hid (And.intro hi0 (And.intro hz0 (And.intro hz1 hz2)))
  clear hi0 hz0 hz1 hz2
  have HA := Lib.hid hA
  have HN := Lib.hid hn
  clear hA
  unfold maxLen at hn
  by_cases ha : VA a
  · have Q0 := Lib.hid (show decide (VA a) = true from decide_eq_true ha)
    have HAA := Lib.hid ha
    clear ha
    by_cases hp : isP p
    · have Q1 := Lib.hid (show decide (isP p) = true from decide_eq_true hp)
      have HP := Lib.hid hp
      clear hp
      by_cases h100 : n ≤ 100
      · skip
        go_enter Try.func44, Try.ntmps44
        go_wp2_with fail
        refine (rvalidAir_any a _).mono ?_
        rintro q1 w1 ⟨rfl, hb⟩
        have xa0 := kcb hb (b := w.heap.size) (o := 0) (v := .int .i64 a.s) (by first | assumption | (refine cellUp ?_; assumption) | go_cell)
        have xa1 := kcb hb (b := w.heap.size) (o := 1) (v := .int .i64 a.w) (by first | assumption | (refine cellUp ?_; assumption) | go_cell)
        have xp0 := kcb hb (b := w.heap.size + 1) (o := 0) (v := .int .i64 p.x) (by first | assumption | (refine cellUp ?_; assumption) | go_cell)
        have xp1 := kcb hb (b := w.heap.size + 1) (o := 1) (v := .int .i64 p.y) (by first | assumption | (refine cellUp ?_; assumption) | go_cell)
        have B1 : Bl w w1 := Below.trans (by go_grown) (hb.mono (by (try simp only [World.size_alloc, World.size_setCell]); omega))
        have l1 := ltb xp1
        have l1_1 := ltb xa1
        have zz1 := B1.size
        clear hb
        rw [Q0.out]
        go_wp2_with fail
        refine (place5_any p _).mono ?_
        rintro q2 w2 ⟨rfl, hb⟩
        have xa0 := kcb hb (b := w.heap.size) (o := 0) (v := .int .i64 a.s) (by first | assumption | (refine cellUp ?_; assumption) | go_cell)
        have xa1 := kcb hb (b := w.heap.size) (o := 1) (v := .int .i64 a.w) (by first | assumption | (refine cellUp ?_; assumption) | go_cell)
        have xp0 := kcb hb (b := w.heap.size + 1) (o := 0) (v := .int .i64 p.x) (by first | assumption | (refine cellUp ?_; assumption) | go_cell)
        have xp1 := kcb hb (b := w.heap.size + 1) (o := 1) (v := .int .i64 p.y) (by first | assumption | (refine cellUp ?_; assumption) | go_cell)
        have B2 : Bl w w2 := Below.trans (by go_grown) (hb.mono (by (try simp only [World.size_alloc, World.size_setCell]); omega))
        have l2 := ltb xp1
        have l2_1 := ltb xa1
        have zz2 := B2.size
        clear hb
        rw [Q1.out]
        go_wp2_with fail
        obtain ⟨V, hV⟩ : ∃ V, V = w2 := ⟨_, rfl⟩
        rw [← hV]
        have TV : Tb w V a p := by rw [hV]; exact ⟨xa0, xa1, xp0, xp1⟩
        have BV : Bl w V := by rw [hV]; exact B2
        have NV : World.ownsRow V (w.heap.size + 2) 37 2 (.slice none 0 0) 0 [] := World.ownsRow_nil _ _ _ _
        clear hV
        go_loopw [8, 24] (fun v i wr => ∃ k : Nat, k ≤ n ∧ i = .int .i64 k ∧ Hid (wr.ownsRow (w.heap.size + 2) 37 2 v k (spC (fun j => lagP a p (T j)) k)) ∧ Hid (Tb w wr a p) ∧ Hid (∀ j, j < k → isP (T j)) ∧ Bl w wr) (fun _ i _ => n - (RowKit.intOf i).toNat)
        case atStart => exact ⟨0, by omega, rfl, NV, TV, fun j hj => absurd hj (by omega), BV⟩
        case round =>
          obtain ⟨k, hk, rfl, HO, HT, HG, hB⟩ := hrel
          have zB := hB.size
          obtain ⟨ca0, ca1, cp0, cp1⟩ := HT.out
          have la := ltb ca0
          have lp := ltb cp0
          by_cases hlt : k < n
          · obtain ⟨b, off, rfl, hbb, hc⟩ := (HA.out.below hB) (by omega)
            obtain ⟨c0, c1⟩ := hc k hlt
            clear hc
            obtain ⟨y, hy⟩ : ∃ y, y = T k := ⟨_, rfl⟩
            rw [← hy] at c0 c1
            by_cases hyP : isP y
            · have QY := Lib.hid (show decide (isP y) = true from decide_eq_true hyP)
              have HY := Lib.hid hyP
              have HG1 := Lib.hid (show ∀ j, j < k + 1 → isP (T j) from fun j hj => by
                by_cases e : j = k
                · rw [e, ← hy]; exact hyP
                · exact HG.out j (by omega))
              obtain ⟨u, v, huv⟩ : ∃ u v, lagP a p y = (u, v) := ⟨_, _, rfl⟩
              have HUV := Lib.hid huv
              clear hyP
              have HL := Lib.hid (show spC (fun j => lagP a p (T j)) (k + 1) = spC (fun j => lagP a p (T j)) k ++ [.int .i64 u, .int .i64 v] by rw [spC]; simp only [← hy, huv])
              have len := spC_len (fun j => lagP a p (T j)) k
              clear hy huv
              go_wp2_with fail
              refine (place5_any y _).mono ?_
              rintro q3 w3 ⟨rfl, hb⟩
              rw [QY.out]
              have X3 : Bl wr w3 := Below.trans (by go_grown) (hb.mono (by (try simp only [World.size_alloc, World.size_setCell]); omega))
              have z3 := X3.size
              have ca0 := kcb X3 ca0
              have ca1 := kcb X3 ca1
              have cp0 := kcb X3 cp0
              have cp1 := kcb X3 cp1
              have cy0 := kcb hb (b := wr.heap.size) (o := 0) (v := .int .i64 y.x) (by go_cell)
              have cy1 := kcb hb (b := wr.heap.size) (o := 1) (v := .int .i64 y.y) (by go_cell)
              have ly := ltb cy0
              have la3 := ltb ca0
              have lp3 := ltb cp0
              clear hb
              go_wp2_with fail
              refine (lag5_any a p y _ HAA.out HP.out HY.out).mono ?_
              rintro q4 w4 ⟨rfl, hb⟩
              rw [HUV.out]
              have X4 : Bl wr w4 := X3.tr (by first | exact hb | exact Below.trans (by go_grown) (hb.mono (by (try simp only [World.size_alloc, World.size_setCell]); omega)))
              have z4 := X4.size
              have HO4 := Lib.hid (own_b HO.out X4)
              have B4 := hB.tr X4
              have HT4 := Lib.hid (HT.out.bl X4)
              clear hb
              have hnew := Lib.hid (show (w4.alloc (.cells #[.int .i64 u, .int .i64 v] 37)).heap[w4.heap.size]? = some (.cells #[.int .i64 u, .int .i64 v] 37 (0, 0)) from heap_alloc_new w4 _)
              go_wp2_with (at_builtin; refine wpList_append_lies _ rfl _ _ _ rfl (w.heap.size + 2) 37 i0 _ 2 16 Try.underlying62 HI.out.1 HI.out.2.1 HI.out.2.2.1 HI.out.2.2.2 rfl (by omega) _ k (spC (fun j => lagP a p (T j)) k) rfl (HO4.out.alloc _) ⟨w4.heap.size, 0, none⟩ 1 1 [.int .i64 u, .int .i64 v] rfl rfl (World.news_of_block hnew.out) (by simp [Value.oneCell']) (by omega) (by unfold maxLen; omega) (by omega) (by (try simp only [World.size_alloc]); omega) _ rfl ?_; intro gg cap w9 hown1 hgrow hat hlt9)
              have HO9 := Lib.hid (show w9.ownsRow (w.heap.size + 2) 37 2 (.slice (some ⟨gg, 0, none⟩) (k + 1) cap) (k + 1) (spC (fun j => lagP a p (T j)) (k + 1)) by
                rw [HL.out]; exact hown1)
              have hl := HO.out.lt
              have X9 : Below (w.heap.size + 2) w4 w9 := Below.grown (w := w4.alloc (.cells #[.int .i64 u, .int .i64 v] 37)) (by go_grown) hgrow (by (try simp only [World.size_alloc]); omega) (fun j hj => (hl j hj).1)
              go_roundw
              case rel => exact ⟨k + 1, by omega, by go_num, HO9.out, HT4.out.below X9 (by omega), HG1.out, Below.trans B4 (X9.mono (by omega))⟩
              case measure => simp [RowKit.intOf]; omega
            · have QY := Lib.hid (show decide (isP y) = false from decide_eq_false hyP)
              have HX := Lib.hid (show ¬ tabOk p T n from fun g => hyP (by rw [hy]; exact g.2.2 k hlt))
              clear hyP hy
              go_wp2_with fail
              refine (place5_any y _).mono ?_
              rintro q3 w3 ⟨rfl, hb⟩
              rw [QY.out]
              have X3 : Bl wr w3 := Below.trans (by go_grown) (hb.mono (by (try simp only [World.size_alloc, World.size_setCell]); omega))
              clear hb
              go_wp2_with fail
              go_ret2
              exact ⟨hB.tr X3, .inr (.inl ⟨HAA.out, HX.out, rfl⟩)⟩
          · obtain rfl : n = k := by omega
            go_wp2_with fail
            go_ret2
            exact tab_some HAA.out ⟨HP.out, h100, HG.out⟩ HO.out hB
      · have HX := Lib.hid (show ¬ tabOk p T n from fun g => h100 g.2.1)
        go_enter Try.func44, Try.ntmps44
        go_wp2_with fail
        refine (rvalidAir_any a _).mono ?_
        rintro q1 w1 ⟨rfl, hb⟩
        have xa0 := kcb hb (b := w.heap.size) (o := 0) (v := .int .i64 a.s) (by first | assumption | (refine cellUp ?_; assumption) | go_cell)
        have xa1 := kcb hb (b := w.heap.size) (o := 1) (v := .int .i64 a.w) (by first | assumption | (refine cellUp ?_; assumption) | go_cell)
        have xp0 := kcb hb (b := w.heap.size + 1) (o := 0) (v := .int .i64 p.x) (by first | assumption | (refine cellUp ?_; assumption) | go_cell)
        have xp1 := kcb hb (b := w.heap.size + 1) (o := 1) (v := .int .i64 p.y) (by first | assumption | (refine cellUp ?_; assumption) | go_cell)
        have B1 : Bl w w1 := Below.trans (by go_grown) (hb.mono (by (try simp only [World.size_alloc, World.size_setCell]); omega))
        have l1 := ltb xp1
        have l1_1 := ltb xa1
        have zz1 := B1.size
        clear hb
        rw [Q0.out]
        go_wp2_with fail
        refine (place5_any p _).mono ?_
        rintro q2 w2 ⟨rfl, hb⟩
        have xa0 := kcb hb (b := w.heap.size) (o := 0) (v := .int .i64 a.s) (by first | assumption | (refine cellUp ?_; assumption) | go_cell)
        have xa1 := kcb hb (b := w.heap.size) (o := 1) (v := .int .i64 a.w) (by first | assumption | (refine cellUp ?_; assumption) | go_cell)
        have xp0 := kcb hb (b := w.heap.size + 1) (o := 0) (v := .int .i64 p.x) (by first | assumption | (refine cellUp ?_; assumption) | go_cell)
        have xp1 := kcb hb (b := w.heap.size + 1) (o := 1) (v := .int .i64 p.y) (by first | assumption | (refine cellUp ?_; assumption) | go_cell)
        have B2 : Bl w w2 := Below.trans (by go_grown) (hb.mono (by (try simp only [World.size_alloc, World.size_setCell]); omega))
        have l2 := ltb xp1
        have l2_1 := ltb xa1
        have zz2 := B2.size
        clear hb
        rw [Q1.out]
        go_wp2_with fail
        go_ret2
        exact ⟨by go_grown, .inr (.inl ⟨HAA.out, HX.out, rfl⟩)⟩
    · have Q1 := Lib.hid (show decide (isP p) = false from decide_eq_false hp)
      have HX := Lib.hid (show ¬ tabOk p T n from fun g => hp g.1)
      clear hp
      go_enter Try.func44, Try.ntmps44
      go_wp2_with fail
      refine (rvalidAir_any a _).mono ?_
      rintro q1 w1 ⟨rfl, hb⟩
      have xa0 := kcb hb (b := w.heap.size) (o := 0) (v := .int .i64 a.s) (by first | assumption | (refine cellUp ?_; assumption) | go_cell)
      have xa1 := kcb hb (b := w.heap.size) (o := 1) (v := .int .i64 a.w) (by first | assumption | (refine cellUp ?_; assumption) | go_cell)
      have xp0 := kcb hb (b := w.heap.size + 1) (o := 0) (v := .int .i64 p.x) (by first | assumption | (refine cellUp ?_; assumption) | go_cell)
      have xp1 := kcb hb (b := w.heap.size + 1) (o := 1) (v := .int .i64 p.y) (by first | assumption | (refine cellUp ?_; assumption) | go_cell)
      have B1 : Bl w w1 := Below.trans (by go_grown) (hb.mono (by (try simp only [World.size_alloc, World.size_setCell]); omega))
      have l1 := ltb xp1
      have l1_1 := ltb xa1
      have zz1 := B1.size
      clear hb
      rw [Q0.out]
      go_wp2_with fail
      refine (place5_any p _).mono ?_
      rintro q2 w2 ⟨rfl, hb⟩
      have xa0 := kcb hb (b := w.heap.size) (o := 0) (v := .int .i64 a.s) (by first | assumption | (refine cellUp ?_; assumption) | go_cell)
      have xa1 := kcb hb (b := w.heap.size) (o := 1) (v := .int .i64 a.w) (by first | assumption | (refine cellUp ?_; assumption) | go_cell)
      have xp0 := kcb hb (b := w.heap.size + 1) (o := 0) (v := .int .i64 p.x) (by first | assumption | (refine cellUp ?_; assumption) | go_cell)
      have xp1 := kcb hb (b := w.heap.size + 1) (o := 1) (v := .int .i64 p.y) (by first | assumption | (refine cellUp ?_; assumption) | go_cell)
      have B2 : Bl w w2 := Below.trans (by go_grown) (hb.mono (by (try simp only [World.size_alloc, World.size_setCell]); omega))
      have l2 := ltb xp1
      have l2_1 := ltb xa1
      have zz2 := B2.size
      clear hb
      rw [Q1.out]
      go_wp2_with fail
      go_ret2
      exact ⟨by go_grown, .inr (.inl ⟨HAA.out, HX.out, rfl⟩)⟩
  · have Q0 := Lib.hid (show decide (VA a) = false from decide_eq_false ha)
    have HX := Lib.hid ha
    clear ha
    go_enter Try.func44, Try.ntmps44
    go_wp2_with fail
    refine (rvalidAir_any a _).mono ?_
    rintro q1 w1 ⟨rfl, hb⟩
    have xa0 := kcb hb (b := w.heap.size) (o := 0) (v := .int .i64 a.s) (by first | assumption | (refine cellUp ?_; assumption) | go_cell)
    have xa1 := kcb hb (b := w.heap.size) (o := 1) (v := .int .i64 a.w) (by first | assumption | (refine cellUp ?_; assumption) | go_cell)
    have xp0 := kcb hb (b := w.heap.size + 1) (o := 0) (v := .int .i64 p.x) (by first | assumption | (refine cellUp ?_; assumption) | go_cell)
    have xp1 := kcb hb (b := w.heap.size + 1) (o := 1) (v := .int .i64 p.y) (by first | assumption | (refine cellUp ?_; assumption) | go_cell)
    have B1 : Bl w w1 := Below.trans (by go_grown) (hb.mono (by (try simp only [World.size_alloc, World.size_setCell]); omega))
    have l1 := ltb xp1
    have l1_1 := ltb xa1
    have zz1 := B1.size
    clear hb
    rw [Q0.out]
    go_wp2_with fail
    go_ret2
    exact ⟨by go_grown, .inr (.inr ⟨HX.out, rfl⟩)⟩
end Go.Proofs.Ytangijdonkkglaa
