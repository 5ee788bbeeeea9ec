/-
  Package sight: the cells of sights, clones of a net.
-/
import Derived.Test.YtchikfegpoonjaaPY
import Derived.Test.YtchikfegpoonjaaShelf
import Derived.Deep.OwnRows
import Derived.Deep.AppendLies
import Derived.Laws.OwnMore
namespace Go.Proofs.Ytchikfegpoonjaa
open Go.RowKit Go.Maps
set_option linter.unusedSimpArgs false
set_option linter.unusedVariables false

theorem info_partsU {P : Program} {t : TypeId} {z : Value} {n b : Nat} (h : (P.info? t).map (fun i => (i.zero, i.size, i.bytes)) = some (some z, n, b)) : ∃ i, P.info? t = some i ∧ i.zero = some z ∧ i.size = n ∧ i.bytes = b := by
  cases hi : P.info? t with
  | none => rw [hi] at h; cases h
  | some i =>
    rw [hi] at h
    simp only [Option.map_some, Option.some.injEq, Prod.mk.injEq] at h
    exact ⟨i, rfl, h.1, h.2.1, h.2.2⟩
theorem sgt_info : (Try.prog.info? 23).map (fun i => (i.zero, i.size, i.bytes)) = some (some (.agg #[.int .i64 0, .int .i64 0, .int .i64 0, .int .i64 0, .int .i64 0]), 5, 40) := by kernel_rfl
def cellsG (x : Sgt) : List Value := [.int .i64 x.tm, .int .i64 x.ca, .int .i64 x.cb, .int .i64 x.lo, .int .i64 x.hi]
/-- The cells of the first k sights. -/
def sgC (S : Nat → Sgt) : Nat → List Value
  | 0 => []
  | k + 1 => sgC S k ++ cellsG (S k)
theorem sgC_len (S : Nat → Sgt) (k : Nat) : (sgC S k).length = k * 5 := by
  induction k with
  | zero => rfl
  | succ k ih => simp [sgC, ih, cellsG]; omega
theorem sgC_at (S : Nat → Sgt) {n j i : Nat} (hj : j < n) (hi : i < 5) : (sgC S n)[j * 5 + i]? = (cellsG (S j))[i]? := by
  induction n with
  | zero => omega
  | succ n ih =>
    by_cases e : j = n
    · subst e
      rw [sgC, List.getElem?_append_right (by rw [sgC_len]; omega), sgC_len, show j * 5 + i - j * 5 = i by omega]
    · rw [sgC, List.getElem?_append_left (by rw [sgC_len]; omega)]
      exact ih (by omega)
theorem sgC_congr {f g : Nat → Sgt} {n : Nat} (h : ∀ j, j < n → f j = g j) : sgC f n = sgC g n := by
  induction n with
  | zero => rfl
  | succ n ih => rw [sgC, sgC, ih (fun j hj => h j (by omega)), h n (by omega)]
theorem sgC_one (S : Nat → Sgt) (n : Nat) : ∀ u ∈ sgC S n, u.oneCell' = true := by
  induction n with
  | zero => intro u hu; cases hu
  | succ n ih =>
    intro u hu
    rcases List.mem_append.1 hu with h | h
    · exact ih u h
    · simp only [cellsG, List.mem_cons, List.not_mem_nil, or_false] at h
      rcases h with rfl | rfl | rfl | rfl | rfl <;> rfl
theorem sg_news {w : World} {ad : Addr} {n : Nat} {S : Nat → Sgt} (h : Sgl w (some ad) n S) : ∀ j u, (sgC S n)[j]? = some u → w.cell? (ad.add j) = some u := fun j u hu => by
  have hj : j < n * 5 := by have := (List.getElem?_eq_some_iff.1 hu).1; rwa [sgC_len] at this
  obtain ⟨b', off', e, _, hc⟩ := h (by omega)
  obtain rfl : ad = ⟨b', off', none⟩ := Option.some.inj e
  obtain ⟨c0, c1, c2, c3, c4⟩ := hc (j / 5) (by omega)
  have hd : (sgC S n)[j / 5 * 5 + j % 5]? = (cellsG (S (j / 5)))[j % 5]? := sgC_at S (by omega) (by omega)
  rw [show j / 5 * 5 + j % 5 = j by omega, hu] at hd
  rw [show (⟨b', off', none⟩ : Addr).add j = ⟨b', off' + j, none⟩ by unfold Addr.add; split <;> simp_all]
  rcases (show j % 5 = 0 ∨ j % 5 = 1 ∨ j % 5 = 2 ∨ j % 5 = 3 ∨ j % 5 = 4 by omega) with r | r | r | r | r
  · rw [r] at hd
    rw [show off' + j = off' + j / 5 * 5 by omega, c0]; exact hd.symm
  · rw [r] at hd
    rw [show off' + j = off' + j / 5 * 5 + 1 by omega, c1]; exact hd.symm
  · rw [r] at hd
    rw [show off' + j = off' + j / 5 * 5 + 2 by omega, c2]; exact hd.symm
  · rw [r] at hd
    rw [show off' + j = off' + j / 5 * 5 + 3 by omega, c3]; exact hd.symm
  · rw [r] at hd
    rw [show off' + j = off' + j / 5 * 5 + 4 by omega, c4]; exact hd.symm
theorem sgl_of_own {w : World} {base : Nat} {e : TypeId} {v : Value} {n : Nat} {S : Nat → Sgt} (h : w.ownsRow base e 5 v n (sgC S n)) : ∃ A cap, v = .slice A n cap ∧ n ≤ cap ∧ cap ≤ maxLen ∧ Sgl w A n S := by
  rcases h.2 with ⟨rfl, rfl⟩ | ⟨g, cap, cur, rfl, hb, hg, hnc, hcm, _⟩
  · exact ⟨none, 0, rfl, Nat.le_refl _, by decide, fun h => absurd h (by omega)⟩
  · refine ⟨some ⟨g, 0, none⟩, cap, rfl, hnc, hcm, fun hn => ⟨g, 0, rfl, (Array.getElem?_eq_some_iff.1 hg).1, fun j hj => ?_⟩⟩
    have hat : ∀ i, i < 5 → w.cell? ⟨g, 0 + j * 5 + i, none⟩ = (cellsG (S j))[i]? := fun i hi => by
      rw [Nat.zero_add, h.cellAt (j * 5 + i) (by omega), sgC_at S hj hi]
    exact ⟨hat 0 (by omega), hat 1 (by omega), hat 2 (by omega), hat 3 (by omega), hat 4 (by omega)⟩
theorem own_baseU {w : World} {B B' size n : Nat} {e : TypeId} {v : Value} {xs : List Value} (h : w.ownsRow B' e size v n xs) (hB : B ≤ B') : w.ownsRow B e size v n xs :=
  ⟨h.1, h.2.imp id (fun ⟨g, cap, cur, a, b, c⟩ => ⟨g, cap, cur, a, Nat.le_trans hB b, c⟩)⟩
theorem own_belowU {w w' : World} {base : Nat} {e : TypeId} {size n : Nat} {v : Value} {xs : List Value} (h : w.ownsRow base e size v n xs) (hb : Bl w w') : w'.ownsRow base e size v n xs := row_keptS h (fun g hg => by
  rcases h.2 with ⟨e, _⟩ | ⟨g', cap, cur, e, _, hg', _⟩
  · rw [e] at hg; cases hg
  · rw [e] at hg
    cases hg
    exact hb.block g' (Array.getElem?_eq_some_iff.1 hg').1)
theorem own_farU {w : World} {base b : Nat} {e : TypeId} {size n : Nat} {v : Value} {xs : List Value} (h : w.ownsRow base e size v n xs) (hb : b < base) : some b ≠ v.ownBlock := by
  rcases h.2 with ⟨rfl, _⟩ | ⟨g, cap, cur, rfl, h1, _⟩
  · simp [Value.ownBlock]
  · simp only [Value.ownBlock, ne_eq, Option.some.injEq]
    omega
theorem grow_cellU {w w' : World} {base b o : Nat} {e : TypeId} {size n : Nat} {v x : Value} {xs : List Value} (hg : w.grownBy w' v.ownBlock) (h : w.ownsRow base e size v n xs) (hb : b < base) (c : w.cell? ⟨b, o, none⟩ = some x) : w'.cell? ⟨b, o, none⟩ = some x :=
  (World.cell?_of_block (a := ⟨b, o, none⟩) (hg.block b (ltb c) (own_farU h hb))).trans c
theorem grow_fzU {w w' : World} {base b o : Nat} {e : TypeId} {size n : Nat} {v : Value} {xs : List Value} (hg : w.grownBy w' v.ownBlock) (h : w.ownsRow base e size v n xs) (hb : b < base) (hl : b < w.heap.size) (c : w.frozen? ⟨b, o, none⟩ = false) : w'.frozen? ⟨b, o, none⟩ = false :=
  (World.frozen?_of_block (a := ⟨b, o, none⟩) (hg.block b hl (own_farU h hb))).trans c
theorem rows_apartU {w : World} {base base' : Nat} {e e' : TypeId} {size size' n n' : Nat} {v v' : Value} {xs xs' : List Value} (h : w.ownsRow base e size v n xs) (h' : w.ownsRow base' e' size' v' n' xs') (he : e ≠ e') : ∀ g, v.ownBlock = some g → g < w.heap.size ∧ some g ≠ v'.ownBlock := by
  intro g hg
  rcases h.2 with ⟨rfl, _⟩ | ⟨g1, cap, cur, rfl, h1, h2, _⟩
  · cases hg
  · cases hg
    refine ⟨(Array.getElem?_eq_some_iff.1 h2).1, fun q => ?_⟩
    rcases h'.2 with ⟨rfl, _⟩ | ⟨g2, cap', cur', rfl, h3, h4, _⟩
    · cases q
    · cases q
      rw [h2] at h4
      simp only [Option.some.injEq, Obj.cells.injEq] at h4
      exact he h4.2.1
theorem grow_ownU {w w' : World} {base base' : Nat} {e e' : TypeId} {size size' n n' : Nat} {v v' : Value} {xs xs' : List Value} (hg : w.grownBy w' v'.ownBlock) (h : w.ownsRow base e size v n xs) (h' : w.ownsRow base' e' size' v' n' xs') (he : e ≠ e') : w'.ownsRow base e size v n xs :=
  row_keptS h (fun g q => hg.block g (rows_apartU h h' he g q).1 (rows_apartU h h' he g q).2)
theorem grow_blU {w X w' : World} {base : Nat} {e : TypeId} {size n : Nat} {v : Value} {xs : List Value} (hb : Bl w X) (hg : X.grownBy w' v.ownBlock) (h : X.ownsRow base e size v n xs) (hl : w.heap.size ≤ base) : Bl w w' :=
  Below.grown hb hg hb.size (fun j hj => by
    rcases h.2 with ⟨rfl, _⟩ | ⟨g, cap, cur, rfl, h1, _⟩
    · cases hj
    · have hj' : g = j := by simpa [Value.ownBlock] using hj
      omega)
/-- The cells of the first n rates. -/
def rgC (R : Nat → Int) (n : Nat) : List Value := (List.range n).map fun j => .int .i64 (R j)
theorem sl_of_ownU {w : World} {base : Nat} {e : TypeId} {v : Value} {n : Nat} {f : Nat → Int} (h : w.ownsRow base e 1 v n (rgC f n)) : ∃ A cap, v = .slice A n cap ∧ n ≤ cap ∧ cap ≤ maxLen ∧ Sl w A n f := by
  rcases h.2 with ⟨rfl, rfl⟩ | ⟨g, cap, cur, rfl, hb, hg, hnc, hcm, _⟩
  · exact ⟨none, 0, rfl, Nat.le_refl _, by decide, fun h => absurd h (by omega)⟩
  · refine ⟨some ⟨g, 0, none⟩, cap, rfl, hnc, hcm, fun hn => ⟨g, 0, rfl, (Array.getElem?_eq_some_iff.1 hg).1, fun j hj => ?_⟩⟩
    rw [Nat.zero_add, h.cellAt j (by omega)]
    simp [rgC, hj]
theorem bl_alU (w : World) (o : Obj) : Bl w (w.alloc o) := by go_grown
theorem nil_eqS (A : Option Addr) (n c : Nat) (w : World) : (binOp .eql 25 (.slice A n c) (.slice none 0 0)).run Try.prog w = .ok (.bool A.isNone) w := Lib.run_eql_slice_nil w _ _ A n c 0 0 Try.underlying25
theorem put_0U {X : World} {b : Nat} {x : Value} (c0 : X.cell? ⟨b, 0, none⟩ = some x) (u v : Value) : ((X.setCell ⟨b, 0, none⟩ u).setCell ⟨b, 1, none⟩ v).cell? ⟨b, 0, none⟩ = some u := by go_cell
theorem put_1U {X : World} {b : Nat} {x y : Value} (c0 : X.cell? ⟨b, 0, none⟩ = some x) (c1 : X.cell? ⟨b, 1, none⟩ = some y) (u v : Value) : ((X.setCell ⟨b, 0, none⟩ u).setCell ⟨b, 1, none⟩ v).cell? ⟨b, 1, none⟩ = some v := by go_cell