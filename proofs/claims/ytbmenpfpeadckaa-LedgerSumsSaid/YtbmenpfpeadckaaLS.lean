/-
  Package ledger: the days of a record: ranging over the map, sorting, compacting; pure side and rows.
-/
import Derived.Test.YtbmenpfpeadckaaLE
import Derived.Test.YtbmenpfpeadckaaLG
import Derived.Maps.RangeWalk
import Derived.Sort.OwnSorted
import Derived.Lib.SlicesCompact
namespace Go.Proofs.Ytbmenpfpeadckaa
open Go.RowKit Go.Maps Go.Sort
set_option linter.unusedSimpArgs false
set_option linter.unusedVariables false

set_option maxRecDepth 100000 in
theorem slot_inv {key : Value} {kl : Lit} (h : keyOf Try.prog 112 key = some kl) : ∃ d f, key = slotV d f ∧ rng d ∧ kl = keyL d f := by
  have h0 := h
  obtain ⟨m, hm⟩ := typesSucc
  have ci : Try.prog.cellsOf 3 = 1 := by kernel_rfl
  have cb : Try.prog.cellsOf 4 = 1 := by kernel_rfl
  unfold keyOf at h
  rw [Try.underlying112] at h
  simp only at h
  split at h
  · rename_i hf
    have hf2 := (Bool.and_eq_true_iff.1 hf).2
    have key2 : ∃ a b, key = .agg #[a, b] := by
      cases key with
      | agg cs =>
        have hs : cs.size = 2 := by simpa [Value.formed, Try.underlying112, slotCells] using hf2
        obtain ⟨l⟩ := cs
        match l, hs with
        | [a, b], _ => exact ⟨a, b, rfl⟩
      | _ => simp [Value.formed, Try.underlying112] at hf2
    obtain ⟨a, b, rfl⟩ := key2
    obtain ⟨ls, hl, -⟩ := Option.map_eq_some_iff.1 h
    rw [hm] at hl
    have two : (∃ d, a = .int .i64 d ∧ (Lit.int .i64 d).wf = true) ∧ ∃ f, b = .bool f := by
      cases a <;> cases b <;> simp [Program.keyLits, Try.underlying112, Try.underlying3, Try.underlying4, slotCells, ci, cb, Value.cells] at hl
      rename_i k d f
      by_cases hk : k = IntKind.i64 ∧ (Lit.int IntKind.i64 d).wf = true
      · obtain ⟨rfl, hw⟩ := hk
        exact ⟨⟨d, rfl, hw⟩, f, rfl⟩
      · simp [hk] at hl
    obtain ⟨⟨d, rfl, hw⟩, f, rfl⟩ := two
    have hr : rng d := by simp only [Lit.wf, Bool.and_eq_true, decide_eq_true_eq] at hw; exact hw
    refine ⟨d, f, rfl, hr, ?_⟩
    have := (keyOf_slot (f := f) hr).symm.trans h0
    exact (Option.some.inj this).symm
  · cases h
theorem sameKey_slot {d d' : Int} {f f' : Bool} (h : rng d) (h' : rng d') : (keyL d f).sameKey (keyL d' f') = (decide (d = d') && (f == f')) := by
  by_cases e : d = d' ∧ f = f'
  · obtain ⟨rfl, rfl⟩ := e
    rw [WideAt.sameKey_self (keyL_key d f)]; simp
  · have : (keyL d f).sameKey (keyL d' f') = false := by
      cases q : (keyL d f).sameKey (keyL d' f') with
      | false => rfl
      | true => exact absurd (keyL_inj h h' (WideAt.sameKey_eq q)) e
    rw [this]
    symm
    rw [Bool.and_eq_false_iff, decide_eq_false_iff_not]
    by_cases e1 : d = d'
    · right
      cases f <;> cases f' <;> first | rfl | exact absurd ⟨e1, rfl⟩ e
    · exact .inl e1
/-- The days that were met, whatever the order. -/
def Coll (D : DataW Unit) (left : Lit → Bool) (ds : List Int) : Prop := ∀ d, d ∈ ds ↔ ∃ f, rng d ∧ Maps.has D (keyL d f) = true ∧ left (keyL d f) = false
theorem Coll.start (D : DataW Unit) : Coll D (Maps.has D) [] := fun d => by
  constructor
  · intro h; cases h
  · rintro ⟨f, _, h1, h2⟩; rw [h1] at h2; cases h2
theorem Coll.step {D : DataW Unit} {left : Lit → Bool} {ds : List Int} (h : Coll D left ds) {d0 : Int} {f0 : Bool} (hr : rng d0) (hh : Maps.has D (keyL d0 f0) = true) : Coll D (fun z => left z && !z.sameKey (keyL d0 f0)) (ds ++ [d0]) := fun d => by
  rw [List.mem_append, h d, List.mem_singleton]
  constructor
  · rintro (⟨f, q1, q2, q3⟩ | rfl)
    · exact ⟨f, q1, q2, by simp [q3]⟩
    · exact ⟨f0, hr, hh, by simp [WideAt.sameKey_self (keyL_key d f0)]⟩
  · rintro ⟨f, q1, q2, q3⟩
    rw [Bool.and_eq_false_iff] at q3
    rcases q3 with q3 | q3
    · exact .inl ⟨f, q1, q2, q3⟩
    · right
      rw [Bool.not_eq_false', sameKey_slot q1 hr] at q3
      simp at q3
      exact q3.1
/-- These are the days. -/
def IsDys (V : Int → Bool → Option Int) (l : List Int) : Prop := l.Pairwise (· < ·) ∧ ∀ d, d ∈ l ↔ ∃ f, (V d f).isSome = true
theorem asc_ext : ∀ {l m : List Int}, l.Pairwise (· < ·) → m.Pairwise (· < ·) → (∀ d, d ∈ l ↔ d ∈ m) → l = m
  | [], [], _, _, _ => rfl
  | [], b :: m, _, _, h => absurd ((h b).2 (by simp)) (by simp)
  | a :: l, [], _, _, h => absurd ((h a).1 (by simp)) (by simp)
  | a :: l, b :: m, h1, h2, h => by
    obtain ⟨p1, p2⟩ := List.pairwise_cons.1 h1
    obtain ⟨q1, q2⟩ := List.pairwise_cons.1 h2
    have e : a = b := by
      rcases List.mem_cons.1 ((h a).1 (by simp)) with e | e
      · exact e
      · rcases List.mem_cons.1 ((h b).2 (by simp)) with e' | e'
        · exact e'.symm
        · have := q1 a e; have := p1 b e'; omega
    subst e
    rw [asc_ext p2 q2 fun d => ?_]
    constructor
    · intro hd
      rcases List.mem_cons.1 ((h d).1 (List.mem_cons_of_mem _ hd)) with e | e
      · subst e; exact absurd (p1 d hd) (by omega)
      · exact e
    · intro hd
      rcases List.mem_cons.1 ((h d).2 (List.mem_cons_of_mem _ hd)) with e | e
      · subst e; exact absurd (q1 d hd) (by omega)
      · exact e
theorem IsDys.unique {V : Int → Bool → Option Int} {l m : List Int} (h : IsDys V l) (h' : IsDys V m) : l = m := asc_ext h.1 h'.1 fun d => (h.2 d).trans (h'.2 d).symm
/-- What compacting a sorted list leaves. -/
theorem compact_asc {zs : List Int} (h : zs.Pairwise (· ≤ ·)) : (Lib.compact zs).Pairwise (· < ·) ∧ (∀ d, d ∈ Lib.compact zs ↔ d ∈ zs) ∧ (Lib.compact zs).length ≤ zs.length := by
  have hget : ∀ j, j < zs.length → (zs.toArray)[j]! = zs.getD j 0 := fun j hj => by simp [hj, List.getD]
  have hle : ∀ i j, i ≤ j → j < zs.length → zs.getD i 0 ≤ zs.getD j 0 := fun i j hij hj => by
    rcases Nat.eq_or_lt_of_le hij with rfl | hlt
    · exact Int.le_refl _
    · have := List.pairwise_iff_getElem.1 h i j (by omega) hj hlt
      simpa [List.getD, hj, show i < zs.length by omega] using this
  have key : ∀ m, m ≤ zs.length → (Lib.compactUpTo zs.toArray m).Pairwise (· < ·) ∧ (∀ d, d ∈ Lib.compactUpTo zs.toArray m ↔ ∃ j, j < m ∧ zs.getD j 0 = d) ∧ (Lib.compactUpTo zs.toArray m).length ≤ m := by
    intro m
    induction m with
    | zero => intro _; exact ⟨by simp [Lib.compactUpTo], fun d => by simp [Lib.compactUpTo], by simp [Lib.compactUpTo]⟩
    | succ m ih =>
      intro hm
      obtain ⟨i1, i2, i3⟩ := ih (by omega)
      rw [Lib.compactUpTo_succ]
      by_cases hk : Lib.keeps zs.toArray m = true
      · rw [if_pos hk, hget m (by omega)]
        refine ⟨List.pairwise_append.2 ⟨i1, by simp, fun a ha b hb => ?_⟩, fun d => ?_, by simp; omega⟩
        · obtain ⟨j, hj, rfl⟩ := (i2 a).1 ha
          have hb : b = zs.getD m 0 := by simpa using hb
          subst hb
          have h0 : m ≠ 0 := by omega
          have hne : zs.getD m 0 ≠ zs.getD (m - 1) 0 := by
            have := hk
            simp only [Lib.keeps, decide_eq_true_eq] at this
            rcases this with q | q
            · exact absurd q h0
            · rwa [hget m (by omega), hget (m - 1) (by omega)] at q
          have l1 := hle j (m - 1) (by omega) (by omega)
          have l2 := hle (m - 1) m (by omega) (by omega)
          omega
        · rw [List.mem_append, i2 d, List.mem_singleton]
          constructor
          · rintro (⟨j, hj, e⟩ | rfl)
            · exact ⟨j, by omega, e⟩
            · exact ⟨m, by omega, rfl⟩
          · rintro ⟨j, hj, e⟩
            by_cases q : j = m
            · subst q; exact .inr e.symm
            · exact .inl ⟨j, by omega, e⟩
      · rw [if_neg hk, List.append_nil]
        refine ⟨i1, fun d => ?_, by omega⟩
        rw [i2 d]
        constructor
        · rintro ⟨j, hj, e⟩; exact ⟨j, by omega, e⟩
        · rintro ⟨j, hj, e⟩
          by_cases q : j = m
          · subst q
            have hk' : ¬ (j = 0 ∨ (zs.toArray)[j]! ≠ (zs.toArray)[j - 1]!) := by
              intro q; exact hk (by simp only [Lib.keeps, decide_eq_true_eq]; exact q)
            have h0 : j ≠ 0 := fun q => hk' (.inl q)
            have he : (zs.toArray)[j]! = (zs.toArray)[j - 1]! := Decidable.byContradiction fun q => hk' (.inr q)
            rw [hget j (by omega), hget (j - 1) (by omega)] at he
            exact ⟨j - 1, by omega, by rw [← he]; exact e⟩
          · exact ⟨j, by omega, e⟩
  obtain ⟨k1, k2, k3⟩ := key zs.length (Nat.le_refl _)
  refine ⟨k1, fun d => (k2 d).trans ?_, k3⟩
  constructor
  · rintro ⟨j, hj, rfl⟩
    simp [List.getD, hj]
  · intro hd
    obtain ⟨j, hj, e⟩ := List.mem_iff_getElem.1 hd
    exact ⟨j, hj, by simp [List.getD, hj, e]⟩
theorem sorted_le (zs : List Int) : (zs.mergeSort fun x y => decide (x ≤ y)).Pairwise (· ≤ ·) := by
  have := List.pairwise_mergeSort (le := fun x y : Int => decide (x ≤ y)) (fun a b c h1 h2 => by simp at *; omega) (fun a b => by simp; omega) zs
  exact this.imp fun h => by simpa using h
/-- Rows of numbers, as the sort's contract tells them. -/
theorem holds_int {w : World} {g : Nat} {cur : Array Value} {e : TypeId} {zs : List Int} (hb : w.heap[g]? = some (.cells cur e (0, 0))) (ht : cur.toList.take zs.length = zs.map (Value.int .i64)) : Holds (Value.int .i64) w g 0 zs.toArray := by
  intro j hj
  have hj' : j < zs.length := by simpa using hj
  refine ⟨?_, by simp [World.frozen?, hb]⟩
  have h1 : (cur.toList.take zs.length)[j]? = (zs.map (Value.int .i64))[j]? := by rw [ht]
  rw [List.getElem?_take_of_lt hj'] at h1
  simp only [World.cell?, hb, Nat.zero_add]
  simp only [Option.isSome_none, Bool.false_eq_true, if_false]
  rw [← Array.getElem?_toList, h1]
  simp [hj']
theorem heap_sortedI {w : World} {g n : Nat} {os : Array Obj} {cur : Array Value} {e : TypeId} {fr : Nat × Nat} (d : Array Int) (hb : w.heap[g]? = some (.cells cur e fr)) :
    (grow (putRow (Value.int .i64) (Sort.ahead w n) g 0 d) os).heap[g]? = some (.cells (putCells (Value.int .i64) 0 d cur) e fr) := by
  have hg : g < w.heap.size := (Array.getElem?_eq_some_iff.1 hb).1
  rw [heap_grow_old _ _ (by simpa using hg)]
  simp [putRow, mapBlock, Sort.ahead, Array.getElem?_modify, hb, onCells]
theorem grownBy_sortedI {w : World} {g n : Nat} {os : Array Obj} (d : Array Int) : w.grownBy (grow (putRow (Value.int .i64) (Sort.ahead w n) g 0 d) os) (some g) := by
  refine ⟨rfl, rfl, rfl, by simp, fun k hk hne => ?_⟩
  rw [heap_grow_old _ _ (by simpa using hk)]
  have : g ≠ k := fun e => hne (by rw [e])
  simp [putRow, mapBlock, Sort.ahead, Array.getElem?_modify, this]
theorem take_putCellsI (cur : Array Value) (ts : List Int) (h : ts.length ≤ cur.size) : (putCells (Value.int .i64) 0 ts.toArray cur).toList.take ts.length = ts.map (Value.int .i64) := by
  apply List.ext_getElem?
  intro j
  by_cases hj : j < ts.length
  · rw [List.getElem?_take_of_lt hj, Array.getElem?_toList]
    simp [putCells, hj, show j < cur.size by omega]
  · rw [List.getElem?_take_eq_none (by omega), List.getElem?_eq_none (by simp; omega)]
theorem ownsRow_sortedI {w : World} {base g cap n : Nat} {e : TypeId} {os : Array Obj} {cur : Array Value} {ts : List Int} {m : Nat} (hl : ts.length = m) (hbase : base ≤ g) (hb : w.heap[g]? = some (.cells cur e (0, 0))) (h1 : m ≤ cap) (h2 : cap ≤ maxLen) (h3 : cur.size = cap * 1) :
    (grow (putRow (Value.int .i64) (Sort.ahead w n) g 0 ts.toArray) os).ownsRow base e 1 (.slice (some ⟨g, 0, none⟩) m cap) m (intL ts) :=
  ⟨by simp [intL, hl], .inr ⟨g, cap, _, rfl, hbase, heap_sortedI _ hb, h1, h2, by simp [putCells, h3], by rw [Nat.mul_one, ← hl]; exact take_putCellsI cur ts (by omega)⟩⟩
theorem own_shorter {w : World} {base g n cap m : Nat} {e : TypeId} {xs : List Value} (h : w.ownsRow base e 1 (.slice (some ⟨g, 0, none⟩) n cap) n xs) (hm : m ≤ n) : w.ownsRow base e 1 (.slice (some ⟨g, 0, none⟩) m cap) m (xs.take m) := by
  rcases h.2 with ⟨h', _⟩ | ⟨g', cap', cur, h', hb, hg, hnc, hcm, hcs, htake⟩
  · simp at h'
  · simp only [Value.slice.injEq, Option.some.injEq, Addr.mk.injEq, and_true, true_and] at h'
    obtain ⟨rfl, rfl⟩ := h'
    refine ⟨by rw [List.length_take, h.1]; omega, .inr ⟨g, cap, cur, rfl, hb, hg, Nat.le_trans hm hnc, hcm, hcs, ?_⟩⟩
    rw [← htake, List.take_take]
    congr 1
    omega
end Go.Proofs.Ytbmenpfpeadckaa
