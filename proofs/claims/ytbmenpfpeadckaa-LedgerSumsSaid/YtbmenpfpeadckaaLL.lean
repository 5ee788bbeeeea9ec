/-
  Package ledger: lists of entries in memory; appends of lists of entries; the reference's SameEntries.
-/
import Derived.Test.YtbmenpfpeadckaaLG
import Derived.Test.YtbmenpfpeadckaaLB
import Derived.Maps.AppendAt
namespace Go.Proofs.Ytbmenpfpeadckaa
open Go.RowKit Go.Maps
set_option linter.unusedSimpArgs false
set_option linter.unusedVariables false

/-- The cells of entries. -/
def eC (L : Nat → En) : Nat → List Value
  | 0 => []
  | k + 1 => eC L k ++ [.int .i64 (L k).day, .bool (L k).fo, .int .i64 (L k).er]
theorem eC_len (L : Nat → En) (k : Nat) : (eC L k).length = k * 3 := by
  induction k with
  | zero => rfl
  | succ k ih => rw [eC, List.length_append, ih]; simp; omega
theorem eC_at (L : Nat → En) {n j : Nat} (hj : j < n) : (eC L n)[j * 3]? = some (.int .i64 (L j).day) ∧ (eC L n)[j * 3 + 1]? = some (.bool (L j).fo) ∧ (eC L n)[j * 3 + 2]? = some (.int .i64 (L j).er) := by
  induction n with
  | zero => omega
  | succ n ih =>
    by_cases e : j = n
    · subst e
      have h0 := eC_len L j
      rw [eC, List.getElem?_append_right (by omega), List.getElem?_append_right (by omega), List.getElem?_append_right (by omega), h0]
      refine ⟨?_, ?_, ?_⟩
      · rw [Nat.sub_self]; rfl
      · rw [show j * 3 + 1 - j * 3 = 1 by omega]; rfl
      · rw [show j * 3 + 2 - j * 3 = 2 by omega]; rfl
    · have h0 := eC_len L n
      rw [eC, List.getElem?_append_left (by omega), List.getElem?_append_left (by omega), List.getElem?_append_left (by omega)]
      exact ih (by omega)
theorem eC_one (L : Nat → En) (n : Nat) : ∀ u ∈ eC L n, u.oneCell' = true := by
  induction n with
  | zero => intro u hu; cases hu
  | succ n ih =>
    intro u hu
    rcases List.mem_append.1 hu with h | h
    · exact ih u h
    · simp only [List.mem_cons, List.not_mem_nil, or_false] at h
      rcases h with rfl | rfl | rfl <;> rfl
theorem eC_congr {L M : Nat → En} {n : Nat} (h : ∀ j, j < n → L j = M j) : eC L n = eC M n := by
  induction n with
  | zero => rfl
  | succ n ih => rw [eC, eC, ih (fun j hj => h j (by omega)), h n (by omega)]
/-- One list behind another. -/
def catE (n : Nat) (L M : Nat → En) (j : Nat) : En := if j < n then L j else M (j - n)
theorem cat_lt {n j : Nat} {L M : Nat → En} (h : j < n) : catE n L M j = L j := if_pos h
theorem cat_ge (n : Nat) (L M : Nat → En) (j : Nat) : catE n L M (n + j) = M j := by
  unfold catE
  rw [if_neg (by omega), Nat.add_sub_cancel_left]
theorem eC_cat (n : Nat) (L M : Nat → En) (m : Nat) : eC (catE n L M) (n + m) = eC L n ++ eC M m := by
  induction m with
  | zero => rw [Nat.add_zero, eC, List.append_nil]; exact eC_congr fun j hj => cat_lt hj
  | succ m ih => rw [Nat.add_succ, eC, ih, eC, cat_ge, List.append_assoc]
theorem add_plainE (b o j : Nat) : (⟨b, o, none⟩ : Addr).add j = ⟨b, o + j, none⟩ := by unfold Addr.add; split <;> simp_all
theorem el_news {w : World} {ad : Addr} {n : Nat} {L : Nat → En} (h : El w (some ad) n L) : ∀ j u, (eC L n)[j]? = some u → w.cell? (ad.add j) = some u := fun j u hu => by
  have hj : j < n * 3 := by have := (List.getElem?_eq_some_iff.1 hu).1; rwa [eC_len] at this
  obtain ⟨b', off', e, _, hc⟩ := h (by omega)
  obtain rfl : ad = ⟨b', off', none⟩ := Option.some.inj e
  obtain ⟨c0, c1, c2⟩ := hc (j / 3) (by omega)
  obtain ⟨d0, d1, d2⟩ := eC_at L (n := n) (j := j / 3) (by omega)
  rw [add_plainE]
  rcases (show j = j / 3 * 3 ∨ j = j / 3 * 3 + 1 ∨ j = j / 3 * 3 + 2 by omega) with q | q | q
  · rw [q] at hu ⊢; rw [c0, ← d0, hu]
  · rw [q] at hu ⊢; rw [← Nat.add_assoc, c1, ← d1, hu]
  · rw [q] at hu ⊢; rw [← Nat.add_assoc, c2, ← d2, hu]
/-- A slice value reads as n entries, in memory behind a block. -/
def IsEn (w : World) (lo : Nat) (v : Value) (n : Nat) (L : Nat → En) : Prop :=
  ∃ A c, v = .slice A n c ∧ n ≤ c ∧ c ≤ maxLen ∧ El w A n L ∧ ∀ a, A = some a → lo ≤ a.block
theorem isEn_of_own {w : World} {base : Nat} {e : TypeId} {v : Value} {n : Nat} {L : Nat → En} (h : w.ownsRow base e 3 v n (eC L n)) : IsEn w base v n L := by
  rcases h.2 with ⟨rfl, h0⟩ | ⟨g, cap, cur, rfl, hb, hg, hnc, hcm, hcs, htake⟩
  · exact ⟨none, 0, by rw [h0], by omega, Nat.zero_le _, fun hn => by omega, fun a e => by cases e⟩
  · refine ⟨some ⟨g, 0, none⟩, cap, rfl, hnc, hcm, fun hn => ⟨g, 0, rfl, (Array.getElem?_eq_some_iff.1 hg).1, fun j hj => ?_⟩, fun a e => by cases e; exact hb⟩
    obtain ⟨d0, d1, d2⟩ := eC_at L hj
    exact ⟨by rw [Nat.zero_add, h.cellAt _ (by omega), d0], by rw [Nat.zero_add, h.cellAt _ (by omega), d1], by rw [Nat.zero_add, h.cellAt _ (by omega), d2]⟩
theorem IsEn.below {w w' : World} {lo n : Nat} {v : Value} {L : Nat → En} (h : IsEn w lo v n L) (hb : Bl w w') : IsEn w' lo v n L := by
  obtain ⟨A, c, h0, h1, h2, h3, h4⟩ := h
  exact ⟨A, c, h0, h1, h2, h3.below hb, h4⟩
theorem IsEn.mono {w : World} {lo lo' n : Nat} {v : Value} {L : Nat → En} (h : IsEn w lo v n L) (hl : lo' ≤ lo) : IsEn w lo' v n L := by
  obtain ⟨A, c, h0, h1, h2, h3, h4⟩ := h
  exact ⟨A, c, h0, h1, h2, h3, fun a e => Nat.le_trans hl (h4 a e)⟩
theorem IsEn.congr {w : World} {lo n : Nat} {v : Value} {L M : Nat → En} (h : IsEn w lo v n L) (he : ∀ j, j < n → L j = M j) : IsEn w lo v n M := by
  obtain ⟨A, c, h0, h1, h2, h3, h4⟩ := h
  exact ⟨A, c, h0, h1, h2, h3.congr he, h4⟩
theorem isEn_nil (w : World) (lo : Nat) (L : Nat → En) : IsEn w lo (.slice none 0 0) 0 L := ⟨none, 0, rfl, Nat.le_refl _, Nat.zero_le _, fun h => absurd h (by omega), fun a e => by cases e⟩
theorem en_info : (Try.prog.info? 78).map (fun i => (i.zero, i.size, i.bytes)) = some (some (.agg #[.int .i64 0, .bool false, .int .i64 0]), 3, 24) := by kernel_rfl
theorem el_one {w : World} {b o : Nat} {x : En} (h0 : w.cell? ⟨b, o, none⟩ = some (.int .i64 x.day)) (h1 : w.cell? ⟨b, o + 1, none⟩ = some (.bool x.fo)) (h2 : w.cell? ⟨b, o + 2, none⟩ = some (.int .i64 x.er)) : El w (some ⟨b, o, none⟩) 1 (fun _ => x) := fun _ =>
  ⟨b, o, rfl, ltb h0, fun j hj => by
    obtain rfl : j = 0 := by omega
    exact ⟨by simpa using h0, by simpa using h1, by simpa using h2⟩⟩
/-- An append of a list of entries to entries that the call owns. -/
theorem run_append_el (w : World) (base : Nat) (v : Value) (n : Nat) (L : Nat → En) (hown : w.ownsRow base 78 3 v n (eC L n)) (A : Option Addr) (m c : Nat) (M : Nat → En) (hA : El w A m M) (hnm : n + m ≤ 3000) (hbase : base ≤ w.heap.size) (ty : TypeId) :
    ∃ v' w', (Builtin.append_ #[38, 38] ty #[v, .slice A m c]).run Try.prog w = .ok v' w' ∧ w'.ownsRow base 78 3 v' (n + m) (eC (catE n L M) (n + m)) ∧ w.grownBy w' v.ownBlock ∧ (v'.ownBlock = v.ownBlock ∨ v'.ownBlock = some w.heap.size) := by
  obtain ⟨i0, hi0, hz0, hz1, hz2⟩ := info_parts6N en_info
  by_cases hm : m = 0
  · subst hm
    refine ⟨v, w, ?_, by rw [Nat.add_zero, eC_congr (M := L) fun j hj => cat_lt hj]; exact hown, ⟨rfl, rfl, rfl, Nat.le_refl _, fun _ _ _ => rfl⟩, .inl rfl⟩
    rcases hown.2 with ⟨rfl, rfl⟩ | ⟨g, cap, cur, rfl, hb, hg, hnc, hcm, hcs, htake⟩
    · cases A <;> simp [Builtin.append_, run_underlying Try.underlying38, sizeOf, typeInfo, hi0, Builtin.lenOf, Builtin.firstCells, loadCells, loadCellsFrom]
    · cases A <;> simp [Builtin.append_, run_underlying Try.underlying38, sizeOf, typeInfo, hi0, Builtin.lenOf, Builtin.firstCells, loadCells, loadCellsFrom, storeCells, hnc, show n ≤ cap from hnc]
  · obtain ⟨b, off, rfl, hbb, hc⟩ := hA (by omega)
    obtain ⟨v', w', h1, h2, h3, _, h5⟩ := run_append_own_at w base 38 ty 78 i0 _ 3 24 Try.underlying38 hi0 hz0 hz1 hz2 rfl (by omega) v n (eC L n) hown ⟨b, off, none⟩ m c (eC M m) (eC_len M m) (el_news hA) (eC_one M m) (by unfold maxLen; omega) (by omega) hbase
    exact ⟨v', w', h1, by rw [eC_cat]; exact h2, h3, h5⟩
theorem wp_append_el {w : World} {o : Oper} {a : Act} {K : Act → World → Prop} {Q : Exit → Act → World → Prop} (s x : Operand)
    (ho : o.op = .call { callee := .builtin .append, args := #[s, x], argTypes := #[38, 38] })
    (base : Nat) (v : Value) (n : Nat) (L : Nat → En) (hs : a.eval s = v) (hown : w.ownsRow base 78 3 v n (eC L n)) (A : Option Addr) (m c : Nat) (M : Nat → En) (hx : a.eval x = .slice A m c) (hA : El w A m M) (hnm : n + m ≤ 3000) (hbase : base ≤ w.heap.size)
    (h : ∀ v' w', w'.ownsRow base 78 3 v' (n + m) (eC (catE n L M) (n + m)) → w.grownBy w' v.ownBlock → (v'.ownBlock = v.ownBlock ∨ v'.ownBlock = some w.heap.size) → K (a.put o.dst v') w') : o.wp Try.prog a w K Q := by
  obtain ⟨v', w', hr, h2, h3, h4⟩ := run_append_el w base v n L hown A m c M hA hnm hbase o.type
  unfold Oper.wp execOp
  simp only [ho, resolve, invoke, builtin, Sem.run_bind, Sem.run_pure, Result.andThen_ok, List.map_toArray, List.map_cons, List.map_nil, hs, hx, hr]
  exact h v' w' h2 h3 h4
theorem wpList_append_el {w : World} {ops : Array Oper} {rest : List Oper} {o : Oper} {a : Act} {Q : Exit → Act → World → Prop} (hgd : o.guard = none) (s x : Operand)
    (ho : o.op = .call { callee := .builtin .append, args := #[s, x], argTypes := #[38, 38] })
    (base : Nat) (v : Value) (n : Nat) (L : Nat → En) (hs : a.eval s = v) (hown : w.ownsRow base 78 3 v n (eC L n)) (A : Option Addr) (m c : Nat) (M : Nat → En) (hx : a.eval x = .slice A m c) (hA : El w A m M) (hnm : n + m ≤ 3000) (hbase : base ≤ w.heap.size)
    (h : ∀ v' w', w'.ownsRow base 78 3 v' (n + m) (eC (catE n L M) (n + m)) → w.grownBy w' v.ownBlock → (v'.ownBlock = v.ownBlock ∨ v'.ownBlock = some w.heap.size) → wpList Try.prog ops Q rest (a.put o.dst v') w') : wpList Try.prog ops Q (o :: rest) a w :=
  wpList_plain hgd fun _ hK => wp_append_el s x ho base v n L hs hown A m c M hx hA hnm hbase fun v' w' h2 h3 h4 => hK _ _ (h v' w' h2 h3 h4)
theorem step_append_el {w : World} {ops : Array Oper} {o : Oper} {a : Act} {K : Act → World → Prop} {Q : Exit → Act → World → Prop} {E : Prop} (hgd : o.guard = none) (s x : Operand)
    (ho : o.op = .call { callee := .builtin .append, args := #[s, x], argTypes := #[38, 38] })
    (base : Nat) (v : Value) (n : Nat) (L : Nat → En) (hs : a.eval s = v) (hown : w.ownsRow base 78 3 v n (eC L n)) (A : Option Addr) (m c : Nat) (M : Nat → En) (hx : a.eval x = .slice A m c) (hA : El w A m M) (hnm : n + m ≤ 3000) (hbase : base ≤ w.heap.size)
    (h : ∀ v' w', w'.ownsRow base 78 3 v' (n + m) (eC (catE n L M) (n + m)) → w.grownBy w' v.ownBlock → (v'.ownBlock = v.ownBlock ∨ v'.ownBlock = some w.heap.size) → K (a.put o.dst v') w') : if Region.wanted o (yielded ops a.tmps) = true then Oper.wp Try.prog o a w K Q else E := by
  have hw : Region.wanted o (yielded ops a.tmps) = true := by simp [Region.wanted, hgd]
  rw [if_pos hw]
  exact wp_append_el s x ho base v n L hs hown A m c M hx hA hnm hbase h
/-- What Below keeps of a row that an append may have turned. -/
theorem below_own {w w1 w9 : World} {base : Nat} {e : TypeId} {size : Nat} {v : Value} {n : Nat} {xs : List Value} (hb : Bl w w1) (hown : w1.ownsRow base e size v n xs) (hbase : w.heap.size ≤ base) (hg : w1.grownBy w9 v.ownBlock) : Bl w w9 :=
  Below.grown hb hg hb.size (fun j hj => Nat.le_trans hbase (hown.lt j hj).1)
set_option maxRecDepth 100000 in
/-- An append of n zero values to nothing. -/
theorem run_append_made (w : World) (t u ty e : TypeId) (i : TypeInfo) (z : Value) (ht : Try.prog.underlying t = some (.slice e)) (hu : Try.prog.underlying u = some (.int .i64)) (hi : Try.prog.info? e = some i) (hz : i.zero = some z) (hzs : z.cells.size = i.size) (hsz : 0 < i.size)
    (n : Nat) (h0 : 0 < n) (hn : n ≤ 3000) (hb : i.bytes ≤ 1000) (base : Nat) (hbase : base ≤ w.heap.size) :
    ∃ cap w', (Builtin.append_ #[t, u] ty #[.slice none 0 0, .int .i64 (n : Int)]).run Try.prog w = .ok (.slice (some ⟨w.heap.size, 0, none⟩) n cap) w' ∧ w'.ownsRow base e i.size (.slice (some ⟨w.heap.size, 0, none⟩) 0 cap) 0 [] ∧ Bl w w' := by
  have hw : IntKind.i64.wrap (n : Int) = (n : Int) := IntWalk.i64_in _ (by omega)
  have hnb : n * i.bytes ≤ 3000000 := Nat.le_trans (Nat.mul_le_mul hn hb) (by omega)
  have hn0 : n ≠ 0 := by omega
  have h63' : ¬ (9223372036854775807 < (n : Int)) := by omega
  have hneg : ¬ ((n : Int) < 0) := by omega
  have h48 : ¬ (281474976710656 < (n : Int) * (i.bytes : Int)) := by
    have : ((n * i.bytes : Nat) : Int) ≤ 3000000 := Int.ofNat_le.2 hnb
    rw [Int.natCast_mul] at this
    omega
  have h48' : ¬ (281474976710656 < Builtin.nextslicecap n 0 * i.bytes) := by rw [nextslicecap_zero h0]; omega
  have hge := grownCap_ge w n 0 e
  have hcm : grownCap w n 0 e ≤ maxLen := grownCap_le_maxLen w n 0 e (by unfold maxLen; omega)
  have hns : n * i.size ≠ 0 := by have := Nat.mul_pos h0 hsz; omega
  refine ⟨grownCap w n 0 e, w.drew.alloc (.cells (Builtin.zeroCells z.cells n ++ Builtin.zeroCells z.cells (grownCap w n 0 e - n)) e), ?_, ?_, ?_⟩
  · simp [Builtin.append_, run_underlying ht, run_underlying hu, sizeOf, typeInfo, zeroValue, hi, hz, asInt, asIntOf, hw, hneg, h48, hn0, h63', h48', hns, Question.forced, run_firstCells_none, newRow, grownCap, Nat.ne_of_gt hsz]
  · refine ⟨by simp, .inr ⟨w.heap.size, _, _, rfl, hbase, heap_alloc_new w.drew _, Nat.zero_le _, hcm, ?_, by simp⟩⟩
    simp only [Array.size_append, size_zeroCells, hzs, ← Nat.add_mul]
    congr 1
    omega
  · exact Bl.tr (bl_dr w) (by go_grown)