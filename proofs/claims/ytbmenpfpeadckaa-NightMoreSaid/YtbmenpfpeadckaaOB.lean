/-
  Package night: chances in memory that a call owns; appends of lists of chances; a list with one chance less.
-/
import Derived.Test.YtbmenpfpeadckaaOA
import Derived.Test.YtbmenpfpeadckaaNN
import Derived.Maps.AppendAt
namespace Go.Proofs.Ytbmenpfpeadckaa
open Go.RowKit Go.Maps
set_option linter.unusedSimpArgs false
set_option linter.unusedVariables false

/-- The cells of chances. -/
def chC (L : Nat → Ch) : Nat → List Value
  | 0 => []
  | k + 1 => chC L k ++ [.string (L k).nm, .int .i64 (L k).fr, .int .i64 (L k).to, .int .i64 (L k).tl, .int .i64 (L k).wo]
theorem chC_len (L : Nat → Ch) (k : Nat) : (chC L k).length = k * 5 := by
  induction k with
  | zero => rfl
  | succ k ih => rw [chC, List.length_append, ih]; simp; omega
theorem chC_at (L : Nat → Ch) {n j : Nat} (hj : j < n) : (chC L n)[j * 5]? = some (.string (L j).nm) ∧ (chC L n)[j * 5 + 1]? = some (.int .i64 (L j).fr) ∧ (chC L n)[j * 5 + 2]? = some (.int .i64 (L j).to) ∧ (chC L n)[j * 5 + 3]? = some (.int .i64 (L j).tl) ∧ (chC L n)[j * 5 + 4]? = some (.int .i64 (L j).wo) := by
  induction n with
  | zero => omega
  | succ n ih =>
    by_cases e : j = n
    · subst e
      have h0 := chC_len L j
      rw [chC, List.getElem?_append_right (by omega), List.getElem?_append_right (by omega), List.getElem?_append_right (by omega), List.getElem?_append_right (by omega), List.getElem?_append_right (by omega), h0]
      refine ⟨?_, ?_, ?_, ?_, ?_⟩
      · rw [Nat.sub_self]; rfl
      · rw [show j * 5 + 1 - j * 5 = 1 by omega]; rfl
      · rw [show j * 5 + 2 - j * 5 = 2 by omega]; rfl
      · rw [show j * 5 + 3 - j * 5 = 3 by omega]; rfl
      · rw [show j * 5 + 4 - j * 5 = 4 by omega]; rfl
    · have h0 := chC_len L n
      rw [chC, List.getElem?_append_left (by omega), List.getElem?_append_left (by omega), List.getElem?_append_left (by omega), List.getElem?_append_left (by omega), List.getElem?_append_left (by omega)]
      exact ih (by omega)
theorem chC_one (L : Nat → Ch) (n : Nat) : ∀ u ∈ chC L n, u.oneCell' = true := by
  induction n with
  | zero => intro u hu; cases hu
  | succ n ih =>
    intro u hu
    rcases List.mem_append.1 hu with h | h
    · exact ih u h
    · simp only [List.mem_cons, List.not_mem_nil, or_false] at h
      rcases h with rfl | rfl | rfl | rfl | rfl <;> rfl
theorem chC_congr {L M : Nat → Ch} {n : Nat} (h : ∀ j, j < n → L j = M j) : chC L n = chC M n := by
  induction n with
  | zero => rfl
  | succ n ih => rw [chC, chC, ih (fun j hj => h j (by omega)), h n (by omega)]
/-- One list behind another. -/
def catC (n : Nat) (L M : Nat → Ch) (j : Nat) : Ch := if j < n then L j else M (j - n)
theorem catC_lt {n j : Nat} {L M : Nat → Ch} (h : j < n) : catC n L M j = L j := if_pos h
theorem catC_ge (n : Nat) (L M : Nat → Ch) (j : Nat) : catC n L M (n + j) = M j := by
  unfold catC
  rw [if_neg (by omega), Nat.add_sub_cancel_left]
theorem chC_cat (n : Nat) (L M : Nat → Ch) (m : Nat) : chC (catC n L M) (n + m) = chC L n ++ chC M m := by
  induction m with
  | zero => rw [Nat.add_zero, chC, List.append_nil]; exact chC_congr fun j hj => catC_lt hj
  | succ m ih => rw [Nat.add_succ, chC, ih, chC, catC_ge, List.append_assoc]
theorem add_plainC (b o j : Nat) : (⟨b, o, none⟩ : Addr).add j = ⟨b, o + j, none⟩ := by unfold Addr.add; split <;> simp_all
theorem chl_news {w : World} {ad : Addr} {n : Nat} {L : Nat → Ch} (h : Chl w (some ad) n L) : ∀ j u, (chC L n)[j]? = some u → w.cell? (ad.add j) = some u := fun j u hu => by
  have hj : j < n * 5 := by have := (List.getElem?_eq_some_iff.1 hu).1; rwa [chC_len] at this
  obtain ⟨b', off', e, _, hc⟩ := h (by omega)
  obtain rfl : ad = ⟨b', off', none⟩ := Option.some.inj e
  obtain ⟨c0, c1, c2, c3, c4⟩ := hc (j / 5) (by omega)
  obtain ⟨d0, d1, d2, d3, d4⟩ := chC_at L (n := n) (j := j / 5) (by omega)
  rw [add_plainC]
  rcases (show j = j / 5 * 5 ∨ j = j / 5 * 5 + 1 ∨ j = j / 5 * 5 + 2 ∨ j = j / 5 * 5 + 3 ∨ j = j / 5 * 5 + 4 by omega) with q | q | q | q | q
  · rw [q] at hu ⊢; rw [c0, ← d0, hu]
  · rw [q] at hu ⊢; rw [← Nat.add_assoc, c1, ← d1, hu]
  · rw [q] at hu ⊢; rw [← Nat.add_assoc, c2, ← d2, hu]
  · rw [q] at hu ⊢; rw [← Nat.add_assoc, c3, ← d3, hu]
  · rw [q] at hu ⊢; rw [← Nat.add_assoc, c4, ← d4, hu]
/-- A slice value reads as n chances, in memory behind a block. -/
def IsCh (w : World) (lo : Nat) (v : Value) (n : Nat) (L : Nat → Ch) : Prop :=
  ∃ A c, v = .slice A n c ∧ n ≤ c ∧ c ≤ maxLen ∧ Chl w A n L ∧ ∀ a, A = some a → lo ≤ a.block
theorem isCh_of_own {w : World} {base : Nat} {e : TypeId} {v : Value} {n : Nat} {L : Nat → Ch} (h : w.ownsRow base e 5 v n (chC L n)) : IsCh w base v n L := by
  rcases h.2 with ⟨rfl, h0⟩ | ⟨g, cap, cur, rfl, hb, hg, hnc, hcm, hcs, htake⟩
  · exact ⟨none, 0, by rw [h0], by omega, Nat.zero_le _, fun hn => by omega, fun a e => by cases e⟩
  · refine ⟨some ⟨g, 0, none⟩, cap, rfl, hnc, hcm, fun hn => ⟨g, 0, rfl, (Array.getElem?_eq_some_iff.1 hg).1, fun j hj => ?_⟩, fun a e => by cases e; exact hb⟩
    obtain ⟨d0, d1, d2, d3, d4⟩ := chC_at L hj
    exact ⟨by rw [Nat.zero_add, h.cellAt _ (by omega), d0], by rw [Nat.zero_add, h.cellAt _ (by omega), d1], by rw [Nat.zero_add, h.cellAt _ (by omega), d2], by rw [Nat.zero_add, h.cellAt _ (by omega), d3], by rw [Nat.zero_add, h.cellAt _ (by omega), d4]⟩
theorem ch_info : (Try.prog.info? 56).map (fun i => (i.zero, i.size, i.bytes)) = some (some (.agg #[.string ⟨#[]⟩, .int .i64 0, .int .i64 0, .int .i64 0, .int .i64 0]), 5, 48) := by kernel_rfl
/-- An append of a list of chances to chances that the call owns. -/
theorem run_append_ch (w : World) (base : Nat) (v : Value) (n : Nat) (L : Nat → Ch) (hown : w.ownsRow base 56 5 v n (chC L n)) (A : Option Addr) (m c : Nat) (M : Nat → Ch) (hA : Chl w A m M) (hnm : n + m ≤ 3000) (hbase : base ≤ w.heap.size) (ty : TypeId) :
    ∃ v' w', (Builtin.append_ #[22, 22] ty #[v, .slice A m c]).run Try.prog w = .ok v' w' ∧ w'.ownsRow base 56 5 v' (n + m) (chC (catC n L M) (n + m)) ∧ w.grownBy w' v.ownBlock ∧ (v'.ownBlock = v.ownBlock ∨ v'.ownBlock = some w.heap.size) := by
  obtain ⟨i0, hi0, hz0, hz1, hz2⟩ := info_parts6N ch_info
  by_cases hm : m = 0
  · subst hm
    refine ⟨v, w, ?_, by rw [Nat.add_zero, chC_congr (M := L) fun j hj => catC_lt hj]; exact hown, ⟨rfl, rfl, rfl, Nat.le_refl _, fun _ _ _ => rfl⟩, .inl rfl⟩
    rcases hown.2 with ⟨rfl, rfl⟩ | ⟨g, cap, cur, rfl, hb, hg, hnc, hcm, hcs, htake⟩
    · cases A <;> simp [Builtin.append_, run_underlying Try.underlying22, sizeOf, typeInfo, hi0, Builtin.lenOf, Builtin.firstCells, loadCells, loadCellsFrom]
    · cases A <;> simp [Builtin.append_, run_underlying Try.underlying22, sizeOf, typeInfo, hi0, Builtin.lenOf, Builtin.firstCells, loadCells, loadCellsFrom, storeCells, hnc, show n ≤ cap from hnc]
  · obtain ⟨b, off, rfl, hbb, hc⟩ := hA (by omega)
    obtain ⟨v', w', h1, h2, h3, _, h5⟩ := run_append_own_at w base 22 ty 56 i0 _ 5 48 Try.underlying22 hi0 hz0 hz1 hz2 rfl (by omega) v n (chC L n) hown ⟨b, off, none⟩ m c (chC M m) (chC_len M m) (chl_news hA) (chC_one M m) (by unfold maxLen; omega) (by omega) hbase
    exact ⟨v', w', h1, by rw [chC_cat]; exact h2, h3, h5⟩
theorem wp_append_ch {w : World} {o : Oper} {a : Act} {K : Act → World → Prop} {Q : Exit → Act → World → Prop} (s x : Operand)
    (ho : o.op = .call { callee := .builtin .append, args := #[s, x], argTypes := #[22, 22] })
    (base : Nat) (v : Value) (n : Nat) (L : Nat → Ch) (hs : a.eval s = v) (hown : w.ownsRow base 56 5 v n (chC L n)) (A : Option Addr) (m c : Nat) (M : Nat → Ch) (hx : a.eval x = .slice A m c) (hA : Chl w A m M) (hnm : n + m ≤ 3000) (hbase : base ≤ w.heap.size)
    (h : ∀ v' w', w'.ownsRow base 56 5 v' (n + m) (chC (catC n L M) (n + m)) → w.grownBy w' v.ownBlock → (v'.ownBlock = v.ownBlock ∨ v'.ownBlock = some w.heap.size) → K (a.put o.dst v') w') : o.wp Try.prog a w K Q := by
  obtain ⟨v', w', hr, h2, h3, h4⟩ := run_append_ch w base v n L hown A m c M hA hnm hbase o.type
  unfold Oper.wp execOp
  simp only [ho, resolve, invoke, builtin, Sem.run_bind, Sem.run_pure, Result.andThen_ok, List.map_toArray, List.map_cons, List.map_nil, hs, hx, hr]
  exact h v' w' h2 h3 h4
theorem wpList_append_ch {w : World} {ops : Array Oper} {rest : List Oper} {o : Oper} {a : Act} {Q : Exit → Act → World → Prop} (hgd : o.guard = none) (s x : Operand)
    (ho : o.op = .call { callee := .builtin .append, args := #[s, x], argTypes := #[22, 22] })
    (base : Nat) (v : Value) (n : Nat) (L : Nat → Ch) (hs : a.eval s = v) (hown : w.ownsRow base 56 5 v n (chC L n)) (A : Option Addr) (m c : Nat) (M : Nat → Ch) (hx : a.eval x = .slice A m c) (hA : Chl w A m M) (hnm : n + m ≤ 3000) (hbase : base ≤ w.heap.size)
    (h : ∀ v' w', w'.ownsRow base 56 5 v' (n + m) (chC (catC n L M) (n + m)) → w.grownBy w' v.ownBlock → (v'.ownBlock = v.ownBlock ∨ v'.ownBlock = some w.heap.size) → wpList Try.prog ops Q rest (a.put o.dst v') w') : wpList Try.prog ops Q (o :: rest) a w :=
  wpList_plain hgd fun _ hK => wp_append_ch s x ho base v n L hs hown A m c M hx hA hnm hbase fun v' w' h2 h3 h4 => hK _ _ (h v' w' h2 h3 h4)
theorem step_append_ch {w : World} {ops : Array Oper} {o : Oper} {a : Act} {K : Act → World → Prop} {Q : Exit → Act → World → Prop} {E : Prop} (hgd : o.guard = none) (s x : Operand)
    (ho : o.op = .call { callee := .builtin .append, args := #[s, x], argTypes := #[22, 22] })
    (base : Nat) (v : Value) (n : Nat) (L : Nat → Ch) (hs : a.eval s = v) (hown : w.ownsRow base 56 5 v n (chC L n)) (A : Option Addr) (m c : Nat) (M : Nat → Ch) (hx : a.eval x = .slice A m c) (hA : Chl w A m M) (hnm : n + m ≤ 3000) (hbase : base ≤ w.heap.size)
    (h : ∀ v' w', w'.ownsRow base 56 5 v' (n + m) (chC (catC n L M) (n + m)) → w.grownBy w' v.ownBlock → (v'.ownBlock = v.ownBlock ∨ v'.ownBlock = some w.heap.size) → K (a.put o.dst v') w') : if Region.wanted o (yielded ops a.tmps) = true then Oper.wp Try.prog o a w K Q else E := by
  have hw : Region.wanted o (yielded ops a.tmps) = true := by simp [Region.wanted, hgd]
  rw [if_pos hw]
  exact wp_append_ch s x ho base v n L hs hown A m c M hx hA hnm hbase h
theorem own_cat0C {w : World} {base : Nat} {v : Value} {n : Nat} {T L : Nat → Ch} (h : w.ownsRow base 56 5 v (0 + n) (chC (catC 0 T L) (0 + n))) : w.ownsRow base 56 5 v n (chC L n) := by
  rw [Nat.zero_add] at h
  rw [← chC_congr (L := catC 0 T L) fun j _ => by unfold catC; rw [if_neg (by omega), Nat.sub_zero]]
  exact h
theorem below_ownC {w w1 w9 : World} {base : Nat} {e : TypeId} {size : Nat} {v : Value} {n : Nat} {xs : List Value} (hb : Bl w w1) (hown : w1.ownsRow base e size v n xs) (hbase : w.heap.size ≤ base) (hg : w1.grownBy w9 v.ownBlock) : Bl w w9 :=
  Below.grown hb hg hb.size (fun j hj => Nat.le_trans hbase (hown.lt j hj).1)
/-- What lies behind the first ones. -/
theorem Chl.drop {w : World} {b off n k : Nat} {L : Nat → Ch} (h : Chl w (some ⟨b, off, none⟩) n L) (hk : k < n) : Chl w (some ⟨b, off + k * 5, none⟩) (n - k) (fun j => L (k + j)) := fun _ => by
  obtain ⟨b', o', e, hl, hc⟩ := h (by omega)
  obtain ⟨rfl, rfl, -⟩ : b = b' ∧ off = o' ∧ True := by simpa using e
  refine ⟨b, off + k * 5, rfl, hl, fun j hj => ?_⟩
  have := hc (k + j) (by omega)
  rw [show off + (k + j) * 5 = off + k * 5 + j * 5 by omega] at this
  exact this
theorem Chl.none {w : World} {A : Option Addr} {L : Nat → Ch} : Chl w A 0 L := fun h => by omega
theorem Chl.take {w : World} {A : Option Addr} {n k : Nat} {L : Nat → Ch} (h : Chl w A n L) (hk : k ≤ n) : Chl w A k L := fun h0 => by
  obtain ⟨b, o, e, hl, hc⟩ := h (by omega)
  exact ⟨b, o, e, hl, fun j hj => hc j (by omega)⟩
/-- A list with one chance less. -/
def remC (i : Nat) (L : Nat → Ch) (j : Nat) : Ch := if j < i then L j else L (j + 1)
theorem rem_cat (i n : Nat) (L : Nat → Ch) : catC i L (fun j => L (i + 1 + j)) = remC i L := by
  funext j
  unfold catC remC
  by_cases h : j < i
  · rw [if_pos h, if_pos h]
  · rw [if_neg h, if_neg h]; show L (i + 1 + (j - i)) = L (j + 1); rw [show i + 1 + (j - i) = j + 1 by omega]
/-- Where a chance of the lesser list stands in the whole one. -/
def upI (i : Nat) (j : Int) : Int := if j < i then j else j + 1
theorem up_L {i : Nat} {L : Nat → Ch} {j : Int} (hj : 0 ≤ j) : remC i L j.toNat = L (upI i j).toNat := by
  unfold remC upI
  by_cases h : j < i
  · rw [if_pos (by omega), if_pos h]
  · rw [if_neg (by omega), if_neg h]; congr 1; omega
theorem rem_valid {L : Nat → Ch} {n i : Nat} (h : vdB L n = true) (hi : i < n) : vdB (remC i L) (n - 1) = true := by
  have hn := vd_len h
  have hc := fun a b (hab : a < b) (hb : b < n) => vd_chain h hab hb
  rw [← rv_vd, Bool.and_eq_true]
  refine ⟨?_, decide_eq_true (by omega)⟩
  have h1 : rvB L n = true := by
    have := rv_vd (L := L) n
    rw [h, Bool.and_eq_true] at this
    exact this.1
  have hrv : ∀ k, k < n → vcB (L k) = true ∧ ∀ j, j < k → rpB (L j) (L k) = false := by
    intro k hk
    refine ⟨(ms_vc (vd_at h hk)).2, fun j hj => ?_⟩
    clear hn hc hi
    induction n with
    | zero => omega
    | succ n ih =>
      rw [rvB] at h1
      simp only [Bool.and_eq_true, Bool.not_eq_true'] at h1
      by_cases e : k = n
      · subst e
        exact anyTo_no.1 (by simpa using h1.2) j hj
      · exact ih (by
          rw [vdB] at h
          simp only [Bool.and_eq_true] at h
          exact h.1) h1.1.1 (by omega)
  have hmap : ∀ k, k < n - 1 → ∃ k', k' < n ∧ remC i L k = L k' ∧ k' = if k < i then k else k + 1 := fun k hk => by
    unfold remC
    split
    · exact ⟨k, by omega, rfl, rfl⟩
    · exact ⟨k + 1, by omega, rfl, rfl⟩
  have : ∀ m, m ≤ n - 1 → rvB (remC i L) m = true := by
    intro m
    induction m with
    | zero => intro _; rfl
    | succ m ih =>
      intro hm
      obtain ⟨k', hk', ek, ek'⟩ := hmap m (by omega)
      rw [rvB]
      simp only [Bool.and_eq_true, Bool.not_eq_true']
      refine ⟨⟨ih (by omega), by rw [ek]; exact (hrv k' hk').1⟩, anyTo_no.2 fun j hj => ?_⟩
      obtain ⟨j', hj', ej, ej'⟩ := hmap j (by omega)
      rw [ek, ej]
      exact (hrv k' hk').2 j' (by rw [ek', ej']; split <;> split <;> omega)
  exact this _ (Nat.le_refl _)
/-- Right lists stay right with fewer clouds, with a faster instrument, with one more chance. -/
theorem rtl_fewer {L : Nat → Ch} {n : Nat} {S : Nat → Sp2} {m m' : Nat} {per : Int} {x : List Int} (h : RtL L n S m per x) (hm : m' ≤ m) : RtL L n S m' per x := fun k hk => by
  obtain ⟨⟨h1, h2, h3⟩, h4⟩ := h k hk
  refine ⟨⟨h1, h2, ?_⟩, h4⟩
  unfold clrB at h3 ⊢
  rw [Bool.not_eq_true'] at h3 ⊢
  exact anyTo_no.2 fun j hj => anyTo_no.1 h3 j (by omega)
theorem rtl_faster {L : Nat → Ch} {n : Nat} {S : Nat → Sp2} {m : Nat} {per per' : Int} {x : List Int} (h : RtL L n S m per x) (h0 : per' ≤ per) : RtL L n S m per' x := fun k hk => by
  obtain ⟨h1, h4⟩ := h k hk
  refine ⟨h1, fun hk1 => ?_⟩
  obtain ⟨h5, h6⟩ := h4 hk1
  refine ⟨h5, ?_⟩
  unfold flw trn at h6 ⊢
  have h6 := of_decide_eq_true h6
  refine decide_eq_true (Int.le_trans (Int.add_le_add_left (Int.mul_le_mul_of_nonneg_right h0 (by omega)) _) h6)
theorem rtl_up {L : Nat → Ch} {n i : Nat} {S : Nat → Sp2} {m : Nat} {per : Int} {x : List Int} (h : RtL (remC i L) (n - 1) S m per x) (hi : i < n) : RtL L n S m per (x.map (upI i)) := fun k hk => by
  rw [List.length_map] at hk
  have hg : ∀ k, k < x.length → (x.map (upI i)).getD k 0 = upI i (x.getD k 0) := fun k hk => by
    simp [List.getD, List.getElem?_eq_getElem hk]
  obtain ⟨⟨h1, h2, h3⟩, h4⟩ := h k hk
  rw [hg k hk]
  refine ⟨⟨by unfold upI; split <;> omega, by unfold upI; split <;> omega, by rw [← up_L (i := i) (L := L) h1]; exact h3⟩, fun hk1 => ?_⟩
  rw [hg (k - 1) (by omega)]
  obtain ⟨h5, h6⟩ := h4 hk1
  obtain ⟨⟨h7, -, -⟩, -⟩ := h (k - 1) (by omega)
  rw [← up_L (i := i) (L := L) h1, ← up_L (i := i) (L := L) h7]
  exact ⟨by unfold upI; split <;> split <;> omega, h6⟩
theorem wth_up {L : Nat → Ch} {i n : Nat} {x : List Int} (h : ∀ k, k < x.length → 0 ≤ x.getD k 0) : ∀ k, k ≤ x.length → wthF L (x.map (upI i)) k = wthF (remC i L) x k := by
  intro k
  induction k with
  | zero => intro _; rfl
  | succ k ih =>
    intro hk
    rw [wthF, wthF, ih (by omega), show (x.map (upI i)).getD k 0 = upI i (x.getD k 0) by simp [List.getD, List.getElem?_eq_getElem (show k < x.length by omega)], up_L (h k (by omega))]
theorem cld_fewer {S : Nat → Sp2} {m m' : Nat} (h : cldB S m = true) (hm : m' ≤ m) : cldB S m' = true := by
  unfold cldB at h ⊢
  simp only [Bool.and_eq_true, decide_eq_true_eq, Bool.not_eq_true'] at h ⊢
  exact ⟨by omega, anyTo_no.2 fun j hj => anyTo_no.1 h.2 j (by omega)⟩
theorem chk_of {L : Nat → Ch} {n : Nat} {S : Nat → Sp2} {m : Nat} {per : Int} (h1 : vdB L n = true) (h2 : cldB S m = true) (h3 : 0 ≤ per ∧ per ≤ 10000) : chkN L n S m per = 0 := by
  unfold chkN
  rw [if_pos (by rw [h1, h2]; rfl), if_pos (inB_iff.2 h3)]
/-- The three comparisons. -/
theorem more_fewer (L : Nat → Ch) (n : Nat) (S : Nat → Sp2) {m m' : Nat} (per : Int) (hm : m' ≤ m) : wthF L (bestL L n S m per) (bestL L n S m per).length ≤ wthF L (bestL L n S m' per) (bestL L n S m' per).length :=
  best_worth L n S m' per (rtl_fewer (best_ok L n S m per).1 hm)
theorem more_faster (L : Nat → Ch) (n : Nat) (S : Nat → Sp2) (m : Nat) {per per' : Int} (h : per' ≤ per) : wthF L (bestL L n S m per) (bestL L n S m per).length ≤ wthF L (bestL L n S m per') (bestL L n S m per').length :=
  best_worth L n S m per' (rtl_faster (best_ok L n S m per).1 h)
theorem more_less (L : Nat → Ch) (n i : Nat) (S : Nat → Sp2) (m : Nat) (per : Int) (hi : i < n) : wthF (remC i L) (bestL (remC i L) (n - 1) S m per) (bestL (remC i L) (n - 1) S m per).length ≤ wthF L (bestL L n S m per) (bestL L n S m per).length := by
  have h0 := (best_ok (remC i L) (n - 1) S m per).1
  have h1 := best_worth L n S m per (rtl_up h0 hi)
  rw [List.length_map, wth_up (n := n) (fun k hk => (h0 k hk).1.1) _ (Nat.le_refl _)] at h1
  exact h1
end Go.Proofs.Ytbmenpfpeadckaa
