/-
  Over any iterator of numbers: slices.AppendSeq, slices.Collect, the least and the greatest.
-/
import Derived.Test.YtbhdoafcjfcgfaaRC
import Derived.Laws.OwnMore
import Derived.Lib.MinMax
namespace Go.Proofs.Ytbhdoafcjfcgfaa
open Go.RowKit Go.Shelf
set_option linter.unusedSimpArgs false
set_option linter.unusedVariables false
attribute [local go_sem] Oper.semAt_some

theorem info_parts6 {P : Program} {t : TypeId} {z : Value} {n b : Nat} (h : (P.info? t).map (fun i => (i.zero, i.size, i.bytes)) = some (some z, n, b)) : ∃ i, P.info? t = some i ∧ i.zero = some z ∧ i.size = n ∧ i.bytes = b := by
  cases hi : P.info? t with
  | none => rw [hi] at h; cases h
  | some i =>
    rw [hi] at h
    simp only [Option.map_some, Option.some.injEq, Prod.mk.injEq] at h
    exact ⟨i, rfl, h.1, h.2.1, h.2.2⟩
theorem int_info : (Try.prog.info? 3).map (fun i => (i.zero, i.size, i.bytes)) = some (some (.int .i64 0), 1, 8) := by kernel_rfl
/-- The cells of numbers. -/
def inC (f : Nat → Int) : Nat → List Value
  | 0 => []
  | k + 1 => inC f k ++ [.int .i64 (f k)]
theorem inC_len (f : Nat → Int) (k : Nat) : (inC f k).length = k := by
  induction k with
  | zero => rfl
  | succ k ih => simp [inC, ih]
theorem inC_at (f : Nat → Int) {n j : Nat} (hj : j < n) : (inC f n)[j]? = some (.int .i64 (f j)) := by
  induction n with
  | zero => omega
  | succ n ih =>
    by_cases e : j = n
    · subst e
      rw [inC, List.getElem?_append_right (by rw [inC_len]; omega), inC_len]; simp
    · rw [inC, List.getElem?_append_left (by rw [inC_len]; omega)]; exact ih (by omega)
theorem inC_congr {f g : Nat → Int} {n : Nat} (h : ∀ j, j < n → f j = g j) : inC f n = inC g n := by
  induction n with
  | zero => rfl
  | succ n ih => rw [inC, inC, ih (fun j hj => h j (by omega)), h n (by omega)]
theorem inC_up {f : Nat → Int} {k : Nat} (h : bdI f k) : (upI f k).map (fun x => Value.int .i64 x.1) = inC f k := by
  induction k with
  | zero => rfl
  | succ k ih => rw [upI_succ, List.map_append, ih (fun j hj => h j (by omega)), inC, List.map_singleton, toIb_at (h k (by omega))]
theorem sl_of_own {w : World} {base : Nat} {e : TypeId} {v : Value} {n : Nat} {f : Nat → Int} (h : w.ownsRow base e 1 v n (inC f n)) : ∃ A cap, v = .slice A n cap ∧ n ≤ cap ∧ cap ≤ maxLen ∧ Sl w A n f := by
  rcases h.2 with ⟨rfl, rfl⟩ | ⟨g, cap, cur, rfl, hb, hg, hnc, hcm, _⟩
  · exact ⟨none, 0, rfl, Nat.le_refl _, by decide, fun h => absurd h (by omega)⟩
  · refine ⟨some ⟨g, 0, none⟩, cap, rfl, hnc, hcm, fun hn => ⟨g, 0, rfl, (Array.getElem?_eq_some_iff.1 hg).1, fun j hj => ?_⟩⟩
    rw [Nat.zero_add]
    exact (h.cellAt j (by omega)).trans (inC_at f hj)

/-- A slice of n numbers that is the caller's own. -/
def OwnS (base : Nat) (f : Nat → Int) (n : Nat) (w : World) (e : Ending) (w' : World) : Prop :=
  Bl w w' ∧ ∃ v, e = .returned v ∧ w'.ownsRow base 3 1 v n (inC f n)

set_option maxRecDepth 100000 in
set_option maxHeartbeats 4000000 in
theorem appendSeq_any {gf : Nat} {lb : Array Value} {f : Nat → Int} {k : Nat} (w : World) (hit : ItI gf lb f k w) (hk : k * 8 ≤ 140737488355328) :
    Calls Try.prog 65 #[.slice none 0 0, .func (.func gf) #[] lb] w (OwnS w.heap.size f k w) := by
  obtain ⟨i0, hi, hz0, hz1, hz2⟩ := info_parts6 int_info
  obtain ⟨hent, hmax, hbd, hseq⟩ := hit
  refine (callsIn_wide (n := 3)).1 ?_
  refine callsIn_of_wp_marks Try.func65 rfl trivial ?_ rfl
  simp only [Try.ntmps65, List.size_toArray, List.length_cons, List.length_nil, Nat.reduceAdd, Nat.reduceSub, Array.replicate_succ, Array.replicate_zero, List.push_toArray, List.append_toArray, List.nil_append, List.cons_append]
  gi_wp2
  have bO := Boxed.new w 22 (.slice none 0 0)
  have hB0 : Below w.heap.size w (w.alloc (.cells #[.slice none 0 0] 22)) := (Below.refl _ w).alloc (Nat.le_refl _) _
  refine wpIn_rangeFunc_ownG rfl (by decide) (gf := gf) (lb := lb) rfl trivial hent hseq belowK_t (belowK_b (by simp)) hB0 (fun _ => rfl)
    (fun pre W => (∃ v, Boxed W w.heap.size 22 v ∧ W.ownsRow w.heap.size 3 1 v pre.length (pre.map (fun x => Value.int .i64 x.1)) ∧ True) ∧ Below w.heap.size w W)
    (fun _ _ _ => False)
    (OwnFrom.and (Own.from (holdsRow_own w.heap.size w.heap.size 22 3 1 (fun pre : List Ib => pre.length) (fun pre => pre.map (fun x => Value.int .i64 x.1)) (fun pre v => True)) _) (ownFrom_below (Nat.le_refl _) (by simp)))
    (fun _ _ _ _ _ hs _ _ => hs)
    ⟨⟨_, bO, World.ownsRow_nil _ _ _ _, trivial⟩, hB0⟩
    (fun x => { tmps := #[.slice none 0 0, .func (.func gf) #[] lb, .pointer (some ⟨w.heap.size, 0, none⟩), undef, .slice none 0 0, .int .i64 x.1, .func (.func gf) #[] lb, .int .i64 x.1, undef, undef, undef, undef, undef], defers := [] }) ?assign ?body ?done ?stop
  case assign =>
    intro l x W K hK
    simp only [encI]
    gi_wp2
    exact hK
  case body =>
    rintro l pre x W ⟨⟨v, hv, hrow, _⟩, hB⟩ hlt
    have hc := hv.cell
    have hm' : k ≤ 2 ^ 63 - 1 := by unfold maxLen at hmax; exact hmax
    gi_wp2_with (gi_at_builtin; refine wpListIn_append_own _ rfl _ _ 22 rfl w.heap.size 3 i0 (.int .i64 0) 1 8 Try.underlying22 hi hz0 hz1 hz2 rfl (by decide) _ _ _ rfl (hrow.alloc _) ⟨W.heap.size, 0, none⟩ 1 1 [.int .i64 x.1] rfl rfl (cell_one_new _ _ _) (by simp [Value.oneCell']) (by unfold maxLen; omega) (by omega) (by have := hB.size; simp; omega) ?_; intro v' w1 hown' hgrow _; obtain ⟨g', cap', rfl⟩ := ownsRow_succ hown'; obtain ⟨hv1, hv2, hr2, hk2, hb2⟩ := hv.appended (by decide) hrow hB.size (Nat.le_refl _) hown' hgrow; have hc1 := hv1.cell; have hf1 := hv1.frozen)
    exact ⟨hk2.from _, hb2, ⟨_, hv2, by simpa using hr2, trivial⟩, hB.trans hb2⟩
  case done =>
    rintro D ys W hD rfl ⟨⟨v, hv, hrow, _⟩, hB⟩ hK
    have hc := hv.cell
    gi_wp2
    refine ⟨by simp, .inl ⟨_, _, rfl, run_takeDeferred hK, ?_⟩⟩
    refine ⟨_, results_tmp rfl _ _ _, hB.trans (belowK_b (w := w) (Nat.le_refl _) W D _ _ (by simp at hD; omega) hK rfl rfl), v, rfl, ?_⟩
    rw [inC_up hbd, upI_length] at hrow
    exact ownsRow_putObj hrow _ hK rfl
  case stop =>
    rintro D c pre W _ _ h _
    exact h.elim

theorem collect_any {gf : Nat} {lb : Array Value} {f : Nat → Int} {k : Nat} (w : World) (hit : ItI gf lb f k w) (hk : k * 8 ≤ 140737488355328) :
    Calls Try.prog 36 #[.func (.func gf) #[] lb] w (OwnS w.heap.size f k w) := by
  go_enter Try.func36, Try.ntmps36
  go_wp2_with fail
  refine (appendSeq_any w hit hk).mono ?_
  rintro e w1 ⟨hb, v, rfl, hrow⟩
  go_wp2_with fail
  go_ret
  exact ⟨hb, v, rfl, hrow⟩

/-- The least and the greatest of the first numbers. -/
def mnF (f : Nat → Int) : Nat → Int
  | 0 => f 0
  | k + 1 => min (mnF f k) (f k)
def mxF (f : Nat → Int) : Nat → Int
  | 0 => f 0
  | k + 1 => max (mxF f k) (f k)
/-- What ends returns. -/
def enF (f : Nat → Int) (k : Nat) : Int × Int := if k = 0 then (0, 0) else (mnF f k, mxF f k)
def mnL : List Ib → Int
  | [] => 0
  | x :: xs => xs.foldl (fun m y => min m y.1) x.1
def mxL : List Ib → Int
  | [] => 0
  | x :: xs => xs.foldl (fun m y => max m y.1) x.1
theorem mnL_snoc (pre : List Ib) (x : Ib) (h : pre ≠ []) : mnL (pre ++ [x]) = min (mnL pre) x.1 := by
  cases pre with
  | nil => exact absurd rfl h
  | cons y ys => simp [mnL]
theorem mxL_snoc (pre : List Ib) (x : Ib) (h : pre ≠ []) : mxL (pre ++ [x]) = max (mxL pre) x.1 := by
  cases pre with
  | nil => exact absurd rfl h
  | cons y ys => simp [mxL]
theorem enL_up {f : Nat → Int} {k : Nat} (h : bdI f k) : (mnL (upI f k), mxL (upI f k)) = enF f k := by
  cases k with
  | zero => rfl
  | succ k =>
    rw [enF, if_neg (by omega)]
    induction k with
    | zero => rw [upI_succ]; simp [upI, mnL, mxL, mnF, mxF, toIb_at (h 0 (by omega))]
    | succ k ih =>
      have e := ih (fun j hj => h j (by omega))
      have hne : upI f (k + 1) ≠ [] := fun e => by have := congrArg List.length e; rw [upI_length] at this; simp at this
      rw [upI_succ, mnL_snoc _ _ hne, mxL_snoc _ _ hne, (Prod.mk.inj e).1, (Prod.mk.inj e).2, toIb_at (h (k + 1) (by omega))]
      rfl
end Go.Proofs.Ytbhdoafcjfcgfaa
