/-
  Leaps of package rate.
-/
import Derived.Test.YtflajochohbokaaRO
import Derived.Test.YtflajochohbokaaRV
import Derived.Shelf.RegionOpen
namespace Go.Proofs.Ytflajochohbokaa
open Go.RowKit Go.Shelf
set_option linter.unusedSimpArgs false
set_option linter.unusedVariables false
attribute [local go_sem] Oper.semAt_some

/-- The blocks from lo on, below hi, hold what they held. -/
def KR (lo hi : Nat) (W W' : World) : Prop := ∀ b o, lo ≤ b → b < hi → W'.cell? ⟨b, o, none⟩ = W.cell? ⟨b, o, none⟩
theorem KR.t {lo hi : Nat} {A B C : World} (h : KR lo hi A B) (k : KR lo hi B C) : KR lo hi A C := fun b o h1 h2 => (k b o h1 h2).trans (h b o h1 h2)
theorem KR.rf (lo hi : Nat) (A : World) : KR lo hi A A := fun _ _ _ _ => rfl
theorem KR.of {lo hi : Nat} {A B : World} (h : Below hi A B) : KR lo hi A B := fun b o _ h2 => h.cell (p := ⟨b, o, none⟩) h2
theorem KR.b {lo hi : Nat} {w : World} (hn : hi ≤ w.heap.size) (W : World) (l : Nat) (o o' : Obj) (hl : w.heap.size ≤ l) (h : W.heap[l]? = some o) (ho : o.isCells = false) (hw : o.isWalk = false) : KR lo hi W (W.putObj l o') :=
  KR.of (belowK_b (w := w) hn W l o o' hl h ho hw)
/-- A slice in such blocks. -/
def Sr (lo hi : Nat) (w : World) (A : Option Addr) (n : Nat) (f : Nat → Int) : Prop :=
  0 < n → ∃ b off, A = some ⟨b, off, none⟩ ∧ lo ≤ b ∧ b < hi ∧ ∀ j, j < n → w.cell? ⟨b, off + j, none⟩ = some (.int .i64 (f j))
theorem Sr.k {lo hi : Nat} {w w' : World} {A : Option Addr} {n : Nat} {f : Nat → Int} (h : Sr lo hi w A n f) (hb : KR lo hi w w') : Sr lo hi w' A n f := fun hn => by
  obtain ⟨b, off, e, h1, h2, hc⟩ := h hn
  exact ⟨b, off, e, h1, h2, fun j hj => (hb b _ h1 h2).trans (hc j hj)⟩

set_option maxRecDepth 100000 in
set_option maxHeartbeats 2000000 in
theorem diff1K_in (m l B1 B2 lo hi : Nat) (A A' : Option Addr) (len cap len' cap' : Nat) (f g : Nat → Int) (hm : 1 ≤ m) (hl : len ≤ len') (hmax : len' ≤ maxLen) (hB2 : lo ≤ B2 ∧ B2 < hi)
    (hbd : bdI (fun j => f j - g j) len) (J Jx : List Ib → World → Prop)
    (hY : ∀ pre x W, J pre W → pre.length < len → YieldAt Fence.wide (m - 1) Try.prog l (encI x) W fun e W' =>
      (e = .returned (.bool true) ∧ J (pre ++ [x]) W' ∧ KR lo hi W W') ∨ (e = .returned (.bool false) ∧ Jx (pre ++ [x]) W'))
    (W : World) (h1 : W.cell? ⟨B1, 0, none⟩ = some (.slice A len cap)) (h2 : W.cell? ⟨B2, 0, none⟩ = some (.slice A' len' cap')) (hA : Sr lo hi W A len f) (hA' : Sr lo hi W A' len' g) (h0 : J [] W) :
    CallsIn Fence.wide m Try.prog 96 #[.func (.yield l) #[] #[], .pointer (some ⟨B1, 0, none⟩), .pointer (some ⟨B2, 0, none⟩)] W fun e W' => (∃ v, e = .returned v) ∧
      ((∃ ys, ys = upI (fun j => f j - g j) len ∧ J ys W') ∨ (∃ pre, (∃ k, k ≤ len ∧ pre = upI (fun j => f j - g j) k) ∧ Jx pre W')) := by
  unfold maxLen at hmax
  have HYY := Lib.hid hY
  have HA := Lib.hid hA
  have HA' := Lib.hid hA'
  clear hY hA hA'
  refine callsIn_of_wp Try.func96 rfl trivial ?_ rfl
  simp only [Try.ntmps96, List.size_toArray, List.length_cons, List.length_nil, Nat.reduceAdd, Nat.reduceSub, Array.replicate_succ, Array.replicate_zero, List.push_toArray, List.append_toArray, List.nil_append, List.cons_append]
  gi_wp2_with fail
  gi_loopw [8] (fun i wr => ∃ k : Nat, k ≤ len ∧ i = .int .i64 k ∧ J (upI (fun j => f j - g j) k) wr ∧ KR lo hi W wr) (fun i _ => len - (intOf i).toNat)
  case atStart => exact ⟨0, Nat.zero_le _, rfl, h0, KR.rf _ _ _⟩
  case round =>
    obtain ⟨k, hk, rfl, hJs, hnx⟩ := hrel
    by_cases hlt : k < len
    · obtain ⟨b, off, eA, hb, hb', hc⟩ := HA.out (by omega)
      obtain ⟨b', off', eA', hc1, hc2, hc'⟩ := HA'.out (by omega)
      subst eA eA'
      have c1 := (hnx b (off + k) hb hb').trans (hc k hlt)
      have c2 := (hnx b' (off' + k) hc1 hc2).trans (hc' k (by omega))
      have c3 := (hnx B2 0 hB2.1 hB2.2).trans h2
      clear hc hc'
      have bd : -1000000000000000 ≤ f k - g k ∧ f k - g k ≤ 1000000000000000 := hbd k hlt
      have k' : k < len' := by omega
      obtain ⟨fn, tmps, assign, body, hy, hR⟩ := HYY.out _ (toIb (f k - g k)) wr hJs (by rw [upI_length]; exact hlt)
      simp only [encI, toIb_at bd] at hy
      obtain ⟨bd1, bd2⟩ := bd
      gi_wp2_with fail
      refine hR.mono ?_
      rintro e W3 (⟨rfl, hJ3, hk3⟩ | ⟨rfl, hJx3⟩)
      · gi_wp2_with fail
        go_roundw
        case rel => exact ⟨k + 1, by omega, by go_num, by rw [upI_succ]; exact hJ3, hnx.t hk3⟩
        case measure => simp [intOf]; omega
      · gi_wp2
        refine bodyPost_ret (results_none rfl _ _ _) rfl ?_
        exact ⟨⟨_, rfl⟩, .inr ⟨_, ⟨k + 1, by omega, (upI_succ _ _).symm⟩, hJx3⟩⟩
    · obtain rfl : k = len := by omega
      gi_wp2
      go_end0
      exact ⟨⟨_, rfl⟩, .inl ⟨_, rfl, hJs⟩⟩

/-- The days with a leap above a number. -/
def lpL (g : Nat → Int) (most : Int) : Nat → List Int
  | 0 => []
  | k + 1 => if most < ((g k).natAbs : Int) then lpL g most k ++ [(k : Int) + 1] else lpL g most k
theorem lpL_congr {f g : Nat → Int} {most : Int} {k : Nat} (h : ∀ j, j < k → f j = g j) : lpL f most k = lpL g most k := by
  induction k with
  | zero => rfl
  | succ k ih => rw [lpL, lpL, ih (fun j hj => h j (by omega)), h k (by omega)]
theorem lpL_len (g : Nat → Int) (most : Int) (k : Nat) : (lpL g most k).length ≤ k := by
  induction k with
  | zero => exact Nat.le_refl _
  | succ k ih =>
    rw [lpL]
    split
    · rw [List.length_append, List.length_singleton]; omega
    · omega
def atI (pre : List Ib) (j : Nat) : Int := (pre[j]?.getD (toIb 0)).1
def lpP (most : Int) (pre : List Ib) : List Int := lpL (atI pre) most pre.length
theorem lpP_snoc (most : Int) (pre : List Ib) (x : Ib) : lpP most (pre ++ [x]) = if most < (x.1.natAbs : Int) then lpP most pre ++ [(pre.length : Int) + 1] else lpP most pre := by
  have e1 : ∀ j, j < pre.length → atI (pre ++ [x]) j = atI pre j := fun j hj => by unfold atI; rw [List.getElem?_append_left hj]
  have e2 : atI (pre ++ [x]) pre.length = x.1 := by unfold atI; rw [List.getElem?_append_right (Nat.le_refl _)]; simp
  unfold lpP
  rw [List.length_append, List.length_singleton, lpL, e2, lpL_congr e1]
theorem lpP_up {g : Nat → Int} {most : Int} {k : Nat} (h : bdI g k) : lpP most (upI g k) = lpL g most k := by
  unfold lpP
  rw [upI_length]
  refine lpL_congr fun j hj => ?_
  unfold atI upI
  rw [List.getElem?_map, List.getElem?_range hj]
  exact toIb_at (h j hj)
theorem lpP_len (most : Int) (pre : List Ib) : (lpP most pre).length ≤ pre.length := lpL_len _ _ _
theorem boxed_bl {W W' : World} {B : Nat} {t : TypeId} {v : Value} (h : Boxed W B t v) (hb : Bl W W') : Boxed W' B t v := (hb.block B h.lt).trans h
theorem kr_app {W w1 : World} {tmp : Obj} {v : Value} {lo hi k B : Nat} {xs : List Value} {u : Value} (hgrow : (W.alloc tmp).grownBy w1 v.ownBlock) (hrow : W.ownsRow hi 3 1 v k xs) (hhi : hi ≤ W.heap.size) (hB : B < lo) :
    KR lo hi W (w1.setCell ⟨B, 0, none⟩ u) := fun b o h1 h2 => by
  refine World.cell?_of_block ?_
  rw [Below.heap_setCell _ _ _ b (fun e => absurd h1 (by rw [e]; exact Nat.not_le.2 hB))]
  rw [hgrow.block b (by simp; omega) (fun e => by have := (hrow.lt b e.symm).1; omega)]
  exact Below.heap_alloc _ _ _ (by omega)

set_option maxRecDepth 100000 in
set_option maxHeartbeats 1000000 in
theorem stepsK_any (A : Option Addr) (n c : Nat) (f : Nat → Int) (w : World) (lo : Nat) (hA : Sr lo w.heap.size w A n f) (h1 : 1 ≤ n) (hc : n ≤ c) (hmax : c ≤ maxLen) (hlo : lo ≤ w.heap.size) (hbd : bdI (stF f) (n - 1)) :
    Calls Try.prog 56 #[.slice A n c] w fun e w' => Bl w w' ∧ w'.heap.size = w.heap.size + 2 ∧ e = .returned (.func (.func 96) #[] #[.pointer (some ⟨w.heap.size, 0, none⟩), .pointer (some ⟨w.heap.size + 1, 0, none⟩)]) ∧
      SeqStopsK Fence.wide 2 Try.prog 96 #[.pointer (some ⟨w.heap.size, 0, none⟩), .pointer (some ⟨w.heap.size + 1, 0, none⟩)] encI (KR lo (w.heap.size + 2)) (fun ys => ys = upI (stF f) (n - 1)) (fun pre => ∃ j, j ≤ n - 1 ∧ pre = upI (stF f) j) (n - 1) w' := by
  obtain ⟨b, off, rfl, hb1, hb2, hcc⟩ := hA h1
  have fin : ∀ (A' : Option Addr) (c' : Nat) (w' : World), w' = (w.alloc (.cells #[.slice A' (n - 1) c'] 22)).alloc (.cells #[.slice (some ⟨b, off, none⟩) n c] 22) → Sr lo (w.heap.size + 2) w A' (n - 1) (fun j => f (j + 1)) →
      Bl w w' ∧ w'.heap.size = w.heap.size + 2 ∧ SeqStopsK Fence.wide 2 Try.prog 96 #[.pointer (some ⟨w.heap.size, 0, none⟩), .pointer (some ⟨w.heap.size + 1, 0, none⟩)] encI (KR lo (w.heap.size + 2)) (fun ys => ys = upI (stF f) (n - 1)) (fun pre => ∃ j, j ≤ n - 1 ∧ pre = upI (stF f) j) (n - 1) w' := fun A' c' w' hw hS => by
    have hB : Bl w w' := by rw [hw]; go_grown
    have hz : w'.heap.size = w.heap.size + 2 := by rw [hw]; simp
    refine ⟨hB, hz, fun l J Jx W hW _ _ hY h0 => ?_⟩
    have hBW : Bl w W := hB.tr hW
    have q1 : w'.cell? ⟨w.heap.size, 0, none⟩ = some (.slice A' (n - 1) c') := by rw [hw]; go_cell
    have q2 : w'.cell? ⟨w.heap.size + 1, 0, none⟩ = some (.slice (some ⟨b, off, none⟩) n c) := by rw [hw]; go_cell
    refine diff1K_in 2 l _ _ lo (w.heap.size + 2) A' (some ⟨b, off, none⟩) (n - 1) c' n c (fun j => f (j + 1)) f (by omega) (by omega) (by omega) (by omega) hbd J Jx hY W (kcb hW q1) (kcb hW q2) ?_ ?_ h0
    · intro hn
      obtain ⟨b', off', e, g1, g2, hc'⟩ := hS hn
      exact ⟨b', off', e, g1, g2, fun j hj => kcb hBW (hc' j hj)⟩
    · intro hn
      exact ⟨b, off, rfl, hb1, by omega, fun j hj => kcb hBW (hcc j hj)⟩
  have HF := Lib.hid fin
  have HM := Lib.hid hmax
  have HCC := Lib.hid hcc
  clear hA fin hcc
  unfold maxLen at hmax
  go_enter Try.func56, Try.ntmps56
  go_wp2_with fail
  · have hn1 : n = 1 := by omega
    refine (differences_any _ _ _ _ _ _ _).mono ?_
    rintro e w1 ⟨rfl, hw⟩
    have hc1 : c = 1 := by omega
    have h3 := HF.out (some ⟨b, off, none⟩) 0 w1 (by rw [hc1]; exact hw) (fun h0 => absurd h0 (by omega))
    have H3 := Lib.hid h3
    clear hw h3
    go_wp2_with fail
    go_ret
    exact ⟨H3.out.1, H3.out.2.1, rfl, H3.out.2.2⟩
  · refine (differences_any _ _ _ _ _ _ _).mono ?_
    rintro e w1 ⟨rfl, hw⟩
    have h3 := HF.out (some ⟨b, off + 1, none⟩) (c - 1) w1 hw (fun h0 => ⟨b, off + 1, rfl, hb1, by omega, fun j hj => by rw [show off + 1 + j = off + (j + 1) by omega]; exact HCC.out (j + 1) (by omega)⟩)
    have H3 := Lib.hid h3
    clear hw h3
    go_wp2_with fail
    go_ret
    exact ⟨H3.out.1, H3.out.2.1, rfl, H3.out.2.2⟩
end Go.Proofs.Ytflajochohbokaa
