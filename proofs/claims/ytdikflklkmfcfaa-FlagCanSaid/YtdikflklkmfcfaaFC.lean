/-
  slices.Clone of numbers; what an iterator over hoists and its caller keep.
-/
import Derived.Test.YtdikflklkmfcfaaFB
import Derived.Test.YtdikflklkmfcfaaSO
import Derived.WalkKit
import Derived.Laws.OwnMore
import Derived.Deep.AppendLies
import Derived.RangeFuncBound
import Derived.RangeFuncCalls
import Derived.RangeFuncLeaves
import Derived.RangeFuncFrom
import Derived.RangeFuncBox
import Derived.Shelf.Abstract
import Derived.OwnWalkIn
import Derived.TacticsInMore
import Derived.LoopNIn
import Derived.LoopIn
import Derived.Maps.AppendAt
import Derived.Laws.EntriesVeiled
import Derived.Deep.RegionLaw
import Derived.Shelf.RegionOpen
namespace Go.Proofs.Ytdikflklkmfcfaa
open Go.RowKit Go.Shelf
set_option linter.unusedSimpArgs false
set_option linter.unusedVariables false

theorem info_parts7 {P : Program} {t : TypeId} {z : Value} {n b : Nat} (h : (P.info? t).map (fun i => (i.zero, i.size, i.bytes)) = some (some z, n, b)) : ∃ i, P.info? t = some i ∧ i.zero = some z ∧ i.size = n ∧ i.bytes = b := by
  cases hi : P.info? t with
  | none => rw [hi] at h; cases h
  | some i =>
    rw [hi] at h
    simp only [Option.map_some, Option.some.injEq, Prod.mk.injEq] at h
    exact ⟨i, rfl, h.1, h.2.1, h.2.2⟩
theorem int_info7 : (Try.prog.info? 3).map (fun i => (i.zero, i.size, i.bytes)) = some (some (.int .i64 0), 1, 8) := by kernel_rfl
theorem own_sl7 {w : World} {base : Nat} {e : TypeId} {v : Value} {n : Nat} {l : List Nat} (h : w.ownsRow base e 1 v n (inN l)) : n = l.length ∧ ∃ A cap, v = .slice A n cap ∧ n ≤ cap ∧ cap ≤ maxLen ∧ Sl w A n (gI l) := by
  have hn : n = l.length := by have := h.1; rw [inN_len] at this; omega
  refine ⟨hn, ?_⟩
  rcases h.2 with ⟨rfl, rfl⟩ | ⟨g, cap, cur, rfl, hb, hg, hnc, hcm, _⟩
  · exact ⟨none, 0, rfl, Nat.le_refl _, by decide, fun h => absurd h (by omega)⟩
  · refine ⟨some ⟨g, 0, none⟩, cap, rfl, hnc, hcm, fun hn' => ⟨g, 0, rfl, (Array.getElem?_eq_some_iff.1 hg).1, fun j hj => ?_⟩⟩
    rw [Nat.zero_add]
    exact (h.cellAt j (by omega)).trans (inN_at (by omega))
theorem in_news7 {w : World} {ad : Addr} {n : Nat} {l : List Nat} (hn : n = l.length) (h : Sl w (some ad) n (gI l)) : ∀ j u, (inN l)[j]? = some u → w.cell? (ad.add j) = some u := fun j u hu => by
  have hj : j < l.length := by have := (List.getElem?_eq_some_iff.1 hu).1; rwa [inN_len] at this
  obtain ⟨b', off', e, _, hc⟩ := h (by omega)
  obtain rfl : ad = ⟨b', off', none⟩ := Option.some.inj e
  rw [show (⟨b', off', none⟩ : Addr).add j = ⟨b', off' + j, none⟩ by unfold Addr.add; split <;> simp_all, hc j (by omega), ← hu, inN_at hj]
theorem nil_no7 (b off n c : Nat) (w : World) : Sem.run Try.prog (binOp .eql 22 (.slice (some ⟨b, off, none⟩) n c) (.slice none 0 0)) w = .ok (.bool false) w := by kernel_rfl
set_option maxRecDepth 100000 in
set_option maxHeartbeats 3200000 in
theorem clone7_any (A : Option Addr) (n c : Nat) (l : List Nat) (w : World) (hA : Sl w A n (gI l)) (hl : n = l.length) (h1 : 1 ≤ n) (h6 : n ≤ 400) :
    Calls Try.prog 44 #[.slice A n c] w fun e w' => ∃ g cap, e = .returned (.slice (some ⟨g, 0, none⟩) n cap) ∧ w'.ownsRow w.heap.size 3 1 (.slice (some ⟨g, 0, none⟩) n cap) n (inN l) ∧ Bl w w' := by
  obtain ⟨i0, hi0, hz0, hz1, hz2⟩ := info_parts7 int_info7
  have HI := Lib.hid (And.intro hi0 (And.intro hz0 (And.intro hz1 hz2)))
  clear hi0 hz0 hz1 hz2
  obtain ⟨b, off, rfl, hbb, hc⟩ := hA (by omega)
  have HA := Lib.hid hA
  have HL := Lib.hid hl
  clear hA hc hl
  go_enter Try.func44, Try.ntmps44
  have HO := Lib.hid (World.ownsRow_lit (base := w.heap.size) (size := 1) (e := 3) w #[] 0 (Nat.le_refl _) (by decide) rfl)
  have EN := nil_no7 b off n c
  go_wp2_with (at_builtin; refine wpList_append_lies _ rfl _ _ _ rfl w.heap.size 3 i0 _ 1 8 Try.underlying22 HI.out.1 HI.out.2.1 HI.out.2.2.1 HI.out.2.2.2 rfl (by omega) _ 0 [] rfl HO.out ⟨b, off, none⟩ n c (inN l) rfl (by rw [inN_len, Nat.mul_one, HL.out]) (in_news7 HL.out (HA.out.below (by go_grown))) (inN_one l) (by omega) (by unfold maxLen; omega) (by omega) (by (try simp only [World.size_alloc]); omega) _ rfl ?_; intro gg cap w9 hown1 hgrow hat hlt9)
  have hown2 : w9.ownsRow w.heap.size 3 1 (.slice (some ⟨gg, 0, none⟩) n cap) n (inN l) := by have h := hown1; simp only [Nat.zero_add, List.nil_append] at h; exact h
  have HO9 := Lib.hid hown2
  have B9 : Bl w w9 := Below.grown (by go_grown) hgrow (by (try simp only [World.size_alloc]); omega) (fun j hj => by have hj : w.heap.size = j := Option.some.inj hj; omega)
  clear hown1 hown2
  (try simp only [Nat.zero_add])
  go_ret
  exact ⟨gg, cap, rfl, HO9.out, B9⟩

/-- A hoist that an iterator hands over: its block, its capacity, its flags. -/
abbrev Hst := Nat × Nat × List Nat
def encH (x : Hst) : Array Value := #[.slice (some ⟨x.1, 0, none⟩) x.2.2.length x.2.1]
def GvH (x : Hst) (k : Nat) : Prop := k = x.1
def AtH (x : Hst) (W : World) : Prop := W.ownsRow 0 3 1 (.slice (some ⟨x.1, 0, none⟩) x.2.2.length x.2.1) x.2.2.length (inN x.2.2) ∧ 1 ≤ x.2.2.length ∧ x.2.2.length ≤ 4
/-- What lies below n1, but for the blocks from c0 on below c1, lies as it lay. -/
structure Lo (c0 c1 n1 : Nat) (V W : World) : Prop where
  same : ∀ k, k < n1 → ¬ (c0 ≤ k ∧ k < c1) → W.heap[k]? = V.heap[k]?
theorem Lo.refl (c0 c1 n1 : Nat) (W : World) : Lo c0 c1 n1 W W := ⟨fun _ _ _ => rfl⟩
theorem Lo.trans {c0 c1 n1 : Nat} {X Y Z : World} (h : Lo c0 c1 n1 X Y) (k : Lo c0 c1 n1 Y Z) : Lo c0 c1 n1 X Z := ⟨fun i hi hc => (k.same i hi hc).trans (h.same i hi hc)⟩
theorem Lo.of_below {c0 c1 n1 B : Nat} {X Y : World} (h : Below B X Y) (hB : n1 ≤ B) : Lo c0 c1 n1 X Y := ⟨fun k hk _ => h.block k (by omega)⟩
theorem Lo.cell {c0 c1 n1 b o : Nat} {v : Value} {X Y : World} (h : Lo c0 c1 n1 X Y) (hb : b < n1) (hc : ¬ (c0 ≤ b ∧ b < c1)) (hv : X.cell? ⟨b, o, none⟩ = some v) : Y.cell? ⟨b, o, none⟩ = some v :=
  (World.cell?_of_block (h.same b hb hc)).trans hv
theorem Lo.put {c0 c1 n1 : Nat} (W : World) (l : Nat) (o : Obj) (hl : n1 ≤ l) : Lo c0 c1 n1 W (W.putObj l o) := ⟨fun k hk _ => World.putObj_heap_other (by omega)⟩
/-- Blocks from B on, but for O and two rows, lie as they lay. -/
structure FrH (B : Nat) (O : Nat → Prop) (hv dv : Value) (W W' : World) : Prop where
  size : W.heap.size ≤ W'.heap.size
  same : ∀ k, B ≤ k → k < W.heap.size → ¬ O k → some k ≠ hv.ownBlock → some k ≠ dv.ownBlock → W'.heap[k]? = W.heap[k]?
theorem FrH.refl (B : Nat) (O : Nat → Prop) (hv dv : Value) (W : World) : FrH B O hv dv W W := ⟨Nat.le_refl _, fun _ _ _ _ _ _ => rfl⟩
theorem FrH.cell {B b o : Nat} {O : Nat → Prop} {hv dv v : Value} {W W' : World} (h : FrH B O hv dv W W') (hb : B ≤ b) (hO : ¬ O b) (h1 : some b ≠ hv.ownBlock) (h2 : some b ≠ dv.ownBlock) (hc : W.cell? ⟨b, o, none⟩ = some v) : W'.cell? ⟨b, o, none⟩ = some v :=
  (World.cell?_of_block (h.same b hb (World.block_lt_of_cell? W ⟨b, o, none⟩ hc) hO h1 h2)).trans hc
/-- A row whose block lies as it lay. -/
theorem own_same {w w' : World} {base : Nat} {e : TypeId} {size : Nat} {v : Value} {n : Nat} {xs : List Value} (h : w.ownsRow base e size v n xs) (hk : ∀ g, v.ownBlock = some g → w'.heap[g]? = w.heap[g]?) : w'.ownsRow base e size v n xs := by
  refine ⟨h.1, ?_⟩
  rcases h.2 with hn | ⟨g, cap, cur, rfl, hb, hgg, rest⟩
  · exact .inl hn
  · exact .inr ⟨g, cap, cur, rfl, hb, (hk g rfl).trans hgg, rest⟩
theorem own_base {w : World} {base base' : Nat} {e : TypeId} {size : Nat} {v : Value} {n : Nat} {xs : List Value} (h : w.ownsRow base e size v n xs) (hk : ∀ g, v.ownBlock = some g → base' ≤ g) : w.ownsRow base' e size v n xs := by
  refine ⟨h.1, ?_⟩
  rcases h.2 with hn | ⟨g, cap, cur, rfl, hb, rest⟩
  · exact .inl hn
  · exact .inr ⟨g, cap, cur, rfl, hk g rfl, rest⟩
/-- The same row's beginning. -/
theorem own_take {w : World} {base : Nat} {e : TypeId} {g n n' cap cap' : Nat} {xs ys : List Value} (h : w.ownsRow base e 1 (.slice (some ⟨g, 0, none⟩) n' cap') n' (xs ++ ys)) (hn : xs.length = n) (hc : n ≤ cap) (hcc : cap' = cap) : w.ownsRow base e 1 (.slice (some ⟨g, 0, none⟩) n cap) n xs := by
  subst hcc
  refine ⟨by omega, .inr ?_⟩
  rcases h.2 with ⟨h', _⟩ | ⟨g', cap', cur, h', hb, hg, hnc, hcm, hsz, htk⟩
  · simp at h'
  · simp only [Value.slice.injEq, Option.some.injEq, Addr.mk.injEq, and_true, true_and] at h'
    obtain ⟨rfl, rfl⟩ := h'
    refine ⟨_, _, cur, rfl, hb, hg, hc, hcm, hsz, ?_⟩
    have hl : (xs ++ ys).length = n' * 1 := h.1
    have h2 : cur.toList.take (n * 1) = (cur.toList.take (n' * 1)).take (n * 1) := by rw [List.take_take]; congr 1; rw [List.length_append] at hl; omega
    rw [h2, htk, List.take_append_of_le_length (by omega), List.take_of_length_le (by omega)]
end Go.Proofs.Ytdikflklkmfcfaa
