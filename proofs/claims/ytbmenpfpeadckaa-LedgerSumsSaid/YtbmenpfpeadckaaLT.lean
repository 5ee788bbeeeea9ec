/-
  Contracts of package ledger: the days of a record.
-/
import Derived.Test.YtbmenpfpeadckaaLS
import Derived.Test.YtbmenpfpeadckaaShelf
namespace Go.Proofs.Ytbmenpfpeadckaa
open Go.RowKit Go.Maps Go.Sort
set_option linter.unusedSimpArgs false
set_option linter.unusedVariables false

abbrev srt (zs : List Int) : List Int := zs.mergeSort fun x y => decide (x ≤ y)
theorem srt_len (zs : List Int) : (srt zs).length = zs.length := List.length_mergeSort zs
theorem own_form {w : World} {base : Nat} {v : Value} {zs : List Int} (h : w.ownsRow base 3 1 v zs.length (intL zs)) :
    (zs = [] ∧ ∃ p cap, v = .slice p 0 cap) ∨ ∃ g cap cur, v = .slice (some ⟨g, 0, none⟩) zs.length cap ∧ base ≤ g ∧ w.heap[g]? = some (.cells cur 3 (0, 0)) ∧ zs.length ≤ cap ∧ cap ≤ maxLen ∧ cur.size = cap * 1 ∧ cur.toList.take zs.length = zs.map (Value.int .i64) := by
  rcases h.2 with ⟨rfl, h0⟩ | ⟨g, cap, cur, rfl, hb, hg, hnc, hcm, hcs, htake⟩
  · exact .inl ⟨List.eq_nil_of_length_eq_zero h0, none, 0, rfl⟩
  · rw [Nat.mul_one] at htake
    exact .inr ⟨g, cap, cur, rfl, hb, hg, hnc, hcm, hcs, htake⟩
theorem sort_any (base : Nat) (v : Value) (zs : List Int) (w : World) (h : w.ownsRow base 3 1 v zs.length (intL zs)) (hn : zs.length ≤ 100000) :
    Calls Try.prog 53 #[v] w fun e w' => e = .returned (.tuple #[]) ∧ w'.ownsRow base 3 1 v (srt zs).length (intL (srt zs)) ∧ w.grownBy w' v.ownBlock := by
  rcases own_form h with ⟨rfl, p, cap, rfl⟩ | ⟨g, cap, cur, rfl, hb, hg, h1, h2, h3, h4⟩
  · refine (Try.slices_Sort_int_none p cap w).mono ?_
    rintro e w' ⟨rfl, rfl⟩
    exact ⟨rfl, by simpa [srt] using h, ⟨rfl, rfl, rfl, Nat.le_refl _, fun _ _ _ => rfl⟩⟩
  · refine (Try.slices_Sort_int g 0 cap zs w (holds_int hg h4) (Array.getElem?_eq_some_iff.1 hg).1 (by omega)).mono ?_
    rintro e w' ⟨rfl, nn, os, rfl⟩
    exact ⟨rfl, by rw [srt_len]; exact ownsRow_sortedI (srt_len zs) hb hg h1 h2 h3, grownBy_sortedI _⟩
theorem compact_any (base : Nat) (v : Value) (zs : List Int) (w : World) (h : w.ownsRow base 3 1 v zs.length (intL zs)) (hs : zs.Pairwise (· ≤ ·)) (hn : zs.length ≤ 100000) :
    Calls Try.prog 130 #[v] w fun e w' => ∃ v', e = .returned v' ∧ w'.ownsRow base 3 1 v' (Lib.compact zs).length (intL (Lib.compact zs)) ∧ w.grownBy w' v.ownBlock := by
  rcases own_form h with ⟨rfl, p, cap, rfl⟩ | ⟨g, cap, cur, rfl, hb, hg, h1, h2, h3, h4⟩
  · refine (Try.slices_Compact_int_empty p cap w).mono ?_
    rintro e w' ⟨rfl, rfl⟩
    exact ⟨_, rfl, by simpa [Lib.compact, Lib.compactUpTo] using h, ⟨rfl, rfl, rfl, Nat.le_refl _, fun _ _ _ => rfl⟩⟩
  · have hl := (compact_asc hs).2.2
    refine (Try.slices_Compact_int g 0 cap zs w (holds_int hg h4) (by omega) h1).mono ?_
    rintro e w' ⟨rfl, q, rfl⟩
    refine ⟨_, rfl, ?_, ?_⟩
    · have ho := ownsRow_sortedI (w := w) (n := q) (os := #[]) (m := zs.length) (ts := Lib.compact zs ++ List.replicate (zs.length - (Lib.compact zs).length) 0) (by simp; omega) hb hg h1 h2 h3
      rw [grow_empty] at ho
      have ho2 := own_shorter ho hl
      have ht : (intL (Lib.compact zs ++ List.replicate (zs.length - (Lib.compact zs).length) 0)).take (Lib.compact zs).length = intL (Lib.compact zs) := by
        unfold intL
        rw [List.map_append, List.take_left' (by simp)]
      rw [ht] at ho2
      exact ho2
    · have := grownBy_sortedI (w := w) (g := g) (n := q) (os := #[]) (Lib.compact zs ++ List.replicate (zs.length - (Lib.compact zs).length) 0).toArray
      rw [grow_empty] at this
      exact this
structure Slo where
  d : Int
  f : Bool
theorem invK : ∀ key kl, keyOf Try.prog 112 key = some kl → ∃ x : Slo, key = slotV x.d x.f := fun key kl h => by
  obtain ⟨d, f, rfl, _⟩ := slot_inv h
  exact ⟨⟨d, f⟩, rfl⟩
theorem own_mono {w : World} {base base' : Nat} {e : TypeId} {size : Nat} {v : Value} {n : Nat} {xs : List Value} (h : w.ownsRow base e size v n xs) (hb : base' ≤ base) : w.ownsRow base' e size v n xs := by
  refine ⟨h.1, ?_⟩
  rcases h.2 with h0 | ⟨g, cap, cur, hv, hg, rest⟩
  · exact .inl h0
  · exact .inr ⟨g, cap, cur, hv, Nat.le_trans hb hg, rest⟩
theorem invV : ∀ v (y : DataW Unit × List MemPlace), plainElem Try.prog 3 v = some y → ∃ c : Int, v = .int .i64 c := fun v y h => by
  obtain ⟨c, rfl, _⟩ := plainElem_int_inv Try.underlying3 h
  exact ⟨c, rfl⟩
theorem below_grownS {w w1 w9 : World} {base : Nat} {e : TypeId} {size : Nat} {v : Value} {n : Nat} {xs : List Value} (hb : Bl w w1) (hown : w1.ownsRow base e size v n xs) (hbase : w.heap.size ≤ base) (hg : w1.grownBy w9 v.ownBlock) : Bl w w9 :=
  Below.grown hb hg hb.size (fun j hj => Nat.le_trans hbase (hown.lt j hj).1)
set_option maxRecDepth 100000 in
set_option maxHeartbeats 6400000 in
theorem days_any (B k : Nat) (V : Int → Bool → Option Int) (w : World) (h : Rec w B k V) (hk : k ≤ 1000) (hV : ∀ d f, (V d f).isSome = true → rng d) :
    Calls Try.prog 102 #[.map (some B)] w fun e w' => (∃ v l, e = .returned v ∧ IsDys V l ∧ l.length ≤ k ∧ w'.ownsRow w.heap.size 3 1 v l.length (intL l)) ∧ Bl w w' := by
  obtain ⟨i0, hi0, hz0, hz1, hz2⟩ := info_parts6N int_infoN
  have HI := Lib.hid (And.intro hi0 (And.intro hz0 (And.intro hz1 hz2)))
  clear hi0 hz0 hz1 hz2
  have hBlt := h.lt
  obtain ⟨D, hown, hmap, hD⟩ := h
  have HOWN := Lib.hid hown
  have HD := Lib.hid (show ∀ ds : List Int, (∀ d, d ∈ ds ↔ ∃ f, rng d ∧ Maps.has D (keyL d f) = true) → ∀ d, d ∈ ds ↔ ∃ f, (V d f).isSome = true from fun ds hm d => by
    rw [hm d]
    constructor
    · rintro ⟨f, h1, h2⟩; exact ⟨f, by rw [← (hD d f h1).1]; exact h2⟩
    · rintro ⟨f, h1⟩; exact ⟨f, hV d f h1, by rw [(hD d f (hV d f h1)).1]; exact h1⟩)
  have hsz := hown.size_le
  clear hown hmap hD hV
  go_enter Try.func102, Try.ntmps102
  go_wp2_with (at_range; refine wpList_range_own _ rfl _ 84 rfl 112 3 slotKeyed Try.underlying84 _ B k _ rfl HOWN.out ?_; intro w0 hrg0 hg0 hs0)
  go_frame
  have NV := Lib.hid (show w0.ownsRow (w.heap.size + 1) 3 1 (.slice none 0 0) ([] : List Int).length (intL []) from World.ownsRow_nil _ _ _ _)
  have HB0 := Lib.hid (show Bl w w0 from Below.grown (Bl.rf w) hg0 (Nat.le_refl _) (fun j hj => by cases hj))
  clear hg0 hs0
  go_loopw [3] (fun v wr => ∃ (left : Lit → Bool) (cnt : Nat) (ds : List Int) (sv : Value), sv = v ∧ Hid (wr.ranges Try.prog 112 (plainElem Try.prog 3) B w.heap.size k D left cnt) ∧ Hid (Coll D left ds) ∧ ds.length + cnt ≤ k ∧ Hid (wr.ownsRow (w.heap.size + 1) 3 1 sv ds.length (intL ds)) ∧ Hid (Bl w wr)) (fun _ wr => wr.rangeLeft B w.heap.size)
  case atStart => exact ⟨_, _, [], _, rfl, hrg0, Coll.start D, by simpa using hsz, NV.out, HB0.out⟩
  case round =>
    clear NV HB0 hrg0 hsz
    obtain ⟨left, cnt, ds, sv, rfl, hrg, HC, hlen, HO, HB⟩ := hrel
    have HRG := Lib.hid hrg.out
    clear hrg
    have zr := HB.out.size
    go_wp2_with (first | (at_next; refine wpList_next_ranges _ rfl _ rfl 112 slotKeyed (plainElem Try.prog 3) (fun x : Slo => slotV x.d x.f) (Value.int .i64) invK invV B w.heap.size k _ _ _ rfl HRG.out ?_ ?_) | go_in)
    · intro hc0 hl0
      have HM := Lib.hid (HD.out ds (fun d => (HC.out d).trans ⟨fun ⟨f, a, b, _⟩ => ⟨f, a, b⟩, fun ⟨f, a, b⟩ => ⟨f, a, b, hl0 _⟩⟩))
      clear hl0
      go_wp2_with fail
      refine (sort_any _ sv ds _ HO.out (by omega)).mono ?_
      rintro e1 w1 ⟨rfl, hown1, hg1⟩
      have HO1 := Lib.hid hown1
      have HB1 := Lib.hid (show Bl w w1 from Below.grown HB.out hg1 zr (fun j hj => by have := (HO.out.lt j hj).1; omega))
      clear hown1 hg1
      go_wp2_with fail
      refine (compact_any _ sv (srt ds) _ HO1.out (sorted_le ds) (by rw [srt_len]; omega)).mono ?_
      rintro e2 w2 ⟨v', rfl, hown2, hg2⟩
      have HO2 := Lib.hid hown2
      have HB2 := Lib.hid (show Bl w w2 from Below.grown HB1.out hg2 HB1.out.size (fun j hj => by have := (HO1.out.lt j hj).1; omega))
      clear hown2 hg2
      go_wp2_with fail
      go_ret
      have hca := compact_asc (sorted_le ds)
      refine ⟨⟨v', Lib.compact (srt ds), rfl, ⟨hca.1, fun d => ?_⟩, ?_, own_mono HO2.out (Nat.le_succ _)⟩, HB2.out⟩
      · rw [hca.2.1 d, List.mem_mergeSort, HM.out d]
      · exact Nat.le_trans hca.2.2 (by rw [srt_len]; omega)
    · intro x c kl yd yp w2 cnt2 hkey hlk hv hat hrg2 hlt hg2 hs2 hen
      clear hs2
      obtain ⟨d, f⟩ := x
      dsimp only at hkey hen
      obtain ⟨d', f', e1, hr, rfl⟩ := slot_inv hkey
      obtain ⟨rfl, rfl⟩ : d = d' ∧ f = f' := by simpa using e1
      have HC2 := Lib.hid (HC.out.step hr (has_true_of_atKey hat))
      have HR2 := Lib.hid hrg2
      have HO2 := Lib.hid (show w2.ownsRow (w.heap.size + 1) 3 1 sv ds.length (intL ds) from World.ownsRow.kept HO.out hg2 (by
        have hl := HO.out.lt
        cases hv : Value.ownBlock sv with
        | none => exact .inl rfl
        | some j => exact .inr (by intro q; have := (hl j hv).1; cases q; omega)))
      have HB2 := Lib.hid (show Bl w w2 from Below.grown HB.out hg2 zr (fun j hj => by cases hj; exact Nat.le_refl _))
      have z2 := HB2.out.size
      have hlc := HR2.out.lt
      have hnew := Lib.hid (heap_alloc_new (w2.alloc (.cells #[.int .i64 d, .bool f] 112)) (.cells #[.int .i64 d] 3))
      clear hkey e1 hlk hv hat hrg2 hg2 hr
      go_wp2_with (at_builtin; refine wpList_append_lies _ rfl _ _ _ rfl (w.heap.size + 1) 3 i0 _ 1 8 Try.underlying24 HI.out.1 HI.out.2.1 HI.out.2.2.1 HI.out.2.2.2 rfl (by omega) _ ds.length (intL ds) rfl (own_bN HO2.out (by go_grown)) ⟨w2.heap.size + 1, 0, none⟩ 1 1 [.int .i64 d] rfl rfl (by have h := World.news_of_block hnew.out; rw [World.size_alloc] at h; exact h) (by simp [Value.oneCell']) (by omega) (by unfold maxLen; omega) (by omega) (by (try simp only [World.size_alloc]); omega) _ rfl ?_; intro gg cap w9 hown1 hgrow hat hlt9)
      have HO9 := Lib.hid (show w9.ownsRow (w.heap.size + 1) 3 1 (.slice (some ⟨gg, 0, none⟩) (ds.length + 1) cap) (ds ++ [d]).length (intL (ds ++ [d])) by
        rw [intL_snoc, List.length_append, List.length_singleton]; exact hown1)
      have HB9 := Lib.hid (show Bl w w9 from below_grownS (HB2.out.tr (by go_grown)) (own_bN HO2.out (by go_grown)) (Nat.le_succ _) hgrow)
      have HR9 := Lib.hid (show w9.ranges Try.prog 112 (plainElem Try.prog 3) B w.heap.size k D _ cnt2 from ((HR2.out.alloc _).alloc _).kept hgrow (by intro q; have := (HO2.out.lt _ q.symm).1; omega) (by intro q; have := (HO2.out.lt _ q.symm).1; omega))
      clear hown1 hgrow hat
      go_roundw
      case rel => exact ⟨_, cnt2, ds ++ [d], _, rfl, HR9.out, HC2.out, by rw [List.length_append, List.length_singleton]; omega, HO9.out, HB9.out⟩
      case measure => rw [HR9.out.left_eq, HRG.out.left_eq]; exact hlt
end Go.Proofs.Ytbmenpfpeadckaa
