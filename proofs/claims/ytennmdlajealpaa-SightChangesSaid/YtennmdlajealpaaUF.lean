/-
  Package sight: the cells of sights, clones of a net.
-/
import Derived.Test.YtennmdlajealpaaPY
import Derived.Test.YtennmdlajealpaaShelf
import Derived.Deep.OwnRows
import Derived.Deep.AppendLies
import Derived.Laws.OwnMore
namespace Go.Proofs.Ytennmdlajealpaa
open Go.RowKit Go.Maps
set_option linter.unusedSimpArgs false
set_option linter.unusedVariables false

theorem info_partsU {P : Program} {t : TypeId} {z : Value} {n b : Nat} (h : (P.info? t).map (fun i => (i.zero, i.size, i.bytes)) = some (some z, n, b)) : ∃ i, P.info? t = some i ∧ i.zero = some z ∧ i.size = n ∧ i.bytes = b := by
  cases hi : P.info? t with
  | none => rw [hi] at h; cases h
  | some i =>
    rw [hi] at h
    simp only [Option.map_some, Option.some.injEq, Prod.mk.injEq] at h
    exact ⟨i, rfl, h.1, h.2.1, h.2.2⟩
theorem sgt_info : (Try.prog.info? 52).map (fun i => (i.zero, i.size, i.bytes)) = some (some (.agg #[.int .i64 0, .int .i64 0, .int .i64 0, .int .i64 0, .int .i64 0]), 5, 40) := by kernel_rfl
def cellsG (x : Sgt) : List Value := [.int .i64 x.tm, .int .i64 x.ca, .int .i64 x.cb, .int .i64 x.lo, .int .i64 x.hi]
/-- The cells of the first k sights. -/
def sgC (S : Nat → Sgt) : Nat → List Value
  | 0 => []
  | k + 1 => sgC S k ++ cellsG (S k)
theorem sgC_len (S : Nat → Sgt) (k : Nat) : (sgC S k).length = k * 5 := by
  induction k with
  | zero => rfl
  | succ k ih => simp [sgC, ih, cellsG]; omega
theorem sgC_at (S : Nat → Sgt) {n j i : Nat} (hj : j < n) (hi : i < 5) : (sgC S n)[j * 5 + i]? = (cellsG (S j))[i]? := by
  induction n with
  | zero => omega
  | succ n ih =>
    by_cases e : j = n
    · subst e
      rw [sgC, List.getElem?_append_right (by rw [sgC_len]; omega), sgC_len, show j * 5 + i - j * 5 = i by omega]
    · rw [sgC, List.getElem?_append_left (by rw [sgC_len]; omega)]
      exact ih (by omega)
theorem sgC_congr {f g : Nat → Sgt} {n : Nat} (h : ∀ j, j < n → f j = g j) : sgC f n = sgC g n := by
  induction n with
  | zero => rfl
  | succ n ih => rw [sgC, sgC, ih (fun j hj => h j (by omega)), h n (by omega)]
theorem sgC_one (S : Nat → Sgt) (n : Nat) : ∀ u ∈ sgC S n, u.oneCell' = true := by
  induction n with
  | zero => intro u hu; cases hu
  | succ n ih =>
    intro u hu
    rcases List.mem_append.1 hu with h | h
    · exact ih u h
    · simp only [cellsG, List.mem_cons, List.not_mem_nil, or_false] at h
      rcases h with rfl | rfl | rfl | rfl | rfl <;> rfl
theorem sg_news {w : World} {ad : Addr} {n : Nat} {S : Nat → Sgt} (h : Sgl w (some ad) n S) : ∀ j u, (sgC S n)[j]? = some u → w.cell? (ad.add j) = some u := fun j u hu => by
  have hj : j < n * 5 := by have := (List.getElem?_eq_some_iff.1 hu).1; rwa [sgC_len] at this
  obtain ⟨b', off', e, _, hc⟩ := h (by omega)
  obtain rfl : ad = ⟨b', off', none⟩ := Option.some.inj e
  obtain ⟨c0, c1, c2, c3, c4⟩ := hc (j / 5) (by omega)
  have hd : (sgC S n)[j / 5 * 5 + j % 5]? = (cellsG (S (j / 5)))[j % 5]? := sgC_at S (by omega) (by omega)
  rw [show j / 5 * 5 + j % 5 = j by omega, hu] at hd
  rw [show (⟨b', off', none⟩ : Addr).add j = ⟨b', off' + j, none⟩ by unfold Addr.add; split <;> simp_all]
  rcases (show j % 5 = 0 ∨ j % 5 = 1 ∨ j % 5 = 2 ∨ j % 5 = 3 ∨ j % 5 = 4 by omega) with r | r | r | r | r
  · rw [r] at hd
    rw [show off' + j = off' + j / 5 * 5 by omega, c0]; exact hd.symm
  · rw [r] at hd
    rw [show off' + j = off' + j / 5 * 5 + 1 by omega, c1]; exact hd.symm
  · rw [r] at hd
    rw [show off' + j = off' + j / 5 * 5 + 2 by omega, c2]; exact hd.symm
  · rw [r] at hd
    rw [show off' + j = off' + j / 5 * 5 + 3 by omega, c3]; exact hd.symm
  · rw [r] at hd
    rw [show off' + j = off' + j / 5 * 5 + 4 by omega, c4]; exact hd.symm
theorem sgl_of_own {w : World} {base : Nat} {e : TypeId} {v : Value} {n : Nat} {S : Nat → Sgt} (h : w.ownsRow base e 5 v n (sgC S n)) : ∃ A cap, v = .slice A n cap ∧ n ≤ cap ∧ cap ≤ maxLen ∧ Sgl w A n S := by
  rcases h.2 with ⟨rfl, rfl⟩ | ⟨g, cap, cur, rfl, hb, hg, hnc, hcm, _⟩
  · exact ⟨none, 0, rfl, Nat.le_refl _, by decide, fun h => absurd h (by omega)⟩
  · refine ⟨some ⟨g, 0, none⟩, cap, rfl, hnc, hcm, fun hn => ⟨g, 0, rfl, (Array.getElem?_eq_some_iff.1 hg).1, fun j hj => ?_⟩⟩
    have hat : ∀ i, i < 5 → w.cell? ⟨g, 0 + j * 5 + i, none⟩ = (cellsG (S j))[i]? := fun i hi => by
      rw [Nat.zero_add, h.cellAt (j * 5 + i) (by omega), sgC_at S hj hi]
    exact ⟨hat 0 (by omega), hat 1 (by omega), hat 2 (by omega), hat 3 (by omega), hat 4 (by omega)⟩
theorem own_baseU {w : World} {B B' size n : Nat} {e : TypeId} {v : Value} {xs : List Value} (h : w.ownsRow B' e size v n xs) (hB : B ≤ B') : w.ownsRow B e size v n xs :=
  ⟨h.1, h.2.imp id (fun ⟨g, cap, cur, a, b, c⟩ => ⟨g, cap, cur, a, Nat.le_trans hB b, c⟩)⟩
theorem own_belowU {w w' : World} {base : Nat} {e : TypeId} {size n : Nat} {v : Value} {xs : List Value} (h : w.ownsRow base e size v n xs) (hb : Bl w w') : w'.ownsRow base e size v n xs := row_keptS h (fun g hg => by
  rcases h.2 with ⟨e, _⟩ | ⟨g', cap, cur, e, _, hg', _⟩
  · rw [e] at hg; cases hg
  · rw [e] at hg
    cases hg
    exact hb.block g' (Array.getElem?_eq_some_iff.1 hg').1)
theorem own_farU {w : World} {base b : Nat} {e : TypeId} {size n : Nat} {v : Value} {xs : List Value} (h : w.ownsRow base e size v n xs) (hb : b < base) : some b ≠ v.ownBlock := by
  rcases h.2 with ⟨rfl, _⟩ | ⟨g, cap, cur, rfl, h1, _⟩
  · simp [Value.ownBlock]
  · simp only [Value.ownBlock, ne_eq, Option.some.injEq]
    omega
theorem grow_cellU {w w' : World} {base b o : Nat} {e : TypeId} {size n : Nat} {v x : Value} {xs : List Value} (hg : w.grownBy w' v.ownBlock) (h : w.ownsRow base e size v n xs) (hb : b < base) (c : w.cell? ⟨b, o, none⟩ = some x) : w'.cell? ⟨b, o, none⟩ = some x :=
  (World.cell?_of_block (a := ⟨b, o, none⟩) (hg.block b (ltb c) (own_farU h hb))).trans c
theorem grow_fzU {w w' : World} {base b o : Nat} {e : TypeId} {size n : Nat} {v : Value} {xs : List Value} (hg : w.grownBy w' v.ownBlock) (h : w.ownsRow base e size v n xs) (hb : b < base) (hl : b < w.heap.size) (c : w.frozen? ⟨b, o, none⟩ = false) : w'.frozen? ⟨b, o, none⟩ = false :=
  (World.frozen?_of_block (a := ⟨b, o, none⟩) (hg.block b hl (own_farU h hb))).trans c
theorem rows_apartU {w : World} {base base' : Nat} {e e' : TypeId} {size size' n n' : Nat} {v v' : Value} {xs xs' : List Value} (h : w.ownsRow base e size v n xs) (h' : w.ownsRow base' e' size' v' n' xs') (he : e ≠ e') : ∀ g, v.ownBlock = some g → g < w.heap.size ∧ some g ≠ v'.ownBlock := by
  intro g hg
  rcases h.2 with ⟨rfl, _⟩ | ⟨g1, cap, cur, rfl, h1, h2, _⟩
  · cases hg
  · cases hg
    refine ⟨(Array.getElem?_eq_some_iff.1 h2).1, fun q => ?_⟩
    rcases h'.2 with ⟨rfl, _⟩ | ⟨g2, cap', cur', rfl, h3, h4, _⟩
    · cases q
    · cases q
      rw [h2] at h4
      simp only [Option.some.injEq, Obj.cells.injEq] at h4
      exact he h4.2.1
theorem grow_ownU {w w' : World} {base base' : Nat} {e e' : TypeId} {size size' n n' : Nat} {v v' : Value} {xs xs' : List Value} (hg : w.grownBy w' v'.ownBlock) (h : w.ownsRow base e size v n xs) (h' : w.ownsRow base' e' size' v' n' xs') (he : e ≠ e') : w'.ownsRow base e size v n xs :=
  row_keptS h (fun g q => hg.block g (rows_apartU h h' he g q).1 (rows_apartU h h' he g q).2)
theorem grow_blU {w X w' : World} {base : Nat} {e : TypeId} {size n : Nat} {v : Value} {xs : List Value} (hb : Bl w X) (hg : X.grownBy w' v.ownBlock) (h : X.ownsRow base e size v n xs) (hl : w.heap.size ≤ base) : Bl w w' :=
  Below.grown hb hg hb.size (fun j hj => by
    rcases h.2 with ⟨rfl, _⟩ | ⟨g, cap, cur, rfl, h1, _⟩
    · cases hj
    · have hj' : g = j := by simpa [Value.ownBlock] using hj
      omega)
/-- The cells of the first n rates. -/
def rgC (R : Nat → Int) (n : Nat) : List Value := (List.range n).map fun j => .int .i64 (R j)
theorem sl_of_ownU {w : World} {base : Nat} {e : TypeId} {v : Value} {n : Nat} {f : Nat → Int} (h : w.ownsRow base e 1 v n (rgC f n)) : ∃ A cap, v = .slice A n cap ∧ n ≤ cap ∧ cap ≤ maxLen ∧ Sl w A n f := by
  rcases h.2 with ⟨rfl, rfl⟩ | ⟨g, cap, cur, rfl, hb, hg, hnc, hcm, _⟩
  · exact ⟨none, 0, rfl, Nat.le_refl _, by decide, fun h => absurd h (by omega)⟩
  · refine ⟨some ⟨g, 0, none⟩, cap, rfl, hnc, hcm, fun hn => ⟨g, 0, rfl, (Array.getElem?_eq_some_iff.1 hg).1, fun j hj => ?_⟩⟩
    rw [Nat.zero_add, h.cellAt j (by omega)]
    simp [rgC, hj]
set_option maxRecDepth 100000 in
theorem rclone_any (A : Option Addr) (n c : Nat) (R : Nat → Int) (w : World) (hA : Sl w A n R) (hn : n ≤ 1000) :
    Calls Try.prog 89 #[.slice A n c] w fun e w' => ∃ A' c', e = .returned (.slice A' n c') ∧ w'.ownsRow w.heap.size 3 1 (.slice A' n c') n (rgC R n) ∧ Bl w w' := by
  have key : ∀ {v' : Value} {w' : World}, w'.ownsRow w.heap.size 3 1 v' n (rgC R n) → Bl w w' → ∃ A' c', Ending.returned v' = .returned (.slice A' n c') ∧ w'.ownsRow w.heap.size 3 1 (.slice A' n c') n (rgC R n) ∧ Bl w w' := by
    intro v' w' h hb
    obtain ⟨A', c', rfl, h1, h2, h3⟩ := sl_of_ownU h
    exact ⟨A', c', rfl, h, hb⟩
  by_cases h0 : 0 < n
  · obtain ⟨b, off, rfl, hb, hc⟩ := hA h0
    refine (Try.slices_Clone_int b off n c ((List.range n).map R) w (by simp) (by omega) (fun j hj => ?_)).mono ?_
    · have hj' : j < n := by simpa using hj
      rw [hc j hj']
      simp [List.getD, hj']
    · rintro e w' ⟨v', rfl, h1, _, h2⟩
      refine key ?_ h2
      have e1 : ((List.range n).map R).take n = (List.range n).map R := List.take_of_length_le (by simp)
      rw [e1, List.map_map] at h1
      exact h1
  · obtain rfl : n = 0 := by omega
    cases A with
    | none =>
      refine (Try.slices_Clone_int_nil 0 c w).mono ?_
      rintro e w' ⟨rfl, rfl⟩
      exact key (World.ownsRow_nil _ _ _ _) (Below.refl _ _)
    | some a =>
      refine (Try.slices_Clone_int_zero a c w).mono ?_
      rintro e w' ⟨v', rfl, h1, _, h2⟩
      exact key h1 h2
theorem bl_alU (w : World) (o : Obj) : Bl w (w.alloc o) := by go_grown
theorem nil_eqS (A : Option Addr) (n c : Nat) (w : World) : (binOp .eql 23 (.slice A n c) (.slice none 0 0)).run Try.prog w = .ok (.bool A.isNone) w := Lib.run_eql_slice_nil w _ _ A n c 0 0 Try.underlying23
set_option maxRecDepth 100000 in
set_option maxHeartbeats 3200000 in
theorem sclone_any (A : Option Addr) (n c : Nat) (S : Nat → Sgt) (w : World) (hA : Sgl w A n S) (hn : n ≤ 1000) :
    Calls Try.prog 90 #[.slice A n c] w fun e w' => ∃ A' c', e = .returned (.slice A' n c') ∧ w'.ownsRow w.heap.size 52 5 (.slice A' n c') n (sgC S n) ∧ Bl w w' := by
  have key : ∀ (v' : Value) (w' : World), w'.ownsRow w.heap.size 52 5 v' n (sgC S n) → Bl w w' → ∃ A' c', Ending.returned v' = .returned (.slice A' n c') ∧ w'.ownsRow w.heap.size 52 5 (.slice A' n c') n (sgC S n) ∧ Bl w w' := by
    intro v' w' h hb
    obtain ⟨A', c', rfl, _⟩ := sgl_of_own h
    exact ⟨A', c', rfl, h, hb⟩
  have KEY := Lib.hid key
  clear key
  cases A with
  | none =>
    have h0 : n = 0 := by
      by_cases h : 0 < n
      · obtain ⟨b, off, e, _⟩ := hA h
        cases e
      · omega
    subst h0
    have EN := nil_eqS none 0 c w
    go_enter Try.func90, Try.ntmps90
    go_wp2_with fail
    go_ret
    exact KEY.out _ _ (World.ownsRow_nil _ _ _ _) (Below.refl _ _)
  | some ad =>
    obtain ⟨i0, hi0, hz0, hz1, hz2⟩ := info_partsU sgt_info
    have HI := Lib.hid (And.intro hi0 (And.intro hz0 (And.intro hz1 hz2)))
    have HA := Lib.hid hA
    clear hi0 hz0 hz1 hz2 hA
    have EN := nil_eqS (some ad) n c w
    go_enter Try.func90, Try.ntmps90
    have HO := Lib.hid (World.ownsRow_lit (base := w.heap.size) (size := 5) (e := 52) w #[] 0 (Nat.le_refl _) (by decide) rfl)
    go_wp2_with (at_builtin; refine wpList_append_own _ rfl _ _ _ rfl w.heap.size 52 i0 _ 5 40 Try.underlying23 HI.out.1 HI.out.2.1 HI.out.2.2.1 HI.out.2.2.2 rfl (by omega) _ 0 [] rfl HO.out ad n c (sgC S n) rfl (sgC_len S n) (sg_news (HA.out.below (bl_alU _ _))) (sgC_one S n) (by unfold maxLen; omega) (by omega) (by (try simp only [World.size_alloc]); omega) ?_; intro v9 w9 hown1 hgrow hnil9)
    have hown2 : w9.ownsRow w.heap.size 52 5 v9 n (sgC S n) := by have h := hown1; simp only [Nat.zero_add, List.nil_append] at h; exact h
    have HO9 := Lib.hid hown2
    have B9 : Bl w w9 := Below.grown (bl_alU _ _) hgrow (by (try simp only [World.size_alloc]); omega) (fun j hj => by have hj : w.heap.size = j := Option.some.inj hj; omega)
    clear hown1 hown2
    (try simp only [Nat.zero_add])
    go_ret
    exact KEY.out _ _ HO9.out B9
theorem net_res77 (tmps : Array Value) (W : World) (p1 : Nat) (a b : Value) (h8 : tmps.getD 2 undef = .pointer (some ⟨p1, 0, none⟩)) (c0 : W.cell? ⟨p1, 0, none⟩ = some a) (c1 : W.cell? ⟨p1, 1, none⟩ = some b) :
    (results Try.f77 tmps).run Try.prog W = .ok (.agg #[a, b]) W := by
  have h8' : tmps[2]?.getD undef = .pointer (some ⟨p1, 0, none⟩) := by simpa using h8
  simp [results, Try.results77, go_sem, h8', c0, c1]
  try rfl
theorem put_0U {X : World} {b : Nat} {x : Value} (c0 : X.cell? ⟨b, 0, none⟩ = some x) (u v : Value) : ((X.setCell ⟨b, 0, none⟩ u).setCell ⟨b, 1, none⟩ v).cell? ⟨b, 0, none⟩ = some u := by go_cell
theorem put_1U {X : World} {b : Nat} {x y : Value} (c0 : X.cell? ⟨b, 0, none⟩ = some x) (c1 : X.cell? ⟨b, 1, none⟩ = some y) (u v : Value) : ((X.setCell ⟨b, 0, none⟩ u).setCell ⟨b, 1, none⟩ v).cell? ⟨b, 1, none⟩ = some v := by go_cell
set_option maxRecDepth 100000 in
set_option maxHeartbeats 6400000 in
/-- A copy of a net: its rates read as they did, its sights lie in a row of its own. -/
theorem copied_any (A : Option Addr) (n c : Nat) (R : Nat → Int) (B : Option Addr) (m d : Nat) (S : Nat → Sgt) (w : World) (hA : Sl w A n R) (hB : Sgl w B m S) (hn : n ≤ 1000) (hm : m ≤ 1000) :
    Calls Try.prog 77 #[encN A n c B m d] w fun e w' => ∃ A' c' B' d', e = .returned (encN A' n c' B' m d') ∧ w'.ownsRow w.heap.size 3 1 (.slice A' n c') n (rgC R n) ∧ w'.ownsRow w.heap.size 52 5 (.slice B' m d') m (sgC S m) ∧ Bl w w' := by
  have HR := Lib.hid (fun (W : World) (hW : Bl w W) => rclone_any A n c R W (hA.below hW) hn)
  have HS := Lib.hid (fun (W : World) (hW : Bl w W) => sclone_any B m d S W (hB.below hW) hm)
  clear hA hB hn hm
  go_enter Try.func77, Try.ntmps77
  go_wp2_with fail
  obtain ⟨X, hX⟩ : ∃ X, X = (w.alloc (Obj.cells #[.slice A n c, .slice B m d] 25)).alloc (Obj.cells #[.slice none 0 0, .slice none 0 0] 25) := ⟨_, rfl⟩
  have BX : Bl w X := by rw [hX]; exact Bl.tr (bl_alU _ _) (bl_alU _ _)
  have x0 : X.cell? ⟨w.heap.size, 0, none⟩ = some (.slice A n c) := by rw [hX]; go_cell
  have x1 : X.cell? ⟨w.heap.size, 1, none⟩ = some (.slice B m d) := by rw [hX]; go_cell
  have y0 : X.cell? ⟨w.heap.size + 1, 0, none⟩ = some (.slice none 0 0) := by rw [hX]; go_cell
  have y1 : X.cell? ⟨w.heap.size + 1, 1, none⟩ = some (.slice none 0 0) := by rw [hX]; go_cell
  have f0 : X.frozen? ⟨w.heap.size + 1, 0, none⟩ = false := by rw [hX]; go_cell
  have f1 : X.frozen? ⟨w.heap.size + 1, 1, none⟩ = false := by rw [hX]; go_cell
  rw [← hX]
  clear hX
  have lx := ltb x0
  have ly := ltb y0
  have Y0 := Lib.hid y0
  have HBS := Lib.hid BX.size
  have lz : w.heap.size + 1 < X.heap.size := ly
  refine wp_region_noPanic ?_
  refine wp_region_held_drew (S := fun w' => Bl w w' ∧ w'.cell? ⟨w.heap.size, 0, none⟩ = some (.slice A n c) ∧ w'.cell? ⟨w.heap.size, 1, none⟩ = some (.slice B m d)) (by kernel_rfl) (⟨BX.tr (bl_drS _), kcb (bl_drS _) x0, kcb (bl_drS _) x1⟩) (fun hH => ?_)
  refine wpAnyH_take (i := 0) (oi := ({ dst := some 3, op := Go.Op.fieldAddr 25 (Go.Operand.tmp 1) 0, type := 0, pos := "sight.go:163", after := #[], guard := none } : Oper)) (v := ?_) rfl (by kernel_rfl) (by kernel_rfl) (by kernel_rfl) (fun _ _ _ h => h) (Or.inl ⟨by rfl, ?_⟩) hH ?_
  rotate_left
  · intro w hSw; (try dsimp only at hSw); go_simp; try with_reducible rfl
  try simp only [Act.put, List.setIfInBounds_toArray, List.set_cons_zero, List.set_cons_succ]
  refine wpAnyH_take (i := 1) (oi := ({ dst := some 4, op := Go.Op.load 22 (Go.Operand.tmp 3), type := 22, pos := "sight.go:163", after := #[{ on := 0, ground := Go.Ground.data }], guard := none } : Oper)) (v := ?_) rfl (by kernel_rfl) (by kernel_rfl) (by kernel_rfl) (fun _ _ _ h => h) (Or.inl ⟨by rfl, ?_⟩) hH ?_
  rotate_left
  · intro w hSw; (try dsimp only at hSw); go_simp; try with_reducible rfl
  try simp only [Act.put, List.setIfInBounds_toArray, List.set_cons_zero, List.set_cons_succ]
  refine wpAnyH_take (i := 3) (oi := ({ dst := some 6, op := Go.Op.fieldAddr 25 (Go.Operand.tmp 1) 1, type := 0, pos := "sight.go:163", after := #[], guard := none } : Oper)) (v := ?_) rfl (by kernel_rfl) (by kernel_rfl) (by kernel_rfl) (fun _ _ _ h => h) (Or.inl ⟨by rfl, ?_⟩) hH ?_
  rotate_left
  · intro w hSw; (try dsimp only at hSw); go_simp; try with_reducible rfl
  try simp only [Act.put, List.setIfInBounds_toArray, List.set_cons_zero, List.set_cons_succ]
  refine wpAnyH_take (i := 4) (oi := ({ dst := some 7, op := Go.Op.load 23 (Go.Operand.tmp 6), type := 23, pos := "sight.go:163", after := #[{ on := 3, ground := Go.Ground.data }], guard := none } : Oper)) (v := ?_) rfl (by kernel_rfl) (by kernel_rfl) (by kernel_rfl) (fun _ _ _ h => h) (Or.inl ⟨by rfl, ?_⟩) hH ?_
  rotate_left
  · intro w hSw; (try dsimp only at hSw); go_simp; try with_reducible rfl
  try simp only [Act.put, List.setIfInBounds_toArray, List.set_cons_zero, List.set_cons_succ]
  refine wpAnyH_ready (rs := [2]) (by kernel_rfl) (by simp) ?_
  refine AllReadyH.cons (o := ({ dst := some 5, op := Go.Op.call { callee := Go.Callee.value (Go.Operand.func 89), args := #[Go.Operand.tmp 4], argTypes := #[22] }, type := 22, pos := "sight.go:163", after := #[{ on := 1, ground := Go.Ground.data }], guard := none } : Oper)) rfl (fun K hK => ?_) AllReadyH.nil
  go_simp
  go_at_call 89
  refine (HR.out _ hH.1).mono ?_
  rintro e9 w8 ⟨A1, d1, rfl, hsl, hb⟩
  have y0 := kcb hb (kcb (bl_drS X) y0)
  have y1 := kcb hb (kcb (bl_drS X) y1)
  have f0 := fzb hb (fzb (bl_drS X) f0 ly) (ltb (kcb (bl_drS X) Y0.out))
  have f1 := fzb hb (fzb (bl_drS X) f1 ly) (ltb (kcb (bl_drS X) Y0.out))
  have HSL := Lib.hid hsl
  have hx8 : X.heap.size ≤ w8.heap.size := hb.size
  clear hsl
  refine hK.out _ _ ⟨hH.1.tr hb, kcb hb hH.2.1, kcb hb hH.2.2⟩ (fun hH' => ?_)
  clear hH
  have hH := hH'
  clear hH' hK K
  try simp only [Act.put, List.setIfInBounds_toArray, List.set_cons_zero, List.set_cons_succ]
  refine wpAnyH_ready (rs := [5]) (by kernel_rfl) (by simp) ?_
  refine AllReadyH.cons (o := ({ dst := some 8, op := Go.Op.call { callee := Go.Callee.value (Go.Operand.func 90), args := #[Go.Operand.tmp 7], argTypes := #[23] }, type := 23, pos := "sight.go:163", after := #[{ on := 4, ground := Go.Ground.data }, { on := 2, ground := Go.Ground.chain }], guard := none } : Oper)) rfl (fun K hK => ?_) AllReadyH.nil
  go_simp
  go_at_call 90
  refine (HS.out _ hH.1).mono ?_
  rintro e9 w9 ⟨B1, d2, rfl, hown, hb⟩
  have ly8 := ltb y0
  have y0 := kcb hb y0
  have y1 := kcb hb y1
  have f0 := fzb hb f0 ly8
  have f1 := fzb hb f1 ly8
  have HOW := Lib.hid (own_baseU hown hx8)
  have HSL := Lib.hid (own_belowU HSL.out hb)
  have ly := ltb y0
  clear hown
  refine hK.out _ _ ⟨hH.1.tr hb, kcb hb hH.2.1, kcb hb hH.2.2⟩ (fun hH' => ?_)
  clear hH
  have hH := hH'
  clear hH' hK K
  try simp only [Act.put, List.setIfInBounds_toArray, List.set_cons_zero, List.set_cons_succ]
  refine wpAnyH_take (i := 6) (oi := ({ dst := some 9, op := Go.Op.build 25 #[(0, Go.Operand.tmp 5), (1, Go.Operand.tmp 8)], type := 25, pos := "sight.go:163", after := #[{ on := 2, ground := Go.Ground.data }, { on := 5, ground := Go.Ground.data }], guard := none } : Oper)) (v := ?_) rfl (by kernel_rfl) (by kernel_rfl) (by kernel_rfl) (fun _ _ _ h => h) (Or.inl ⟨by rfl, ?_⟩) hH ?_
  rotate_left
  · intro w hSw; (try dsimp only at hSw); go_simp; try with_reducible rfl
  try simp only [Act.put, List.setIfInBounds_toArray, List.set_cons_zero, List.set_cons_succ]
  refine wpAnyH_ready (rs := [7]) (by kernel_rfl) (by simp) ?_
  refine AllReadyH.cons (o := ({ dst := none, op := Go.Op.store 25 (Go.Operand.tmp 2) (Go.Operand.tmp 9), type := 0, pos := "sight.go:163", after := #[{ on := 6, ground := Go.Ground.data }, { on := 5, ground := Go.Ground.chain }, { on := 0, ground := Go.Ground.phase }, { on := 1, ground := Go.Ground.phase }, { on := 2, ground := Go.Ground.phase }, { on := 3, ground := Go.Ground.phase }, { on := 4, ground := Go.Ground.phase }, { on := 5, ground := Go.Ground.phase }, { on := 6, ground := Go.Ground.phase }], guard := none } : Oper)) rfl (fun K hK => ?_) AllReadyH.nil
  go_simp
  refine hK.out _ _ ⟨bl_set (bl_set hH.1 (by omega)) (by omega), cell_setO (cell_setO hH.2.1 (by omega)) (by omega), cell_setO (cell_setO hH.2.2 (by omega)) (by omega)⟩ (fun hH' => ?_)
  clear hH
  have hH := hH'
  clear hH' hK K
  try simp only [Act.put, List.setIfInBounds_toArray, List.set_cons_zero, List.set_cons_succ]
  refine wpAnyH_done (by kernel_rfl) ?_ _
  refine NoPanic.normal ?_
  go_wp2_with fail
  refine bodyPost_ret (net_res77 _ _ _ _ _ rfl (put_0U y0 _ _) (put_1U y0 y1 _ _)) rfl ⟨A1, d1, B1, d2, rfl, own_baseU (own_setS (own_setS HSL.out lz) lz) HBS.out, own_baseU (own_setS (own_setS HOW.out lz) lz) HBS.out, hH.1⟩
end Go.Proofs.Ytennmdlajealpaa
