/-
  Contracts of the texts of lists of stars: a line read.
-/
import Derived.Test.YtlpbmcnojkhdcaaDoorTV
import Derived.Lib.ConvBytes
namespace Go.Proofs.YtlpbmcnojkhdcaaDoor
open Go.RowKit Go.Lib
set_option linter.unusedSimpArgs false
set_option linter.unusedVariables false

theorem bl_bytes (w : World) (e : TypeId) (t : ByteArray) : Bl w (Lib.bytesWorld w e t) := by
  unfold Lib.bytesWorld
  refine ⟨rfl, rfl, rfl, ?_, fun i hi => ?_⟩
  · simp [World.freeze]
  · have hne : w.heap.size ≠ i := by omega
    simp [World.freeze, Array.getElem?_modify, hne]
    exact Below.heap_alloc w.drew _ i hi
theorem atoi_ok_any (s : ByteArray) (v : Int) (h : atoiAll s.data.toList = .ok v) (hs : s.size ≤ 65536) (w : World) :
    Calls Tryd.prog 16 #[.string s] w fun e w' => e = .returned (.tuple #[.int .i64 v, .nilIface]) ∧ Bl w w' :=
  (Tryd.strconv_Atoi_ok s (by omega) v h w).mono fun e w' ⟨he, hw⟩ => ⟨he, by rcases hw with rfl | ⟨t, rfl⟩; exact Bl.rf _; exact bl_bytes _ _ _⟩
theorem atoi_bad_any (s : ByteArray) (h : ∀ v, atoiAll s.data.toList ≠ .ok v) (hs : s.size ≤ 65536) (w : World) (g : Gv w) :
    Calls Tryd.prog 16 #[.string s] w fun e w' => ∃ N, e = .returned (.tuple #[.int .i64 (av s.data.toList), .iface 75 (.pointer (some ⟨N, 0, none⟩))]) ∧ Bl w w' := by
  cases hc : atoiAll s.data.toList with
  | ok v => exact absurd hc (h v)
  | range =>
    obtain ⟨tp, p, hv⟩ := g.er
    refine (Tryd.strconv_Atoi_range_var s (by omega) hc tp p w hv).mono fun e w' ⟨N, he, _, _, hb⟩ => ⟨N, ?_, hb⟩
    rw [he]; simp [av, hc]
  | _ =>
    obtain ⟨tp, p, hv⟩ := g.es
    refine (Tryd.strconv_Atoi_syntax_var s (by omega) hc tp p w hv).mono fun e w' ⟨N, he, _, _, hb⟩ => ⟨N, ?_, hb⟩
    rw [he]; simp [av, hc]
/-- What Atoi returns. -/
def AtPost (s : ByteArray) (w : World) (e : Ending) (w' : World) : Prop := ∃ ev, e = .returned (.tuple #[.int .i64 (av s.data.toList), ev]) ∧ Bl w w'
theorem atoi_any (s : ByteArray) (hs : s.size ≤ 65536) (w : World) (g : Gv w) : Calls Tryd.prog 16 #[.string s] w (AtPost s w) := by
  by_cases h : ∃ v, atoiAll s.data.toList = .ok v
  · obtain ⟨v, h⟩ := h
    exact (atoi_ok_any s v h hs w).mono fun e w' ⟨he, hb⟩ => ⟨_, by rw [av_ok h]; exact he, hb⟩
  · exact (atoi_bad_any s (fun v hv => h ⟨v, hv⟩) hs w g).mono fun e w' ⟨N, he, hb⟩ => ⟨_, he, hb⟩

theorem words_len (t : ByteArray) : (words t).length = countB t ⟨#[32]⟩ + 1 := splitB_all _ (by decide) 0 _ t rfl
theorem starF_len {t : ByteArray} (h : (words t).length ≠ 4) : starF t = none := by
  unfold starF
  split
  · rename_i w0 w1 w2 w3 e; rw [e] at h; exact absurd rfl h
  · rfl
theorem word_size {t : ByteArray} {x : ByteArray} (h : x ∈ words t) : x.size ≤ t.size := by
  have hx : x.data.toList ∈ splitS t.data.toList := by rw [← words_data]; exact List.mem_map_of_mem h
  have hk : ∀ (k : Nat) (s : Str), ∀ y ∈ splitK [32] 0 k s, y.length ≤ s.length := by
    intro k
    induction k with
    | zero => intro s y hy; simp [splitK] at hy; subst hy; exact Nat.le_refl _
    | succ k ih =>
      intro s y hy
      unfold splitK at hy
      split at hy
      · simp at hy; subst hy; exact Nat.le_refl _
      · rcases List.mem_cons.1 hy with rfl | hy
        · exact List.length_take_le' _ _
        · have := ih _ y hy
          rw [List.length_drop] at this; omega
  have := hk _ _ _ hx
  have e1 : x.data.toList.length = x.size := by simp
  have e2 : t.data.toList.length = t.size := by simp
  omega
/-- What starOf returns. -/
def StPost (t : ByteArray) (w : World) (e : Ending) (w' : World) : Prop :=
  ∃ y : Sta, e = .returned (.tuple #[.agg #[.string y.s, .int .i64 y.a, .int .i64 y.h, .int .i64 y.l], .bool (starF t).isSome]) ∧ (∀ x, starF t = some x → y = x) ∧ Bl w w'
/-- A star's four cells, and that the world has grown since the call began. -/
abbrev H5 (w0 : World) (p : Nat) (y0 y1 y2 y3 : Value) (w : World) : Prop :=
  Bl w0 w ∧ w.cell? ⟨p, 0, none⟩ = some y0 ∧ w.cell? ⟨p, 1, none⟩ = some y1 ∧ w.cell? ⟨p, 2, none⟩ = some y2 ∧ w.cell? ⟨p, 3, none⟩ = some y3 ∧ p < w.heap.size
theorem H5.t {w0 a b : World} {p : Nat} {y0 y1 y2 y3 : Value} (h : H5 w0 p y0 y1 y2 y3 a) (hb : Bl a b) : H5 w0 p y0 y1 y2 y3 b := by
  obtain ⟨h1, d0, d1, d2, d3, l1⟩ := h
  exact ⟨h1.tr hb, kcz hb d0, kcz hb d1, kcz hb d2, kcz hb d3, Nat.lt_of_lt_of_le l1 hb.size⟩
theorem H5.set_ {w0 a : World} {p : Nat} {y0 y1 y2 y3 : Value} (h : H5 w0 p y0 y1 y2 y3 a) {b : Nat} (hb : w0.heap.size ≤ b) (hne : b ≠ p) (k : Nat) (v : Value) : H5 w0 p y0 y1 y2 y3 (a.setCell ⟨b, k, none⟩ v) := by
  obtain ⟨h1, d0, d1, d2, d3, l1⟩ := h
  have c : ∀ o u, a.cell? ⟨p, o, none⟩ = some u → (a.setCell ⟨b, k, none⟩ v).cell? ⟨p, o, none⟩ = some u := fun o u hu => by
    rw [World.cell?_setCell_other]
    · exact hu
    · intro e; injection e with e; exact hne e
  exact ⟨h1.setCell hb _, c _ _ d0, c _ _ d1, c _ _ d2, c _ _ d3, by rw [World.size_setCell]; exact l1⟩
/-- The cells that a star is made of. -/
abbrev N4 (W : World) (p q : Nat) (y0 y1 y2 y3 : Value) (w : World) : Prop :=
  Bl W w ∧ w.cell? ⟨p, 0, none⟩ = some y0 ∧ w.cell? ⟨q, 0, none⟩ = some y1 ∧ w.cell? ⟨q, 1, none⟩ = some y2 ∧ w.cell? ⟨q, 2, none⟩ = some y3 ∧ p < W.heap.size ∧ q < W.heap.size
theorem N4.t {W a b : World} {p q : Nat} {y0 y1 y2 y3 : Value} (h : N4 W p q y0 y1 y2 y3 a) (hb : Bl a b) : N4 W p q y0 y1 y2 y3 b := by
  obtain ⟨h1, d0, d1, d2, d3, l1, l2⟩ := h
  exact ⟨h1.tr hb, kcz hb d0, kcz hb d1, kcz hb d2, kcz hb d3, l1, l2⟩
theorem frozen_beyondz {w : World} {b o : Nat} (h : w.heap.size ≤ b) : w.frozen? ⟨b, o, none⟩ = false := by
  have : w.heap[b]? = none := by simp [h]
  simp [World.frozen?, this]
theorem kfz {W w1 : World} (hb : Bl W w1) {b o : Nat} (h : W.frozen? ⟨b, o, none⟩ = false) (hl : b < W.heap.size) : w1.frozen? ⟨b, o, none⟩ = false := (hb.frozen (p := ⟨b, o, none⟩) hl).trans h
theorem bad_first {t : Str} {w0 w1 w2 w3 : ByteArray} (h : ∀ v, atoiAll w1.data.toList ≠ .ok v) : starOfW t w0 w1 w2 w3 = none := by
  unfold starOfW; split
  · rename_i h1 _ _; exact absurd h1 (h _)
  · rfl
theorem bad_second {t : Str} {w0 w1 w2 w3 : ByteArray} (h : ∀ v, atoiAll w2.data.toList ≠ .ok v) : starOfW t w0 w1 w2 w3 = none := by
  unfold starOfW; split
  · rename_i h1 _; exact absurd h1 (h _)
  · rfl
theorem bad_third {t : Str} {w0 w1 w2 w3 : ByteArray} (h : ∀ v, atoiAll w3.data.toList ≠ .ok v) : starOfW t w0 w1 w2 w3 = none := by
  unfold starOfW; split
  · rename_i h1; exact absurd h1 (h _)
  · rfl

set_option maxRecDepth 100000 in
set_option maxHeartbeats 3200000 in
theorem starOf_any (t : ByteArray) (w : World) (ht : t.size ≤ 65536) (g : Gv w) : Calls Tryd.prog 13 #[.string t] w (StPost t w) := by
  have HG := Lib.hid g
  clear g
  obtain ⟨mm, hml⟩ := HG.out.ml
  have HML := Lib.hid hml
  clear hml
  by_cases q : (words t).length = 4
  · obtain ⟨w0, w1, w2, w3, hq⟩ := len4 _ q
    have hc : countB t ⟨#[32]⟩ = 3 := by have := words_len t; omega
    have s0 := word_size (t := t) (x := w0) (by rw [hq]; simp)
    have s1 := word_size (t := t) (x := w1) (by rw [hq]; simp)
    have s2 := word_size (t := t) (x := w2) (by rw [hq]; simp)
    have s3 := word_size (t := t) (x := w3) (by rw [hq]; simp)
    have HCW := Lib.hid (show ((splitB ⟨#[32]⟩ 0 (countB t ⟨#[32]⟩) t).map Value.string).toArray = #[.string w0, .string w1, .string w2, .string w3] by rw [show splitB ⟨#[32]⟩ 0 (countB t ⟨#[32]⟩) t = [w0, w1, w2, w3] from hq]; rfl)
    have HC := Lib.hid hc
    have HF := Lib.hid (show starF t = starOfW t.data.toList w0 w1 w2 w3 by unfold starF; rw [hq])
    clear hq q hc
    by_cases q : ∃ v, atoiAll w1.data.toList = .ok v
    · obtain ⟨v1, q⟩ := q
      have V1 := Lib.hid q
      clear q
      by_cases q : ∃ v, atoiAll w2.data.toList = .ok v
      · obtain ⟨v2, q⟩ := q
        have V2 := Lib.hid q
        clear q
        by_cases q : ∃ v, atoiAll w3.data.toList = .ok v
        · obtain ⟨v3, q⟩ := q
          have V3 := Lib.hid q
          clear q
          go_enter Tryd.func13, Tryd.ntmps13
          go_wp2_with fail
          refine (Tryd.strings_Split t ⟨#[32]⟩ mm _ (by omega) (by rw [World.cell?_alloc_lt _ _ _ (lt_cellz HML.out)]; exact HML.out) (by decide)).mono ?_
          rintro e0 u0 ⟨rfl, rfl⟩
          rw [HCW.out, HC.out]
          go_wp2_with fail
          refine wp_loop_rounds 4 ?_
          rw [rounds_succ]
          go_wp2_with fail
          refine (atoi_ok_any w1 v1 V1.out (by omega) _).mono ?_
          rintro e1 u1 ⟨rfl, hb⟩
          have x0 := kcz hb (b := w.heap.size) (o := 0) (v := .string ⟨#[]⟩) (by go_cell)
          have x1 := kcz hb (b := w.heap.size) (o := 1) (v := .int .i64 0) (by go_cell)
          have x2 := kcz hb (b := w.heap.size) (o := 2) (v := .int .i64 0) (by go_cell)
          have x3 := kcz hb (b := w.heap.size) (o := 3) (v := .int .i64 0) (by go_cell)
          have x4 := kcz hb (b := w.heap.size + 1) (o := 0) (v := .string w0) (by go_cell)
          have x5 := kcz hb (b := w.heap.size + 1) (o := 1) (v := .string w1) (by go_cell)
          have x6 := kcz hb (b := w.heap.size + 1) (o := 2) (v := .string w2) (by go_cell)
          have x7 := kcz hb (b := w.heap.size + 1) (o := 3) (v := .string w3) (by go_cell)
          have x8 := kcz hb (b := w.heap.size + 1 + 1) (o := 0) (v := .int .i64 0) (by go_cell)
          have x9 := kcz hb (b := w.heap.size + 1 + 1) (o := 1) (v := .int .i64 0) (by go_cell)
          have x10 := kcz hb (b := w.heap.size + 1 + 1) (o := 2) (v := .int .i64 0) (by go_cell)
          have y0 := kfz hb (b := w.heap.size) (o := 0) (by (try simp only [frozen?_alloc_cells, World.frozen?_setCell]); first | assumption | exact frozen_beyondz (by (try simp only [World.size_alloc, World.size_setCell]); omega)) (by (try simp only [World.size_alloc, World.size_setCell]); omega)
          have y1 := kfz hb (b := w.heap.size) (o := 1) (by (try simp only [frozen?_alloc_cells, World.frozen?_setCell]); first | assumption | exact frozen_beyondz (by (try simp only [World.size_alloc, World.size_setCell]); omega)) (by (try simp only [World.size_alloc, World.size_setCell]); omega)
          have y2 := kfz hb (b := w.heap.size) (o := 2) (by (try simp only [frozen?_alloc_cells, World.frozen?_setCell]); first | assumption | exact frozen_beyondz (by (try simp only [World.size_alloc, World.size_setCell]); omega)) (by (try simp only [World.size_alloc, World.size_setCell]); omega)
          have y3 := kfz hb (b := w.heap.size) (o := 3) (by (try simp only [frozen?_alloc_cells, World.frozen?_setCell]); first | assumption | exact frozen_beyondz (by (try simp only [World.size_alloc, World.size_setCell]); omega)) (by (try simp only [World.size_alloc, World.size_setCell]); omega)
          have y4 := kfz hb (b := w.heap.size + 1 + 1) (o := 0) (by (try simp only [frozen?_alloc_cells, World.frozen?_setCell]); first | assumption | exact frozen_beyondz (by (try simp only [World.size_alloc, World.size_setCell]); omega)) (by (try simp only [World.size_alloc, World.size_setCell]); omega)
          have y5 := kfz hb (b := w.heap.size + 1 + 1) (o := 1) (by (try simp only [frozen?_alloc_cells, World.frozen?_setCell]); first | assumption | exact frozen_beyondz (by (try simp only [World.size_alloc, World.size_setCell]); omega)) (by (try simp only [World.size_alloc, World.size_setCell]); omega)
          have y6 := kfz hb (b := w.heap.size + 1 + 1) (o := 2) (by (try simp only [frozen?_alloc_cells, World.frozen?_setCell]); first | assumption | exact frozen_beyondz (by (try simp only [World.size_alloc, World.size_setCell]); omega)) (by (try simp only [World.size_alloc, World.size_setCell]); omega)
          have B1 : Bl w u1 := Below.trans (by go_grown) (hb.mono (by (try simp only [World.size_alloc, World.size_setCell, World.size_drew]); omega))
          have z1 := B1.size
          have l1 := lt_cellz x0
          have m1 := lt_cellz x4
          have n1 := lt_cellz x8
          clear hb
          go_wp2_with fail
          rw [rounds_succ]
          go_wp2_with fail
          refine (atoi_ok_any w2 v2 V2.out (by omega) _).mono ?_
          rintro e2 u2 ⟨rfl, hb⟩
          have x0 := kcz hb (b := w.heap.size) (o := 0) (v := .string ⟨#[]⟩) (by go_cell)
          have x1 := kcz hb (b := w.heap.size) (o := 1) (v := .int .i64 0) (by go_cell)
          have x2 := kcz hb (b := w.heap.size) (o := 2) (v := .int .i64 0) (by go_cell)
          have x3 := kcz hb (b := w.heap.size) (o := 3) (v := .int .i64 0) (by go_cell)
          have x4 := kcz hb (b := w.heap.size + 1) (o := 0) (v := .string w0) (by go_cell)
          have x5 := kcz hb (b := w.heap.size + 1) (o := 1) (v := .string w1) (by go_cell)
          have x6 := kcz hb (b := w.heap.size + 1) (o := 2) (v := .string w2) (by go_cell)
          have x7 := kcz hb (b := w.heap.size + 1) (o := 3) (v := .string w3) (by go_cell)
          have x8 := kcz hb (b := w.heap.size + 1 + 1) (o := 0) (v := .int .i64 v1) (by go_cell)
          have x9 := kcz hb (b := w.heap.size + 1 + 1) (o := 1) (v := .int .i64 0) (by go_cell)
          have x10 := kcz hb (b := w.heap.size + 1 + 1) (o := 2) (v := .int .i64 0) (by go_cell)
          have y0 := kfz hb (b := w.heap.size) (o := 0) (by (try simp only [frozen?_alloc_cells, World.frozen?_setCell]); first | assumption | exact frozen_beyondz (by (try simp only [World.size_alloc, World.size_setCell]); omega)) (by (try simp only [World.size_alloc, World.size_setCell]); omega)
          have y1 := kfz hb (b := w.heap.size) (o := 1) (by (try simp only [frozen?_alloc_cells, World.frozen?_setCell]); first | assumption | exact frozen_beyondz (by (try simp only [World.size_alloc, World.size_setCell]); omega)) (by (try simp only [World.size_alloc, World.size_setCell]); omega)
          have y2 := kfz hb (b := w.heap.size) (o := 2) (by (try simp only [frozen?_alloc_cells, World.frozen?_setCell]); first | assumption | exact frozen_beyondz (by (try simp only [World.size_alloc, World.size_setCell]); omega)) (by (try simp only [World.size_alloc, World.size_setCell]); omega)
          have y3 := kfz hb (b := w.heap.size) (o := 3) (by (try simp only [frozen?_alloc_cells, World.frozen?_setCell]); first | assumption | exact frozen_beyondz (by (try simp only [World.size_alloc, World.size_setCell]); omega)) (by (try simp only [World.size_alloc, World.size_setCell]); omega)
          have y4 := kfz hb (b := w.heap.size + 1 + 1) (o := 0) (by (try simp only [frozen?_alloc_cells, World.frozen?_setCell]); first | assumption | exact frozen_beyondz (by (try simp only [World.size_alloc, World.size_setCell]); omega)) (by (try simp only [World.size_alloc, World.size_setCell]); omega)
          have y5 := kfz hb (b := w.heap.size + 1 + 1) (o := 1) (by (try simp only [frozen?_alloc_cells, World.frozen?_setCell]); first | assumption | exact frozen_beyondz (by (try simp only [World.size_alloc, World.size_setCell]); omega)) (by (try simp only [World.size_alloc, World.size_setCell]); omega)
          have y6 := kfz hb (b := w.heap.size + 1 + 1) (o := 2) (by (try simp only [frozen?_alloc_cells, World.frozen?_setCell]); first | assumption | exact frozen_beyondz (by (try simp only [World.size_alloc, World.size_setCell]); omega)) (by (try simp only [World.size_alloc, World.size_setCell]); omega)
          have B2 : Bl w u2 := Below.trans (by go_grown) (hb.mono (by (try simp only [World.size_alloc, World.size_setCell, World.size_drew]); omega))
          have z2 := B2.size
          have l2 := lt_cellz x0
          have m2 := lt_cellz x4
          have n2 := lt_cellz x8
          clear hb
          go_wp2_with fail
          rw [rounds_succ]
          go_wp2_with fail
          refine (atoi_ok_any w3 v3 V3.out (by omega) _).mono ?_
          rintro e3 u3 ⟨rfl, hb⟩
          have x0 := kcz hb (b := w.heap.size) (o := 0) (v := .string ⟨#[]⟩) (by go_cell)
          have x1 := kcz hb (b := w.heap.size) (o := 1) (v := .int .i64 0) (by go_cell)
          have x2 := kcz hb (b := w.heap.size) (o := 2) (v := .int .i64 0) (by go_cell)
          have x3 := kcz hb (b := w.heap.size) (o := 3) (v := .int .i64 0) (by go_cell)
          have x4 := kcz hb (b := w.heap.size + 1) (o := 0) (v := .string w0) (by go_cell)
          have x5 := kcz hb (b := w.heap.size + 1) (o := 1) (v := .string w1) (by go_cell)
          have x6 := kcz hb (b := w.heap.size + 1) (o := 2) (v := .string w2) (by go_cell)
          have x7 := kcz hb (b := w.heap.size + 1) (o := 3) (v := .string w3) (by go_cell)
          have x8 := kcz hb (b := w.heap.size + 1 + 1) (o := 0) (v := .int .i64 v1) (by go_cell)
          have x9 := kcz hb (b := w.heap.size + 1 + 1) (o := 1) (v := .int .i64 v2) (by go_cell)
          have x10 := kcz hb (b := w.heap.size + 1 + 1) (o := 2) (v := .int .i64 0) (by go_cell)
          have y0 := kfz hb (b := w.heap.size) (o := 0) (by (try simp only [frozen?_alloc_cells, World.frozen?_setCell]); first | assumption | exact frozen_beyondz (by (try simp only [World.size_alloc, World.size_setCell]); omega)) (by (try simp only [World.size_alloc, World.size_setCell]); omega)
          have y1 := kfz hb (b := w.heap.size) (o := 1) (by (try simp only [frozen?_alloc_cells, World.frozen?_setCell]); first | assumption | exact frozen_beyondz (by (try simp only [World.size_alloc, World.size_setCell]); omega)) (by (try simp only [World.size_alloc, World.size_setCell]); omega)
          have y2 := kfz hb (b := w.heap.size) (o := 2) (by (try simp only [frozen?_alloc_cells, World.frozen?_setCell]); first | assumption | exact frozen_beyondz (by (try simp only [World.size_alloc, World.size_setCell]); omega)) (by (try simp only [World.size_alloc, World.size_setCell]); omega)
          have y3 := kfz hb (b := w.heap.size) (o := 3) (by (try simp only [frozen?_alloc_cells, World.frozen?_setCell]); first | assumption | exact frozen_beyondz (by (try simp only [World.size_alloc, World.size_setCell]); omega)) (by (try simp only [World.size_alloc, World.size_setCell]); omega)
          have y4 := kfz hb (b := w.heap.size + 1 + 1) (o := 0) (by (try simp only [frozen?_alloc_cells, World.frozen?_setCell]); first | assumption | exact frozen_beyondz (by (try simp only [World.size_alloc, World.size_setCell]); omega)) (by (try simp only [World.size_alloc, World.size_setCell]); omega)
          have y5 := kfz hb (b := w.heap.size + 1 + 1) (o := 1) (by (try simp only [frozen?_alloc_cells, World.frozen?_setCell]); first | assumption | exact frozen_beyondz (by (try simp only [World.size_alloc, World.size_setCell]); omega)) (by (try simp only [World.size_alloc, World.size_setCell]); omega)
          have y6 := kfz hb (b := w.heap.size + 1 + 1) (o := 2) (by (try simp only [frozen?_alloc_cells, World.frozen?_setCell]); first | assumption | exact frozen_beyondz (by (try simp only [World.size_alloc, World.size_setCell]); omega)) (by (try simp only [World.size_alloc, World.size_setCell]); omega)
          have B3 : Bl w u3 := Below.trans (by go_grown) (hb.mono (by (try simp only [World.size_alloc, World.size_setCell, World.size_drew]); omega))
          have z3 := B3.size
          have l3 := lt_cellz x0
          have m3 := lt_cellz x4
          have n3 := lt_cellz x8
          clear hb
          go_wp2_with fail
          rw [rounds_succ]
          go_wp2_with fail
          have b1 := atoiAll_bounds V1.out
          have b2 := atoiAll_bounds V2.out
          have b3 := atoiAll_bounds V3.out
          obtain ⟨W, hW⟩ : ∃ W, W = u3.setCell ⟨w.heap.size + 1 + 1, 2, none⟩ (.int .i64 v3) := ⟨_, rfl⟩
          have BW : Bl w W := by rw [hW]; go_grown
          have g0 : W.cell? ⟨w.heap.size, 0, none⟩ = some (.string ⟨#[]⟩) := by rw [hW]; go_cell
          have g1 : W.cell? ⟨w.heap.size, 1, none⟩ = some (.int .i64 0) := by rw [hW]; go_cell
          have g2 : W.cell? ⟨w.heap.size, 2, none⟩ = some (.int .i64 0) := by rw [hW]; go_cell
          have g3 : W.cell? ⟨w.heap.size, 3, none⟩ = some (.int .i64 0) := by rw [hW]; go_cell
          have g4 : W.cell? ⟨w.heap.size + 1, 0, none⟩ = some (.string w0) := by rw [hW]; go_cell
          have g5 : W.cell? ⟨w.heap.size + 1 + 1, 0, none⟩ = some (.int .i64 v1) := by rw [hW]; go_cell
          have g6 : W.cell? ⟨w.heap.size + 1 + 1, 1, none⟩ = some (.int .i64 v2) := by rw [hW]; go_cell
          have g7 : W.cell? ⟨w.heap.size + 1 + 1, 2, none⟩ = some (.int .i64 v3) := by rw [hW]; go_cell
          have f0 : W.frozen? ⟨w.heap.size, 0, none⟩ = false := by rw [hW, World.frozen?_setCell]; assumption
          have f1 : W.frozen? ⟨w.heap.size, 1, none⟩ = false := by rw [hW, World.frozen?_setCell]; assumption
          have f2 : W.frozen? ⟨w.heap.size, 2, none⟩ = false := by rw [hW, World.frozen?_setCell]; assumption
          have f3 : W.frozen? ⟨w.heap.size, 3, none⟩ = false := by rw [hW, World.frozen?_setCell]; assumption
          rw [← hW]
          clear hW x0 x1 x2 x3 x4 x5 x6 x7 x8 x9 x10 y0 y1 y2 y3 y4 y5 y6
          have hS : N4 W (w.heap.size + 1) (w.heap.size + 1 + 1) (.string w0) (.int .i64 v1) (.int .i64 v2) (.int .i64 v3) W := ⟨Bl.rf _, g4, g5, g6, g7, lt_cellz g4, lt_cellz g5⟩
          have j0 := lt_cellz g0
          have j1 := lt_cellz g4
          have j2 := lt_cellz g5
          go_region_held3 (fun w' => Bl W w' ∧ w'.cell? ⟨w.heap.size + 1, 0, none⟩ = some (.string w0) ∧ w'.cell? ⟨w.heap.size + 1 + 1, 0, none⟩ = some (.int .i64 v1) ∧ w'.cell? ⟨w.heap.size + 1 + 1, 1, none⟩ = some (.int .i64 v2) ∧ w'.cell? ⟨w.heap.size + 1 + 1, 2, none⟩ = some (.int .i64 v3) ∧ w.heap.size + 1 < W.heap.size ∧ w.heap.size + 1 + 1 < W.heap.size) (first | exact N4.t hS (Bl.dz _ 1) | exact N4.t hS (by go_grown) | exact N4.t (by assumption) (by go_grown)) (fail)
          go_wp2_with fail
          obtain ⟨X, hX⟩ : ∃ X, X = (W.alloc (.cells #[.string w0, .int .i64 v1, .int .i64 v2, .int .i64 v3] 25)).drew := ⟨_, rfl⟩
          have BX : Bl W X := by rw [hX]; go_grown
          have c0 : X.cell? ⟨W.heap.size, 0, none⟩ = some (.string w0) := by rw [hX]; go_cell
          have c1 : X.cell? ⟨W.heap.size, 1, none⟩ = some (.int .i64 v1) := by rw [hX]; go_cell
          have c2 : X.cell? ⟨W.heap.size, 2, none⟩ = some (.int .i64 v2) := by rw [hX]; go_cell
          have c3 : X.cell? ⟨W.heap.size, 3, none⟩ = some (.int .i64 v3) := by rw [hX]; go_cell
          have r0 := kcz BX g0
          have t0 := kfz BX f0 j0
          have r1 := kcz BX g1
          have t1 := kfz BX f1 j0
          have r2 := kcz BX g2
          have t2 := kfz BX f2 j0
          have r3 := kcz BX g3
          have t3 := kfz BX f3 j0
          rw [← hX]
          clear hX hS g0 g1 g2 g3 g4 g5 g6 g7 f0 f1 f2 f3
          have hS : H5 w W.heap.size (.string w0) (.int .i64 v1) (.int .i64 v2) (.int .i64 v3) X := ⟨BW.tr BX, c0, c1, c2, c3, lt_cellz c0⟩
          have GX := Lib.hid (HG.out.below (BW.tr BX))
          have zX := lt_cellz r0
          have zS := lt_cellz c0
          obtain ⟨L, hL⟩ : ∃ L : ByteArray, L = ⟨(lineS ⟨w0, v1, v2, v3⟩).toArray⟩ := ⟨_, rfl⟩
          have HLL := Lib.hid (show L.data.toList = lineS ⟨w0, v1, v2, v3⟩ by rw [hL])
          have HLN := Lib.hid (fun (y : World) (gy : Gv y) => show Calls Tryd.prog 21 #[.agg #[.string w0, .int .i64 v1, .int .i64 v2, .int .i64 v3]] y fun e w' => e = .returned (.string L) ∧ Bl y w' from by rw [hL]; exact lineOf_any w0 v1 v2 v3 y gy b1.1 b1.2 b2.1 b2.2 b3.1 b3.2 (by omega))
          have HF2 := Lib.hid (show starF t = if (stB w0 v1 v2 v3 && decide (lineL w0.data.toList v1 v2 v3 = t.data.toList)) = true then some ⟨w0, v1, v2, v3⟩ else none by rw [HF.out]; simp only [starOfW, V1.out, V2.out, V3.out])
          clear hL c0 c1 c2 c3
          by_cases q : stB w0 v1 v2 v3 = true
          · have QS := Lib.hid q
            clear q
            by_cases q : L = t
            · have hE : (L.toList == t.toList) = true := by rw [q]; simp
              have HR := Lib.hid (show starF t = some ⟨w0, v1, v2, v3⟩ by rw [HF2.out, if_pos]; rw [QS.out, Bool.true_and, decide_eq_true_eq]; have := HLL.out; rw [q] at this; exact this.symm)
              clear q
              refine wp_region_noPanic ?_
              refine wp_region_held_drew (S := fun w' => Bl w w' ∧ w'.cell? ⟨W.heap.size, 0, none⟩ = some (.string w0) ∧ w'.cell? ⟨W.heap.size, 1, none⟩ = some (.int .i64 v1) ∧ w'.cell? ⟨W.heap.size, 2, none⟩ = some (.int .i64 v2) ∧ w'.cell? ⟨W.heap.size, 3, none⟩ = some (.int .i64 v3) ∧ W.heap.size < w'.heap.size) (by kernel_rfl) (H5.t hS (Bl.dz _ 1)) (fun hH => ?_)
              refine wpAnyH_take (i := 0) (oi := ({ dst := some 47, op := Go.Op.load 25 (Go.Operand.tmp 10), type := 25, pos := "text.go:65", after := #[], guard := none } : Oper)) (v := ?_) rfl (by kernel_rfl) (by kernel_rfl) (by kernel_rfl) (fun _ _ _ h => h) (Or.inl ⟨by rfl, ?_⟩) hH ?_
              rotate_left
              · intro w hSw; (try dsimp only at hSw); go_simp; try with_reducible rfl
              try simp only [Act.put, List.setIfInBounds_toArray, List.set_cons_zero, List.set_cons_succ]
              refine wpAnyH_take (i := 1) (oi := ({ dst := some 48, op := Go.Op.load 25 (Go.Operand.tmp 10), type := 25, pos := "text.go:65", after := #[], guard := none } : Oper)) (v := ?_) rfl (by kernel_rfl) (by kernel_rfl) (by kernel_rfl) (fun _ _ _ h => h) (Or.inl ⟨by rfl, ?_⟩) hH ?_
              rotate_left
              · intro w hSw; (try dsimp only at hSw); go_simp; try with_reducible rfl
              try simp only [Act.put, List.setIfInBounds_toArray, List.set_cons_zero, List.set_cons_succ]
              refine wpAnyH_ready (rs := [2]) (by kernel_rfl) (by simp) ?_
              refine AllReadyH.cons (o := ({ dst := some 49, op := Go.Op.call { callee := Go.Callee.value (Go.Operand.func 19), args := #[Go.Operand.tmp 48], argTypes := #[25] }, type := 4, pos := "text.go:65", after := #[{ on := 1, ground := Go.Ground.data }], guard := none } : Oper)) rfl (fun K hK => ?_) AllReadyH.nil
              go_simp
              go_at_call 19
              refine (validStar_any w0 v1 v2 v3 _ (by unfold maxLen; omega)).mono ?_
              rintro e9 w9 ⟨rfl, hb⟩
              rw [QS.out]
              have t0 := kfz hb t0 (lt_cellz r0)
              have t1 := kfz hb t1 (lt_cellz r0)
              have t2 := kfz hb t2 (lt_cellz r0)
              have t3 := kfz hb t3 (lt_cellz r0)
              have r0 := kcz hb r0
              have r1 := kcz hb r1
              have r2 := kcz hb r2
              have r3 := kcz hb r3
              refine hK.out _ _ (H5.t hH hb) (fun hH' => ?_)
              clear hH hb
              have hH := hH'
              clear hH' hK K
              try simp only [Act.put, List.setIfInBounds_toArray, List.set_cons_zero, List.set_cons_succ]
              refine wpAnyH_take (i := 3) (oi := ({ dst := some 50, op := Go.Op.move (Go.Operand.tmp 49), type := 4, pos := "text.go:65", after := #[{ on := 2, ground := Go.Ground.data }, { on := 2, ground := Go.Ground.chain }], guard := none } : Oper)) (v := ?_) rfl (by kernel_rfl) (by kernel_rfl) (by kernel_rfl) (fun _ _ _ h => h) (Or.inl ⟨by rfl, ?_⟩) hH ?_
              rotate_left
              · intro w hSw; (try dsimp only at hSw); go_simp; try with_reducible rfl
              try simp only [Act.put, List.setIfInBounds_toArray, List.set_cons_zero, List.set_cons_succ]
              refine wpAnyH_take (i := 4) (oi := ({ dst := some 51, op := Go.Op.load 25 (Go.Operand.tmp 10), type := 25, pos := "text.go:65", after := #[{ on := 3, ground := Go.Ground.guard }], guard := some (3, true) } : Oper)) (v := ?_) rfl (by kernel_rfl) (by kernel_rfl) (by kernel_rfl) (fun _ _ _ h => h) (Or.inl ⟨by rfl, ?_⟩) hH ?_
              rotate_left
              · intro w hSw; (try dsimp only at hSw); go_simp; try with_reducible rfl
              try simp only [Act.put, List.setIfInBounds_toArray, List.set_cons_zero, List.set_cons_succ]
              refine wpAnyH_take (i := 6) (oi := ({ dst := some 53, op := Go.Op.move (Go.Operand.tmp 0), type := 9, pos := "text.go:65", after := #[{ on := 3, ground := Go.Ground.guard }, { on := 9, ground := Go.Ground.gcOnly Go.Departure.lateStores }], guard := some (3, true) } : Oper)) (v := ?_) rfl (by kernel_rfl) (by kernel_rfl) (by kernel_rfl) (fun _ _ _ h => h) (Or.inl ⟨by rfl, ?_⟩) hH ?_
              rotate_left
              · intro w hSw; (try dsimp only at hSw); go_simp; try with_reducible rfl
              try simp only [Act.put, List.setIfInBounds_toArray, List.set_cons_zero, List.set_cons_succ]
              refine wpAnyH_ready (rs := [5]) (by kernel_rfl) (by simp) ?_
              refine AllReadyH.cons (o := ({ dst := some 52, op := Go.Op.call { callee := Go.Callee.value (Go.Operand.func 21), args := #[Go.Operand.tmp 51], argTypes := #[25] }, type := 9, pos := "text.go:65", after := #[{ on := 4, ground := Go.Ground.data }, { on := 3, ground := Go.Ground.chain }, { on := 3, ground := Go.Ground.guard }], guard := some (3, true) } : Oper)) rfl (fun K hK => ?_) AllReadyH.nil
              go_simp
              go_at_call 21
              refine (HLN.out _ (HG.out.below hH.1)).mono ?_
              rintro e9 w9 ⟨rfl, hb⟩
              have t0 := kfz hb t0 (lt_cellz r0)
              have t1 := kfz hb t1 (lt_cellz r0)
              have t2 := kfz hb t2 (lt_cellz r0)
              have t3 := kfz hb t3 (lt_cellz r0)
              have r0 := kcz hb r0
              have r1 := kcz hb r1
              have r2 := kcz hb r2
              have r3 := kcz hb r3
              refine hK.out _ _ (H5.t hH hb) (fun hH' => ?_)
              clear hH hb
              have hH := hH'
              clear hH' hK K
              try simp only [Act.put, List.setIfInBounds_toArray, List.set_cons_zero, List.set_cons_succ]
              refine wpAnyH_take (i := 7) (oi := ({ dst := some 54, op := Go.Op.binOp Go.BinOp.eql 9 (Go.Operand.tmp 52) (Go.Operand.tmp 53) 9, type := 4, pos := "text.go:65", after := #[{ on := 5, ground := Go.Ground.data }, { on := 6, ground := Go.Ground.data }, { on := 3, ground := Go.Ground.guard }, { on := 9, ground := Go.Ground.gcOnly Go.Departure.lateStores }], guard := some (3, true) } : Oper)) (v := ?_) rfl (by kernel_rfl) (by kernel_rfl) (by kernel_rfl) (fun _ _ _ h => h) (Or.inl ⟨by rfl, ?_⟩) hH ?_
              rotate_left
              · intro w hSw; (try dsimp only at hSw); go_simp; try with_reducible rfl
              try simp only [Act.put, List.setIfInBounds_toArray, List.set_cons_zero, List.set_cons_succ]
              refine wpAnyH_take (i := 8) (oi := ({ dst := some 55, op := Go.Op.pick (Go.Operand.tmp 50) (Go.Operand.tmp 54) (Go.Operand.const (Go.Value.bool false)), type := 4, pos := "text.go:65", after := #[{ on := 3, ground := Go.Ground.data }, { on := 7, ground := Go.Ground.data }, { on := 9, ground := Go.Ground.gcOnly Go.Departure.lateStores }], guard := none } : Oper)) (v := ?_) rfl (by kernel_rfl) (by kernel_rfl) (by kernel_rfl) (fun _ _ _ h => h) (Or.inl ⟨by rfl, ?_⟩) hH ?_
              rotate_left
              · intro w hSw; (try dsimp only at hSw); go_simp; try with_reducible rfl
              try simp only [Act.put, List.setIfInBounds_toArray, List.set_cons_zero, List.set_cons_succ]
              refine wpAnyH_ready (rs := [9]) (by kernel_rfl) (by simp) ?_
              refine AllReadyH.cons (o := ({ dst := none, op := Go.Op.store 25 (Go.Operand.tmp 2) (Go.Operand.tmp 47), type := 0, pos := "text.go:65", after := #[{ on := 0, ground := Go.Ground.data }, { on := 5, ground := Go.Ground.chain }, { on := 0, ground := Go.Ground.phase }, { on := 1, ground := Go.Ground.textOnly Go.Departure.lateStores }, { on := 2, ground := Go.Ground.textOnly Go.Departure.lateStoresUnsure }, { on := 3, ground := Go.Ground.textOnly Go.Departure.lateStores }, { on := 4, ground := Go.Ground.textOnly Go.Departure.lateStores }, { on := 5, ground := Go.Ground.textOnly Go.Departure.lateStoresUnsure }, { on := 6, ground := Go.Ground.textOnly Go.Departure.lateStores }, { on := 7, ground := Go.Ground.textOnly Go.Departure.lateStores }, { on := 8, ground := Go.Ground.textOnly Go.Departure.lateStores }], guard := none } : Oper)) rfl (fun K hK => ?_) AllReadyH.nil
              go_simp
              refine hK.out _ _ (H5.set_ (H5.set_ (H5.set_ (H5.set_ hH (Nat.le_refl _) (by omega) 0 _) (Nat.le_refl _) (by omega) 1 _) (Nat.le_refl _) (by omega) 2 _) (Nat.le_refl _) (by omega) 3 _) (fun hH' => ?_)
              clear hH
              have hH := hH'
              clear hH' hK K
              try simp only [Act.put, List.setIfInBounds_toArray, List.set_cons_zero, List.set_cons_succ]
              refine wpAnyH_take (i := 10) (oi := ({ dst := some 3, op := Go.Op.assign (Go.Operand.tmp 55), type := 4, pos := "text.go:65", after := #[{ on := 8, ground := Go.Ground.data }, { on := 9, ground := Go.Ground.chain }, { on := 0, ground := Go.Ground.phase }, { on := 1, ground := Go.Ground.phase }, { on := 2, ground := Go.Ground.phase }, { on := 3, ground := Go.Ground.phase }, { on := 4, ground := Go.Ground.phase }, { on := 5, ground := Go.Ground.phase }, { on := 6, ground := Go.Ground.phase }, { on := 7, ground := Go.Ground.phase }, { on := 8, ground := Go.Ground.phase }, { on := 9, ground := Go.Ground.phase }], guard := none } : Oper)) (v := ?_) rfl (by kernel_rfl) (by kernel_rfl) (by kernel_rfl) (fun _ _ _ h => h) (Or.inl ⟨by rfl, ?_⟩) hH ?_
              rotate_left
              · intro w hSw; (try dsimp only at hSw); go_simp; try with_reducible rfl
              try simp only [Act.put, List.setIfInBounds_toArray, List.set_cons_zero, List.set_cons_succ]
              refine wpAnyH_done (by kernel_rfl) ?_ _
              refine NoPanic.normal ?_
              go_wp2_with fail
              exact bodyPost_ret (v := .tuple #[.agg #[.string w0, .int .i64 v1, .int .i64 v2, .int .i64 v3], .bool true]) (by simp [results, Tryd.results13, go_sem, r0, r1, r2, r3]) rfl ⟨⟨w0, v1, v2, v3⟩, by rw [HR.out]; rfl, fun x hx => (by rw [HR.out] at hx; injection hx with hx), hH.1⟩
            · have hE : (L.toList == t.toList) = false := by rw [beq_eq_false_iff_ne, toList_data, toList_data]; exact fun h => q (ba_ext h)
              have HR := Lib.hid (show starF t = none by rw [HF2.out, if_neg]; rw [QS.out, Bool.true_and, decide_eq_true_eq]; exact fun h => q (ba_ext (HLL.out.trans h)))
              clear q
              refine wp_region_noPanic ?_
              refine wp_region_held_drew (S := fun w' => Bl w w' ∧ w'.cell? ⟨W.heap.size, 0, none⟩ = some (.string w0) ∧ w'.cell? ⟨W.heap.size, 1, none⟩ = some (.int .i64 v1) ∧ w'.cell? ⟨W.heap.size, 2, none⟩ = some (.int .i64 v2) ∧ w'.cell? ⟨W.heap.size, 3, none⟩ = some (.int .i64 v3) ∧ W.heap.size < w'.heap.size) (by kernel_rfl) (H5.t hS (Bl.dz _ 1)) (fun hH => ?_)
              refine wpAnyH_take (i := 0) (oi := ({ dst := some 47, op := Go.Op.load 25 (Go.Operand.tmp 10), type := 25, pos := "text.go:65", after := #[], guard := none } : Oper)) (v := ?_) rfl (by kernel_rfl) (by kernel_rfl) (by kernel_rfl) (fun _ _ _ h => h) (Or.inl ⟨by rfl, ?_⟩) hH ?_
              rotate_left
              · intro w hSw; (try dsimp only at hSw); go_simp; try with_reducible rfl
              try simp only [Act.put, List.setIfInBounds_toArray, List.set_cons_zero, List.set_cons_succ]
              refine wpAnyH_take (i := 1) (oi := ({ dst := some 48, op := Go.Op.load 25 (Go.Operand.tmp 10), type := 25, pos := "text.go:65", after := #[], guard := none } : Oper)) (v := ?_) rfl (by kernel_rfl) (by kernel_rfl) (by kernel_rfl) (fun _ _ _ h => h) (Or.inl ⟨by rfl, ?_⟩) hH ?_
              rotate_left
              · intro w hSw; (try dsimp only at hSw); go_simp; try with_reducible rfl
              try simp only [Act.put, List.setIfInBounds_toArray, List.set_cons_zero, List.set_cons_succ]
              refine wpAnyH_ready (rs := [2]) (by kernel_rfl) (by simp) ?_
              refine AllReadyH.cons (o := ({ dst := some 49, op := Go.Op.call { callee := Go.Callee.value (Go.Operand.func 19), args := #[Go.Operand.tmp 48], argTypes := #[25] }, type := 4, pos := "text.go:65", after := #[{ on := 1, ground := Go.Ground.data }], guard := none } : Oper)) rfl (fun K hK => ?_) AllReadyH.nil
              go_simp
              go_at_call 19
              refine (validStar_any w0 v1 v2 v3 _ (by unfold maxLen; omega)).mono ?_
              rintro e9 w9 ⟨rfl, hb⟩
              rw [QS.out]
              have t0 := kfz hb t0 (lt_cellz r0)
              have t1 := kfz hb t1 (lt_cellz r0)
              have t2 := kfz hb t2 (lt_cellz r0)
              have t3 := kfz hb t3 (lt_cellz r0)
              have r0 := kcz hb r0
              have r1 := kcz hb r1
              have r2 := kcz hb r2
              have r3 := kcz hb r3
              refine hK.out _ _ (H5.t hH hb) (fun hH' => ?_)
              clear hH hb
              have hH := hH'
              clear hH' hK K
              try simp only [Act.put, List.setIfInBounds_toArray, List.set_cons_zero, List.set_cons_succ]
              refine wpAnyH_take (i := 3) (oi := ({ dst := some 50, op := Go.Op.move (Go.Operand.tmp 49), type := 4, pos := "text.go:65", after := #[{ on := 2, ground := Go.Ground.data }, { on := 2, ground := Go.Ground.chain }], guard := none } : Oper)) (v := ?_) rfl (by kernel_rfl) (by kernel_rfl) (by kernel_rfl) (fun _ _ _ h => h) (Or.inl ⟨by rfl, ?_⟩) hH ?_
              rotate_left
              · intro w hSw; (try dsimp only at hSw); go_simp; try with_reducible rfl
              try simp only [Act.put, List.setIfInBounds_toArray, List.set_cons_zero, List.set_cons_succ]
              refine wpAnyH_take (i := 4) (oi := ({ dst := some 51, op := Go.Op.load 25 (Go.Operand.tmp 10), type := 25, pos := "text.go:65", after := #[{ on := 3, ground := Go.Ground.guard }], guard := some (3, true) } : Oper)) (v := ?_) rfl (by kernel_rfl) (by kernel_rfl) (by kernel_rfl) (fun _ _ _ h => h) (Or.inl ⟨by rfl, ?_⟩) hH ?_
              rotate_left
              · intro w hSw; (try dsimp only at hSw); go_simp; try with_reducible rfl
              try simp only [Act.put, List.setIfInBounds_toArray, List.set_cons_zero, List.set_cons_succ]
              refine wpAnyH_take (i := 6) (oi := ({ dst := some 53, op := Go.Op.move (Go.Operand.tmp 0), type := 9, pos := "text.go:65", after := #[{ on := 3, ground := Go.Ground.guard }, { on := 9, ground := Go.Ground.gcOnly Go.Departure.lateStores }], guard := some (3, true) } : Oper)) (v := ?_) rfl (by kernel_rfl) (by kernel_rfl) (by kernel_rfl) (fun _ _ _ h => h) (Or.inl ⟨by rfl, ?_⟩) hH ?_
              rotate_left
              · intro w hSw; (try dsimp only at hSw); go_simp; try with_reducible rfl
              try simp only [Act.put, List.setIfInBounds_toArray, List.set_cons_zero, List.set_cons_succ]
              refine wpAnyH_ready (rs := [5]) (by kernel_rfl) (by simp) ?_
              refine AllReadyH.cons (o := ({ dst := some 52, op := Go.Op.call { callee := Go.Callee.value (Go.Operand.func 21), args := #[Go.Operand.tmp 51], argTypes := #[25] }, type := 9, pos := "text.go:65", after := #[{ on := 4, ground := Go.Ground.data }, { on := 3, ground := Go.Ground.chain }, { on := 3, ground := Go.Ground.guard }], guard := some (3, true) } : Oper)) rfl (fun K hK => ?_) AllReadyH.nil
              go_simp
              go_at_call 21
              refine (HLN.out _ (HG.out.below hH.1)).mono ?_
              rintro e9 w9 ⟨rfl, hb⟩
              have t0 := kfz hb t0 (lt_cellz r0)
              have t1 := kfz hb t1 (lt_cellz r0)
              have t2 := kfz hb t2 (lt_cellz r0)
              have t3 := kfz hb t3 (lt_cellz r0)
              have r0 := kcz hb r0
              have r1 := kcz hb r1
              have r2 := kcz hb r2
              have r3 := kcz hb r3
              refine hK.out _ _ (H5.t hH hb) (fun hH' => ?_)
              clear hH hb
              have hH := hH'
              clear hH' hK K
              try simp only [Act.put, List.setIfInBounds_toArray, List.set_cons_zero, List.set_cons_succ]
              refine wpAnyH_take (i := 7) (oi := ({ dst := some 54, op := Go.Op.binOp Go.BinOp.eql 9 (Go.Operand.tmp 52) (Go.Operand.tmp 53) 9, type := 4, pos := "text.go:65", after := #[{ on := 5, ground := Go.Ground.data }, { on := 6, ground := Go.Ground.data }, { on := 3, ground := Go.Ground.guard }, { on := 9, ground := Go.Ground.gcOnly Go.Departure.lateStores }], guard := some (3, true) } : Oper)) (v := ?_) rfl (by kernel_rfl) (by kernel_rfl) (by kernel_rfl) (fun _ _ _ h => h) (Or.inl ⟨by rfl, ?_⟩) hH ?_
              rotate_left
              · intro w hSw; (try dsimp only at hSw); go_simp; try with_reducible rfl
              try simp only [Act.put, List.setIfInBounds_toArray, List.set_cons_zero, List.set_cons_succ]
              refine wpAnyH_take (i := 8) (oi := ({ dst := some 55, op := Go.Op.pick (Go.Operand.tmp 50) (Go.Operand.tmp 54) (Go.Operand.const (Go.Value.bool false)), type := 4, pos := "text.go:65", after := #[{ on := 3, ground := Go.Ground.data }, { on := 7, ground := Go.Ground.data }, { on := 9, ground := Go.Ground.gcOnly Go.Departure.lateStores }], guard := none } : Oper)) (v := ?_) rfl (by kernel_rfl) (by kernel_rfl) (by kernel_rfl) (fun _ _ _ h => h) (Or.inl ⟨by rfl, ?_⟩) hH ?_
              rotate_left
              · intro w hSw; (try dsimp only at hSw); go_simp; try with_reducible rfl
              try simp only [Act.put, List.setIfInBounds_toArray, List.set_cons_zero, List.set_cons_succ]
              refine wpAnyH_ready (rs := [9]) (by kernel_rfl) (by simp) ?_
              refine AllReadyH.cons (o := ({ dst := none, op := Go.Op.store 25 (Go.Operand.tmp 2) (Go.Operand.tmp 47), type := 0, pos := "text.go:65", after := #[{ on := 0, ground := Go.Ground.data }, { on := 5, ground := Go.Ground.chain }, { on := 0, ground := Go.Ground.phase }, { on := 1, ground := Go.Ground.textOnly Go.Departure.lateStores }, { on := 2, ground := Go.Ground.textOnly Go.Departure.lateStoresUnsure }, { on := 3, ground := Go.Ground.textOnly Go.Departure.lateStores }, { on := 4, ground := Go.Ground.textOnly Go.Departure.lateStores }, { on := 5, ground := Go.Ground.textOnly Go.Departure.lateStoresUnsure }, { on := 6, ground := Go.Ground.textOnly Go.Departure.lateStores }, { on := 7, ground := Go.Ground.textOnly Go.Departure.lateStores }, { on := 8, ground := Go.Ground.textOnly Go.Departure.lateStores }], guard := none } : Oper)) rfl (fun K hK => ?_) AllReadyH.nil
              go_simp
              refine hK.out _ _ (H5.set_ (H5.set_ (H5.set_ (H5.set_ hH (Nat.le_refl _) (by omega) 0 _) (Nat.le_refl _) (by omega) 1 _) (Nat.le_refl _) (by omega) 2 _) (Nat.le_refl _) (by omega) 3 _) (fun hH' => ?_)
              clear hH
              have hH := hH'
              clear hH' hK K
              try simp only [Act.put, List.setIfInBounds_toArray, List.set_cons_zero, List.set_cons_succ]
              refine wpAnyH_take (i := 10) (oi := ({ dst := some 3, op := Go.Op.assign (Go.Operand.tmp 55), type := 4, pos := "text.go:65", after := #[{ on := 8, ground := Go.Ground.data }, { on := 9, ground := Go.Ground.chain }, { on := 0, ground := Go.Ground.phase }, { on := 1, ground := Go.Ground.phase }, { on := 2, ground := Go.Ground.phase }, { on := 3, ground := Go.Ground.phase }, { on := 4, ground := Go.Ground.phase }, { on := 5, ground := Go.Ground.phase }, { on := 6, ground := Go.Ground.phase }, { on := 7, ground := Go.Ground.phase }, { on := 8, ground := Go.Ground.phase }, { on := 9, ground := Go.Ground.phase }], guard := none } : Oper)) (v := ?_) rfl (by kernel_rfl) (by kernel_rfl) (by kernel_rfl) (fun _ _ _ h => h) (Or.inl ⟨by rfl, ?_⟩) hH ?_
              rotate_left
              · intro w hSw; (try dsimp only at hSw); go_simp; try with_reducible rfl
              try simp only [Act.put, List.setIfInBounds_toArray, List.set_cons_zero, List.set_cons_succ]
              refine wpAnyH_done (by kernel_rfl) ?_ _
              refine NoPanic.normal ?_
              go_wp2_with fail
              exact bodyPost_ret (v := .tuple #[.agg #[.string w0, .int .i64 v1, .int .i64 v2, .int .i64 v3], .bool false]) (by simp [results, Tryd.results13, go_sem, r0, r1, r2, r3]) rfl ⟨⟨w0, v1, v2, v3⟩, by rw [HR.out]; rfl, fun x hx => (by rw [HR.out] at hx; cases hx), hH.1⟩
          · have QS := Lib.hid (show stB w0 v1 v2 v3 = false by simpa using q)
            have HR := Lib.hid (show starF t = none by rw [HF2.out, if_neg]; rw [QS.out]; simp)
            clear q
            refine wp_region_noPanic ?_
            refine wp_region_held_drew (S := fun w' => Bl w w' ∧ w'.cell? ⟨W.heap.size, 0, none⟩ = some (.string w0) ∧ w'.cell? ⟨W.heap.size, 1, none⟩ = some (.int .i64 v1) ∧ w'.cell? ⟨W.heap.size, 2, none⟩ = some (.int .i64 v2) ∧ w'.cell? ⟨W.heap.size, 3, none⟩ = some (.int .i64 v3) ∧ W.heap.size < w'.heap.size) (by kernel_rfl) (H5.t hS (Bl.dz _ 1)) (fun hH => ?_)
            refine wpAnyH_take (i := 0) (oi := ({ dst := some 47, op := Go.Op.load 25 (Go.Operand.tmp 10), type := 25, pos := "text.go:65", after := #[], guard := none } : Oper)) (v := ?_) rfl (by kernel_rfl) (by kernel_rfl) (by kernel_rfl) (fun _ _ _ h => h) (Or.inl ⟨by rfl, ?_⟩) hH ?_
            rotate_left
            · intro w hSw; (try dsimp only at hSw); go_simp; try with_reducible rfl
            try simp only [Act.put, List.setIfInBounds_toArray, List.set_cons_zero, List.set_cons_succ]
            refine wpAnyH_take (i := 1) (oi := ({ dst := some 48, op := Go.Op.load 25 (Go.Operand.tmp 10), type := 25, pos := "text.go:65", after := #[], guard := none } : Oper)) (v := ?_) rfl (by kernel_rfl) (by kernel_rfl) (by kernel_rfl) (fun _ _ _ h => h) (Or.inl ⟨by rfl, ?_⟩) hH ?_
            rotate_left
            · intro w hSw; (try dsimp only at hSw); go_simp; try with_reducible rfl
            try simp only [Act.put, List.setIfInBounds_toArray, List.set_cons_zero, List.set_cons_succ]
            refine wpAnyH_ready (rs := [2]) (by kernel_rfl) (by simp) ?_
            refine AllReadyH.cons (o := ({ dst := some 49, op := Go.Op.call { callee := Go.Callee.value (Go.Operand.func 19), args := #[Go.Operand.tmp 48], argTypes := #[25] }, type := 4, pos := "text.go:65", after := #[{ on := 1, ground := Go.Ground.data }], guard := none } : Oper)) rfl (fun K hK => ?_) AllReadyH.nil
            go_simp
            go_at_call 19
            refine (validStar_any w0 v1 v2 v3 _ (by unfold maxLen; omega)).mono ?_
            rintro e9 w9 ⟨rfl, hb⟩
            rw [QS.out]
            have t0 := kfz hb t0 (lt_cellz r0)
            have t1 := kfz hb t1 (lt_cellz r0)
            have t2 := kfz hb t2 (lt_cellz r0)
            have t3 := kfz hb t3 (lt_cellz r0)
            have r0 := kcz hb r0
            have r1 := kcz hb r1
            have r2 := kcz hb r2
            have r3 := kcz hb r3
            refine hK.out _ _ (H5.t hH hb) (fun hH' => ?_)
            clear hH hb
            have hH := hH'
            clear hH' hK K
            try simp only [Act.put, List.setIfInBounds_toArray, List.set_cons_zero, List.set_cons_succ]
            refine wpAnyH_take (i := 3) (oi := ({ dst := some 50, op := Go.Op.move (Go.Operand.tmp 49), type := 4, pos := "text.go:65", after := #[{ on := 2, ground := Go.Ground.data }, { on := 2, ground := Go.Ground.chain }], guard := none } : Oper)) (v := ?_) rfl (by kernel_rfl) (by kernel_rfl) (by kernel_rfl) (fun _ _ _ h => h) (Or.inl ⟨by rfl, ?_⟩) hH ?_
            rotate_left
            · intro w hSw; (try dsimp only at hSw); go_simp; try with_reducible rfl
            try simp only [Act.put, List.setIfInBounds_toArray, List.set_cons_zero, List.set_cons_succ]
            refine wpAnyH_take (i := 4) (oi := ({ dst := some 51, op := Go.Op.load 25 (Go.Operand.tmp 10), type := 25, pos := "text.go:65", after := #[{ on := 3, ground := Go.Ground.guard }], guard := some (3, true) } : Oper)) (v := undef) rfl (by kernel_rfl) (by kernel_rfl) (by kernel_rfl) (fun _ _ _ h => h) (Or.inr ⟨by rfl, rfl⟩) hH ?_
            try simp only [Act.put, List.setIfInBounds_toArray, List.set_cons_zero, List.set_cons_succ]
            refine wpAnyH_take (i := 6) (oi := ({ dst := some 53, op := Go.Op.move (Go.Operand.tmp 0), type := 9, pos := "text.go:65", after := #[{ on := 3, ground := Go.Ground.guard }, { on := 9, ground := Go.Ground.gcOnly Go.Departure.lateStores }], guard := some (3, true) } : Oper)) (v := undef) rfl (by kernel_rfl) (by kernel_rfl) (by kernel_rfl) (fun _ _ _ h => h) (Or.inr ⟨by rfl, rfl⟩) hH ?_
            try simp only [Act.put, List.setIfInBounds_toArray, List.set_cons_zero, List.set_cons_succ]
            refine wpAnyH_ready (rs := [5]) (by kernel_rfl) (by simp) ?_
            refine AllReadyH.cons (o := ({ dst := some 52, op := Go.Op.call { callee := Go.Callee.value (Go.Operand.func 21), args := #[Go.Operand.tmp 51], argTypes := #[25] }, type := 9, pos := "text.go:65", after := #[{ on := 4, ground := Go.Ground.data }, { on := 3, ground := Go.Ground.chain }, { on := 3, ground := Go.Ground.guard }], guard := some (3, true) } : Oper)) rfl (fun K hK => ?_) AllReadyH.nil
            refine iteInduction (motive := fun p => p) (fun h => absurd (show false = true from h) Bool.false_ne_true) (fun _ => ?_)
            refine hK.out _ _ hH (fun hH' => ?_)
            clear hH' hK K
            try simp only [Act.put, List.setIfInBounds_toArray, List.set_cons_zero, List.set_cons_succ]
            refine wpAnyH_take (i := 7) (oi := ({ dst := some 54, op := Go.Op.binOp Go.BinOp.eql 9 (Go.Operand.tmp 52) (Go.Operand.tmp 53) 9, type := 4, pos := "text.go:65", after := #[{ on := 5, ground := Go.Ground.data }, { on := 6, ground := Go.Ground.data }, { on := 3, ground := Go.Ground.guard }, { on := 9, ground := Go.Ground.gcOnly Go.Departure.lateStores }], guard := some (3, true) } : Oper)) (v := undef) rfl (by kernel_rfl) (by kernel_rfl) (by kernel_rfl) (fun _ _ _ h => h) (Or.inr ⟨by rfl, rfl⟩) hH ?_
            try simp only [Act.put, List.setIfInBounds_toArray, List.set_cons_zero, List.set_cons_succ]
            refine wpAnyH_take (i := 8) (oi := ({ dst := some 55, op := Go.Op.pick (Go.Operand.tmp 50) (Go.Operand.tmp 54) (Go.Operand.const (Go.Value.bool false)), type := 4, pos := "text.go:65", after := #[{ on := 3, ground := Go.Ground.data }, { on := 7, ground := Go.Ground.data }, { on := 9, ground := Go.Ground.gcOnly Go.Departure.lateStores }], guard := none } : Oper)) (v := ?_) rfl (by kernel_rfl) (by kernel_rfl) (by kernel_rfl) (fun _ _ _ h => h) (Or.inl ⟨by rfl, ?_⟩) hH ?_
            rotate_left
            · intro w hSw; (try dsimp only at hSw); go_simp; try with_reducible rfl
            try simp only [Act.put, List.setIfInBounds_toArray, List.set_cons_zero, List.set_cons_succ]
            refine wpAnyH_ready (rs := [9]) (by kernel_rfl) (by simp) ?_
            refine AllReadyH.cons (o := ({ dst := none, op := Go.Op.store 25 (Go.Operand.tmp 2) (Go.Operand.tmp 47), type := 0, pos := "text.go:65", after := #[{ on := 0, ground := Go.Ground.data }, { on := 5, ground := Go.Ground.chain }, { on := 0, ground := Go.Ground.phase }, { on := 1, ground := Go.Ground.textOnly Go.Departure.lateStores }, { on := 2, ground := Go.Ground.textOnly Go.Departure.lateStoresUnsure }, { on := 3, ground := Go.Ground.textOnly Go.Departure.lateStores }, { on := 4, ground := Go.Ground.textOnly Go.Departure.lateStores }, { on := 5, ground := Go.Ground.textOnly Go.Departure.lateStoresUnsure }, { on := 6, ground := Go.Ground.textOnly Go.Departure.lateStores }, { on := 7, ground := Go.Ground.textOnly Go.Departure.lateStores }, { on := 8, ground := Go.Ground.textOnly Go.Departure.lateStores }], guard := none } : Oper)) rfl (fun K hK => ?_) AllReadyH.nil
            go_simp
            refine hK.out _ _ (H5.set_ (H5.set_ (H5.set_ (H5.set_ hH (Nat.le_refl _) (by omega) 0 _) (Nat.le_refl _) (by omega) 1 _) (Nat.le_refl _) (by omega) 2 _) (Nat.le_refl _) (by omega) 3 _) (fun hH' => ?_)
            clear hH
            have hH := hH'
            clear hH' hK K
            try simp only [Act.put, List.setIfInBounds_toArray, List.set_cons_zero, List.set_cons_succ]
            refine wpAnyH_take (i := 10) (oi := ({ dst := some 3, op := Go.Op.assign (Go.Operand.tmp 55), type := 4, pos := "text.go:65", after := #[{ on := 8, ground := Go.Ground.data }, { on := 9, ground := Go.Ground.chain }, { on := 0, ground := Go.Ground.phase }, { on := 1, ground := Go.Ground.phase }, { on := 2, ground := Go.Ground.phase }, { on := 3, ground := Go.Ground.phase }, { on := 4, ground := Go.Ground.phase }, { on := 5, ground := Go.Ground.phase }, { on := 6, ground := Go.Ground.phase }, { on := 7, ground := Go.Ground.phase }, { on := 8, ground := Go.Ground.phase }, { on := 9, ground := Go.Ground.phase }], guard := none } : Oper)) (v := ?_) rfl (by kernel_rfl) (by kernel_rfl) (by kernel_rfl) (fun _ _ _ h => h) (Or.inl ⟨by rfl, ?_⟩) hH ?_
            rotate_left
            · intro w hSw; (try dsimp only at hSw); go_simp; try with_reducible rfl
            try simp only [Act.put, List.setIfInBounds_toArray, List.set_cons_zero, List.set_cons_succ]
            refine wpAnyH_done (by kernel_rfl) ?_ _
            refine NoPanic.normal ?_
            go_wp2_with fail
            exact bodyPost_ret (v := .tuple #[.agg #[.string w0, .int .i64 v1, .int .i64 v2, .int .i64 v3], .bool false]) (by simp [results, Tryd.results13, go_sem, r0, r1, r2, r3]) rfl ⟨⟨w0, v1, v2, v3⟩, by rw [HR.out]; rfl, fun x hx => (by rw [HR.out] at hx; cases hx), hH.1⟩
        · have V3 := Lib.hid (show ∀ v, atoiAll w3.data.toList ≠ .ok v from fun v hv => q ⟨v, hv⟩)
          clear q
          go_enter Tryd.func13, Tryd.ntmps13
          go_wp2_with fail
          refine (Tryd.strings_Split t ⟨#[32]⟩ mm _ (by omega) (by rw [World.cell?_alloc_lt _ _ _ (lt_cellz HML.out)]; exact HML.out) (by decide)).mono ?_
          rintro e0 u0 ⟨rfl, rfl⟩
          rw [HCW.out, HC.out]
          go_wp2_with fail
          refine wp_loop_rounds 4 ?_
          rw [rounds_succ]
          go_wp2_with fail
          refine (atoi_ok_any w1 v1 V1.out (by omega) _).mono ?_
          rintro e1 u1 ⟨rfl, hb⟩
          have x0 := kcz hb (b := w.heap.size) (o := 0) (v := .string ⟨#[]⟩) (by go_cell)
          have x1 := kcz hb (b := w.heap.size) (o := 1) (v := .int .i64 0) (by go_cell)
          have x2 := kcz hb (b := w.heap.size) (o := 2) (v := .int .i64 0) (by go_cell)
          have x3 := kcz hb (b := w.heap.size) (o := 3) (v := .int .i64 0) (by go_cell)
          have x4 := kcz hb (b := w.heap.size + 1) (o := 0) (v := .string w0) (by go_cell)
          have x5 := kcz hb (b := w.heap.size + 1) (o := 1) (v := .string w1) (by go_cell)
          have x6 := kcz hb (b := w.heap.size + 1) (o := 2) (v := .string w2) (by go_cell)
          have x7 := kcz hb (b := w.heap.size + 1) (o := 3) (v := .string w3) (by go_cell)
          have x8 := kcz hb (b := w.heap.size + 1 + 1) (o := 0) (v := .int .i64 0) (by go_cell)
          have x9 := kcz hb (b := w.heap.size + 1 + 1) (o := 1) (v := .int .i64 0) (by go_cell)
          have x10 := kcz hb (b := w.heap.size + 1 + 1) (o := 2) (v := .int .i64 0) (by go_cell)
          have y0 := kfz hb (b := w.heap.size) (o := 0) (by (try simp only [frozen?_alloc_cells, World.frozen?_setCell]); first | assumption | exact frozen_beyondz (by (try simp only [World.size_alloc, World.size_setCell]); omega)) (by (try simp only [World.size_alloc, World.size_setCell]); omega)
          have y1 := kfz hb (b := w.heap.size) (o := 1) (by (try simp only [frozen?_alloc_cells, World.frozen?_setCell]); first | assumption | exact frozen_beyondz (by (try simp only [World.size_alloc, World.size_setCell]); omega)) (by (try simp only [World.size_alloc, World.size_setCell]); omega)
          have y2 := kfz hb (b := w.heap.size) (o := 2) (by (try simp only [frozen?_alloc_cells, World.frozen?_setCell]); first | assumption | exact frozen_beyondz (by (try simp only [World.size_alloc, World.size_setCell]); omega)) (by (try simp only [World.size_alloc, World.size_setCell]); omega)
          have y3 := kfz hb (b := w.heap.size) (o := 3) (by (try simp only [frozen?_alloc_cells, World.frozen?_setCell]); first | assumption | exact frozen_beyondz (by (try simp only [World.size_alloc, World.size_setCell]); omega)) (by (try simp only [World.size_alloc, World.size_setCell]); omega)
          have y4 := kfz hb (b := w.heap.size + 1 + 1) (o := 0) (by (try simp only [frozen?_alloc_cells, World.frozen?_setCell]); first | assumption | exact frozen_beyondz (by (try simp only [World.size_alloc, World.size_setCell]); omega)) (by (try simp only [World.size_alloc, World.size_setCell]); omega)
          have y5 := kfz hb (b := w.heap.size + 1 + 1) (o := 1) (by (try simp only [frozen?_alloc_cells, World.frozen?_setCell]); first | assumption | exact frozen_beyondz (by (try simp only [World.size_alloc, World.size_setCell]); omega)) (by (try simp only [World.size_alloc, World.size_setCell]); omega)
          have y6 := kfz hb (b := w.heap.size + 1 + 1) (o := 2) (by (try simp only [frozen?_alloc_cells, World.frozen?_setCell]); first | assumption | exact frozen_beyondz (by (try simp only [World.size_alloc, World.size_setCell]); omega)) (by (try simp only [World.size_alloc, World.size_setCell]); omega)
          have B1 : Bl w u1 := Below.trans (by go_grown) (hb.mono (by (try simp only [World.size_alloc, World.size_setCell, World.size_drew]); omega))
          have z1 := B1.size
          have l1 := lt_cellz x0
          have m1 := lt_cellz x4
          have n1 := lt_cellz x8
          clear hb
          go_wp2_with fail
          rw [rounds_succ]
          go_wp2_with fail
          refine (atoi_ok_any w2 v2 V2.out (by omega) _).mono ?_
          rintro e2 u2 ⟨rfl, hb⟩
          have x0 := kcz hb (b := w.heap.size) (o := 0) (v := .string ⟨#[]⟩) (by go_cell)
          have x1 := kcz hb (b := w.heap.size) (o := 1) (v := .int .i64 0) (by go_cell)
          have x2 := kcz hb (b := w.heap.size) (o := 2) (v := .int .i64 0) (by go_cell)
          have x3 := kcz hb (b := w.heap.size) (o := 3) (v := .int .i64 0) (by go_cell)
          have x4 := kcz hb (b := w.heap.size + 1) (o := 0) (v := .string w0) (by go_cell)
          have x5 := kcz hb (b := w.heap.size + 1) (o := 1) (v := .string w1) (by go_cell)
          have x6 := kcz hb (b := w.heap.size + 1) (o := 2) (v := .string w2) (by go_cell)
          have x7 := kcz hb (b := w.heap.size + 1) (o := 3) (v := .string w3) (by go_cell)
          have x8 := kcz hb (b := w.heap.size + 1 + 1) (o := 0) (v := .int .i64 v1) (by go_cell)
          have x9 := kcz hb (b := w.heap.size + 1 + 1) (o := 1) (v := .int .i64 0) (by go_cell)
          have x10 := kcz hb (b := w.heap.size + 1 + 1) (o := 2) (v := .int .i64 0) (by go_cell)
          have y0 := kfz hb (b := w.heap.size) (o := 0) (by (try simp only [frozen?_alloc_cells, World.frozen?_setCell]); first | assumption | exact frozen_beyondz (by (try simp only [World.size_alloc, World.size_setCell]); omega)) (by (try simp only [World.size_alloc, World.size_setCell]); omega)
          have y1 := kfz hb (b := w.heap.size) (o := 1) (by (try simp only [frozen?_alloc_cells, World.frozen?_setCell]); first | assumption | exact frozen_beyondz (by (try simp only [World.size_alloc, World.size_setCell]); omega)) (by (try simp only [World.size_alloc, World.size_setCell]); omega)
          have y2 := kfz hb (b := w.heap.size) (o := 2) (by (try simp only [frozen?_alloc_cells, World.frozen?_setCell]); first | assumption | exact frozen_beyondz (by (try simp only [World.size_alloc, World.size_setCell]); omega)) (by (try simp only [World.size_alloc, World.size_setCell]); omega)
          have y3 := kfz hb (b := w.heap.size) (o := 3) (by (try simp only [frozen?_alloc_cells, World.frozen?_setCell]); first | assumption | exact frozen_beyondz (by (try simp only [World.size_alloc, World.size_setCell]); omega)) (by (try simp only [World.size_alloc, World.size_setCell]); omega)
          have y4 := kfz hb (b := w.heap.size + 1 + 1) (o := 0) (by (try simp only [frozen?_alloc_cells, World.frozen?_setCell]); first | assumption | exact frozen_beyondz (by (try simp only [World.size_alloc, World.size_setCell]); omega)) (by (try simp only [World.size_alloc, World.size_setCell]); omega)
          have y5 := kfz hb (b := w.heap.size + 1 + 1) (o := 1) (by (try simp only [frozen?_alloc_cells, World.frozen?_setCell]); first | assumption | exact frozen_beyondz (by (try simp only [World.size_alloc, World.size_setCell]); omega)) (by (try simp only [World.size_alloc, World.size_setCell]); omega)
          have y6 := kfz hb (b := w.heap.size + 1 + 1) (o := 2) (by (try simp only [frozen?_alloc_cells, World.frozen?_setCell]); first | assumption | exact frozen_beyondz (by (try simp only [World.size_alloc, World.size_setCell]); omega)) (by (try simp only [World.size_alloc, World.size_setCell]); omega)
          have B2 : Bl w u2 := Below.trans (by go_grown) (hb.mono (by (try simp only [World.size_alloc, World.size_setCell, World.size_drew]); omega))
          have z2 := B2.size
          have l2 := lt_cellz x0
          have m2 := lt_cellz x4
          have n2 := lt_cellz x8
          clear hb
          go_wp2_with fail
          rw [rounds_succ]
          go_wp2_with fail
          refine (atoi_bad_any w3 V3.out (by omega) _ (HG.out.below (by go_grown))).mono ?_
          rintro e3 u3 ⟨N, rfl, hb⟩
          have x0 := kcz hb (b := w.heap.size) (o := 0) (v := .string ⟨#[]⟩) (by go_cell)
          have x1 := kcz hb (b := w.heap.size) (o := 1) (v := .int .i64 0) (by go_cell)
          have x2 := kcz hb (b := w.heap.size) (o := 2) (v := .int .i64 0) (by go_cell)
          have x3 := kcz hb (b := w.heap.size) (o := 3) (v := .int .i64 0) (by go_cell)
          have x4 := kcz hb (b := w.heap.size + 1) (o := 0) (v := .string w0) (by go_cell)
          have x5 := kcz hb (b := w.heap.size + 1) (o := 1) (v := .string w1) (by go_cell)
          have x6 := kcz hb (b := w.heap.size + 1) (o := 2) (v := .string w2) (by go_cell)
          have x7 := kcz hb (b := w.heap.size + 1) (o := 3) (v := .string w3) (by go_cell)
          have x8 := kcz hb (b := w.heap.size + 1 + 1) (o := 0) (v := .int .i64 v1) (by go_cell)
          have x9 := kcz hb (b := w.heap.size + 1 + 1) (o := 1) (v := .int .i64 v2) (by go_cell)
          have x10 := kcz hb (b := w.heap.size + 1 + 1) (o := 2) (v := .int .i64 0) (by go_cell)
          have y0 := kfz hb (b := w.heap.size) (o := 0) (by (try simp only [frozen?_alloc_cells, World.frozen?_setCell]); first | assumption | exact frozen_beyondz (by (try simp only [World.size_alloc, World.size_setCell]); omega)) (by (try simp only [World.size_alloc, World.size_setCell]); omega)
          have y1 := kfz hb (b := w.heap.size) (o := 1) (by (try simp only [frozen?_alloc_cells, World.frozen?_setCell]); first | assumption | exact frozen_beyondz (by (try simp only [World.size_alloc, World.size_setCell]); omega)) (by (try simp only [World.size_alloc, World.size_setCell]); omega)
          have y2 := kfz hb (b := w.heap.size) (o := 2) (by (try simp only [frozen?_alloc_cells, World.frozen?_setCell]); first | assumption | exact frozen_beyondz (by (try simp only [World.size_alloc, World.size_setCell]); omega)) (by (try simp only [World.size_alloc, World.size_setCell]); omega)
          have y3 := kfz hb (b := w.heap.size) (o := 3) (by (try simp only [frozen?_alloc_cells, World.frozen?_setCell]); first | assumption | exact frozen_beyondz (by (try simp only [World.size_alloc, World.size_setCell]); omega)) (by (try simp only [World.size_alloc, World.size_setCell]); omega)
          have y4 := kfz hb (b := w.heap.size + 1 + 1) (o := 0) (by (try simp only [frozen?_alloc_cells, World.frozen?_setCell]); first | assumption | exact frozen_beyondz (by (try simp only [World.size_alloc, World.size_setCell]); omega)) (by (try simp only [World.size_alloc, World.size_setCell]); omega)
          have y5 := kfz hb (b := w.heap.size + 1 + 1) (o := 1) (by (try simp only [frozen?_alloc_cells, World.frozen?_setCell]); first | assumption | exact frozen_beyondz (by (try simp only [World.size_alloc, World.size_setCell]); omega)) (by (try simp only [World.size_alloc, World.size_setCell]); omega)
          have y6 := kfz hb (b := w.heap.size + 1 + 1) (o := 2) (by (try simp only [frozen?_alloc_cells, World.frozen?_setCell]); first | assumption | exact frozen_beyondz (by (try simp only [World.size_alloc, World.size_setCell]); omega)) (by (try simp only [World.size_alloc, World.size_setCell]); omega)
          have B3 : Bl w u3 := Below.trans (by go_grown) (hb.mono (by (try simp only [World.size_alloc, World.size_setCell, World.size_drew]); omega))
          have z3 := B3.size
          have l3 := lt_cellz x0
          have m3 := lt_cellz x4
          have n3 := lt_cellz x8
          clear hb
          go_wp2_with fail
          exact bodyPost_ret (v := .tuple #[.agg #[.string ⟨#[]⟩, .int .i64 0, .int .i64 0, .int .i64 0], .bool false]) (by simp [results, Tryd.results13, go_sem, x0, x1, x2, x3, l3]) rfl ⟨⟨⟨#[]⟩, 0, 0, 0⟩, by rw [HF.out, bad_third V3.out]; rfl, fun x hx => (by rw [HF.out, bad_third V3.out] at hx; cases hx), by go_grown⟩
      · have V2 := Lib.hid (show ∀ v, atoiAll w2.data.toList ≠ .ok v from fun v hv => q ⟨v, hv⟩)
        clear q
        go_enter Tryd.func13, Tryd.ntmps13
        go_wp2_with fail
        refine (Tryd.strings_Split t ⟨#[32]⟩ mm _ (by omega) (by rw [World.cell?_alloc_lt _ _ _ (lt_cellz HML.out)]; exact HML.out) (by decide)).mono ?_
        rintro e0 u0 ⟨rfl, rfl⟩
        rw [HCW.out, HC.out]
        go_wp2_with fail
        refine wp_loop_rounds 4 ?_
        rw [rounds_succ]
        go_wp2_with fail
        refine (atoi_ok_any w1 v1 V1.out (by omega) _).mono ?_
        rintro e1 u1 ⟨rfl, hb⟩
        have x0 := kcz hb (b := w.heap.size) (o := 0) (v := .string ⟨#[]⟩) (by go_cell)
        have x1 := kcz hb (b := w.heap.size) (o := 1) (v := .int .i64 0) (by go_cell)
        have x2 := kcz hb (b := w.heap.size) (o := 2) (v := .int .i64 0) (by go_cell)
        have x3 := kcz hb (b := w.heap.size) (o := 3) (v := .int .i64 0) (by go_cell)
        have x4 := kcz hb (b := w.heap.size + 1) (o := 0) (v := .string w0) (by go_cell)
        have x5 := kcz hb (b := w.heap.size + 1) (o := 1) (v := .string w1) (by go_cell)
        have x6 := kcz hb (b := w.heap.size + 1) (o := 2) (v := .string w2) (by go_cell)
        have x7 := kcz hb (b := w.heap.size + 1) (o := 3) (v := .string w3) (by go_cell)
        have x8 := kcz hb (b := w.heap.size + 1 + 1) (o := 0) (v := .int .i64 0) (by go_cell)
        have x9 := kcz hb (b := w.heap.size + 1 + 1) (o := 1) (v := .int .i64 0) (by go_cell)
        have x10 := kcz hb (b := w.heap.size + 1 + 1) (o := 2) (v := .int .i64 0) (by go_cell)
        have y0 := kfz hb (b := w.heap.size) (o := 0) (by (try simp only [frozen?_alloc_cells, World.frozen?_setCell]); first | assumption | exact frozen_beyondz (by (try simp only [World.size_alloc, World.size_setCell]); omega)) (by (try simp only [World.size_alloc, World.size_setCell]); omega)
        have y1 := kfz hb (b := w.heap.size) (o := 1) (by (try simp only [frozen?_alloc_cells, World.frozen?_setCell]); first | assumption | exact frozen_beyondz (by (try simp only [World.size_alloc, World.size_setCell]); omega)) (by (try simp only [World.size_alloc, World.size_setCell]); omega)
        have y2 := kfz hb (b := w.heap.size) (o := 2) (by (try simp only [frozen?_alloc_cells, World.frozen?_setCell]); first | assumption | exact frozen_beyondz (by (try simp only [World.size_alloc, World.size_setCell]); omega)) (by (try simp only [World.size_alloc, World.size_setCell]); omega)
        have y3 := kfz hb (b := w.heap.size) (o := 3) (by (try simp only [frozen?_alloc_cells, World.frozen?_setCell]); first | assumption | exact frozen_beyondz (by (try simp only [World.size_alloc, World.size_setCell]); omega)) (by (try simp only [World.size_alloc, World.size_setCell]); omega)
        have y4 := kfz hb (b := w.heap.size + 1 + 1) (o := 0) (by (try simp only [frozen?_alloc_cells, World.frozen?_setCell]); first | assumption | exact frozen_beyondz (by (try simp only [World.size_alloc, World.size_setCell]); omega)) (by (try simp only [World.size_alloc, World.size_setCell]); omega)
        have y5 := kfz hb (b := w.heap.size + 1 + 1) (o := 1) (by (try simp only [frozen?_alloc_cells, World.frozen?_setCell]); first | assumption | exact frozen_beyondz (by (try simp only [World.size_alloc, World.size_setCell]); omega)) (by (try simp only [World.size_alloc, World.size_setCell]); omega)
        have y6 := kfz hb (b := w.heap.size + 1 + 1) (o := 2) (by (try simp only [frozen?_alloc_cells, World.frozen?_setCell]); first | assumption | exact frozen_beyondz (by (try simp only [World.size_alloc, World.size_setCell]); omega)) (by (try simp only [World.size_alloc, World.size_setCell]); omega)
        have B1 : Bl w u1 := Below.trans (by go_grown) (hb.mono (by (try simp only [World.size_alloc, World.size_setCell, World.size_drew]); omega))
        have z1 := B1.size
        have l1 := lt_cellz x0
        have m1 := lt_cellz x4
        have n1 := lt_cellz x8
        clear hb
        go_wp2_with fail
        rw [rounds_succ]
        go_wp2_with fail
        refine (atoi_bad_any w2 V2.out (by omega) _ (HG.out.below (by go_grown))).mono ?_
        rintro e2 u2 ⟨N, rfl, hb⟩
        have x0 := kcz hb (b := w.heap.size) (o := 0) (v := .string ⟨#[]⟩) (by go_cell)
        have x1 := kcz hb (b := w.heap.size) (o := 1) (v := .int .i64 0) (by go_cell)
        have x2 := kcz hb (b := w.heap.size) (o := 2) (v := .int .i64 0) (by go_cell)
        have x3 := kcz hb (b := w.heap.size) (o := 3) (v := .int .i64 0) (by go_cell)
        have x4 := kcz hb (b := w.heap.size + 1) (o := 0) (v := .string w0) (by go_cell)
        have x5 := kcz hb (b := w.heap.size + 1) (o := 1) (v := .string w1) (by go_cell)
        have x6 := kcz hb (b := w.heap.size + 1) (o := 2) (v := .string w2) (by go_cell)
        have x7 := kcz hb (b := w.heap.size + 1) (o := 3) (v := .string w3) (by go_cell)
        have x8 := kcz hb (b := w.heap.size + 1 + 1) (o := 0) (v := .int .i64 v1) (by go_cell)
        have x9 := kcz hb (b := w.heap.size + 1 + 1) (o := 1) (v := .int .i64 0) (by go_cell)
        have x10 := kcz hb (b := w.heap.size + 1 + 1) (o := 2) (v := .int .i64 0) (by go_cell)
        have y0 := kfz hb (b := w.heap.size) (o := 0) (by (try simp only [frozen?_alloc_cells, World.frozen?_setCell]); first | assumption | exact frozen_beyondz (by (try simp only [World.size_alloc, World.size_setCell]); omega)) (by (try simp only [World.size_alloc, World.size_setCell]); omega)
        have y1 := kfz hb (b := w.heap.size) (o := 1) (by (try simp only [frozen?_alloc_cells, World.frozen?_setCell]); first | assumption | exact frozen_beyondz (by (try simp only [World.size_alloc, World.size_setCell]); omega)) (by (try simp only [World.size_alloc, World.size_setCell]); omega)
        have y2 := kfz hb (b := w.heap.size) (o := 2) (by (try simp only [frozen?_alloc_cells, World.frozen?_setCell]); first | assumption | exact frozen_beyondz (by (try simp only [World.size_alloc, World.size_setCell]); omega)) (by (try simp only [World.size_alloc, World.size_setCell]); omega)
        have y3 := kfz hb (b := w.heap.size) (o := 3) (by (try simp only [frozen?_alloc_cells, World.frozen?_setCell]); first | assumption | exact frozen_beyondz (by (try simp only [World.size_alloc, World.size_setCell]); omega)) (by (try simp only [World.size_alloc, World.size_setCell]); omega)
        have y4 := kfz hb (b := w.heap.size + 1 + 1) (o := 0) (by (try simp only [frozen?_alloc_cells, World.frozen?_setCell]); first | assumption | exact frozen_beyondz (by (try simp only [World.size_alloc, World.size_setCell]); omega)) (by (try simp only [World.size_alloc, World.size_setCell]); omega)
        have y5 := kfz hb (b := w.heap.size + 1 + 1) (o := 1) (by (try simp only [frozen?_alloc_cells, World.frozen?_setCell]); first | assumption | exact frozen_beyondz (by (try simp only [World.size_alloc, World.size_setCell]); omega)) (by (try simp only [World.size_alloc, World.size_setCell]); omega)
        have y6 := kfz hb (b := w.heap.size + 1 + 1) (o := 2) (by (try simp only [frozen?_alloc_cells, World.frozen?_setCell]); first | assumption | exact frozen_beyondz (by (try simp only [World.size_alloc, World.size_setCell]); omega)) (by (try simp only [World.size_alloc, World.size_setCell]); omega)
        have B2 : Bl w u2 := Below.trans (by go_grown) (hb.mono (by (try simp only [World.size_alloc, World.size_setCell, World.size_drew]); omega))
        have z2 := B2.size
        have l2 := lt_cellz x0
        have m2 := lt_cellz x4
        have n2 := lt_cellz x8
        clear hb
        go_wp2_with fail
        exact bodyPost_ret (v := .tuple #[.agg #[.string ⟨#[]⟩, .int .i64 0, .int .i64 0, .int .i64 0], .bool false]) (by simp [results, Tryd.results13, go_sem, x0, x1, x2, x3, l2]) rfl ⟨⟨⟨#[]⟩, 0, 0, 0⟩, by rw [HF.out, bad_second V2.out]; rfl, fun x hx => (by rw [HF.out, bad_second V2.out] at hx; cases hx), by go_grown⟩
    · have V1 := Lib.hid (show ∀ v, atoiAll w1.data.toList ≠ .ok v from fun v hv => q ⟨v, hv⟩)
      clear q
      go_enter Tryd.func13, Tryd.ntmps13
      go_wp2_with fail
      refine (Tryd.strings_Split t ⟨#[32]⟩ mm _ (by omega) (by rw [World.cell?_alloc_lt _ _ _ (lt_cellz HML.out)]; exact HML.out) (by decide)).mono ?_
      rintro e0 u0 ⟨rfl, rfl⟩
      rw [HCW.out, HC.out]
      go_wp2_with fail
      refine wp_loop_rounds 4 ?_
      rw [rounds_succ]
      go_wp2_with fail
      refine (atoi_bad_any w1 V1.out (by omega) _ (HG.out.below (by go_grown))).mono ?_
      rintro e1 u1 ⟨N, rfl, hb⟩
      have x0 := kcz hb (b := w.heap.size) (o := 0) (v := .string ⟨#[]⟩) (by go_cell)
      have x1 := kcz hb (b := w.heap.size) (o := 1) (v := .int .i64 0) (by go_cell)
      have x2 := kcz hb (b := w.heap.size) (o := 2) (v := .int .i64 0) (by go_cell)
      have x3 := kcz hb (b := w.heap.size) (o := 3) (v := .int .i64 0) (by go_cell)
      have x4 := kcz hb (b := w.heap.size + 1) (o := 0) (v := .string w0) (by go_cell)
      have x5 := kcz hb (b := w.heap.size + 1) (o := 1) (v := .string w1) (by go_cell)
      have x6 := kcz hb (b := w.heap.size + 1) (o := 2) (v := .string w2) (by go_cell)
      have x7 := kcz hb (b := w.heap.size + 1) (o := 3) (v := .string w3) (by go_cell)
      have x8 := kcz hb (b := w.heap.size + 1 + 1) (o := 0) (v := .int .i64 0) (by go_cell)
      have x9 := kcz hb (b := w.heap.size + 1 + 1) (o := 1) (v := .int .i64 0) (by go_cell)
      have x10 := kcz hb (b := w.heap.size + 1 + 1) (o := 2) (v := .int .i64 0) (by go_cell)
      have y0 := kfz hb (b := w.heap.size) (o := 0) (by (try simp only [frozen?_alloc_cells, World.frozen?_setCell]); first | assumption | exact frozen_beyondz (by (try simp only [World.size_alloc, World.size_setCell]); omega)) (by (try simp only [World.size_alloc, World.size_setCell]); omega)
      have y1 := kfz hb (b := w.heap.size) (o := 1) (by (try simp only [frozen?_alloc_cells, World.frozen?_setCell]); first | assumption | exact frozen_beyondz (by (try simp only [World.size_alloc, World.size_setCell]); omega)) (by (try simp only [World.size_alloc, World.size_setCell]); omega)
      have y2 := kfz hb (b := w.heap.size) (o := 2) (by (try simp only [frozen?_alloc_cells, World.frozen?_setCell]); first | assumption | exact frozen_beyondz (by (try simp only [World.size_alloc, World.size_setCell]); omega)) (by (try simp only [World.size_alloc, World.size_setCell]); omega)
      have y3 := kfz hb (b := w.heap.size) (o := 3) (by (try simp only [frozen?_alloc_cells, World.frozen?_setCell]); first | assumption | exact frozen_beyondz (by (try simp only [World.size_alloc, World.size_setCell]); omega)) (by (try simp only [World.size_alloc, World.size_setCell]); omega)
      have y4 := kfz hb (b := w.heap.size + 1 + 1) (o := 0) (by (try simp only [frozen?_alloc_cells, World.frozen?_setCell]); first | assumption | exact frozen_beyondz (by (try simp only [World.size_alloc, World.size_setCell]); omega)) (by (try simp only [World.size_alloc, World.size_setCell]); omega)
      have y5 := kfz hb (b := w.heap.size + 1 + 1) (o := 1) (by (try simp only [frozen?_alloc_cells, World.frozen?_setCell]); first | assumption | exact frozen_beyondz (by (try simp only [World.size_alloc, World.size_setCell]); omega)) (by (try simp only [World.size_alloc, World.size_setCell]); omega)
      have y6 := kfz hb (b := w.heap.size + 1 + 1) (o := 2) (by (try simp only [frozen?_alloc_cells, World.frozen?_setCell]); first | assumption | exact frozen_beyondz (by (try simp only [World.size_alloc, World.size_setCell]); omega)) (by (try simp only [World.size_alloc, World.size_setCell]); omega)
      have B1 : Bl w u1 := Below.trans (by go_grown) (hb.mono (by (try simp only [World.size_alloc, World.size_setCell, World.size_drew]); omega))
      have z1 := B1.size
      have l1 := lt_cellz x0
      have m1 := lt_cellz x4
      have n1 := lt_cellz x8
      clear hb
      go_wp2_with fail
      exact bodyPost_ret (v := .tuple #[.agg #[.string ⟨#[]⟩, .int .i64 0, .int .i64 0, .int .i64 0], .bool false]) (by simp [results, Tryd.results13, go_sem, x0, x1, x2, x3, l1]) rfl ⟨⟨⟨#[]⟩, 0, 0, 0⟩, by rw [HF.out, bad_first V1.out]; rfl, fun x hx => (by rw [HF.out, bad_first V1.out] at hx; cases hx), by go_grown⟩
  · have q1 : countB t ⟨#[32]⟩ + 1 ≠ 4 := by have := words_len t; omega
    have HF := Lib.hid (starF_len q)
    obtain ⟨c, hc⟩ : ∃ c, c = countB t ⟨#[32]⟩ := ⟨_, rfl⟩
    have HC := Lib.hid hc
    rw [← hc] at q1
    have q2 : (((c + 1 : Nat) : Int) != 4) = true := by simp; omega
    have q3 : ((c : Int) + 1 != 4) = true := by simp; omega
    clear q hc
    go_enter Tryd.func13, Tryd.ntmps13
    go_wp2_with fail
    refine (Tryd.strings_Split t ⟨#[32]⟩ mm _ (by omega) (by rw [World.cell?_alloc_lt _ _ _ (lt_cellz HML.out)]; exact HML.out) (by decide)).mono ?_
    rintro e0 u0 ⟨rfl, rfl⟩
    rw [← HC.out]
    go_wp2_with fail
    exact bodyPost_ret (v := .tuple #[.agg #[.string ⟨#[]⟩, .int .i64 0, .int .i64 0, .int .i64 0], .bool false]) (by simp [results, Tryd.results13, go_sem]) rfl ⟨⟨⟨#[]⟩, 0, 0, 0⟩, by rw [HF.out]; rfl, fun x hx => (by rw [HF.out] at hx; cases hx), by go_grown⟩
end Go.Proofs.YtlpbmcnojkhdcaaDoor
