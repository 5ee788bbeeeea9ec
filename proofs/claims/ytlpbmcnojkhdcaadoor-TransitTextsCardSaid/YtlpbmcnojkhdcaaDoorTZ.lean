/-
  Contracts of the lines of stars.
-/
import Derived.Test.YtlpbmcnojkhdcaaDoorTY
import Derived.Test.YtlpbmcnojkhdcaaDoorShelf
import Derived.BigQuiet
import Derived.Deep.QuietTactic
import Derived.Deep.RegionHeld3
import Derived.Lib.LaidTab
namespace Go.Proofs.YtlpbmcnojkhdcaaDoor
open Go.RowKit Go.Lib
set_option linter.unusedSimpArgs false
set_option linter.unusedVariables false

theorem Bl.dz (w : World) (n : Nat) : Bl w (w.drewN n) := ⟨rfl, rfl, rfl, Nat.le_refl _, fun _ _ => rfl⟩
theorem kcz {W w1 : World} (hb : Bl W w1) {b o : Nat} {v : Value} (h : W.cell? ⟨b, o, none⟩ = some v) : w1.cell? ⟨b, o, none⟩ = some v :=
  (hb.cell (p := ⟨b, o, none⟩) (World.block_lt_of_cell? W ⟨b, o, none⟩ h)).trans h
theorem lt_cellz {w : World} {b o : Nat} {v : Value} (h : w.cell? ⟨b, o, none⟩ = some v) : b < w.heap.size := World.block_lt_of_cell? w ⟨b, o, none⟩ h
theorem var_below {P : Program} {w w' : World} (hb : Bl w w') {name : String} {cs : Array Value} (h : w.var? P name = some cs) : w'.var? P name = some cs := by
  unfold World.var? at *
  cases hg : P.globalNamed name with
  | none => simp [hg] at h
  | some g =>
    simp only [hg, Option.bind_some] at h ⊢
    by_cases hl : g < w.heap.size
    · rw [hb.block g hl]; exact h
    · have : w.heap[g]? = none := by simp; omega
      simp [this] at h
/-- What the library's variables hold. -/
structure Gv (w : World) : Prop where
  tab : Lib.TabIs Tryd.prog w "internal/strconv.uint64pow10" .u64 Lib.pow10Tab
  ml : ∃ m, w.cell? ⟨0, 0, none⟩ = some (.int .i64 m)
  es : ∃ tp p, w.var? Tryd.prog "strconv.ErrSyntax" = some #[.iface tp p]
  er : ∃ tp p, w.var? Tryd.prog "strconv.ErrRange" = some #[.iface tp p]
theorem Gv.below {w w' : World} (g : Gv w) (hb : Bl w w') : Gv w' where
  tab := var_below hb g.tab
  ml := by obtain ⟨m, h⟩ := g.ml; exact ⟨m, kcz hb h⟩
  es := by obtain ⟨tp, p, h⟩ := g.es; exact ⟨tp, p, var_below hb h⟩
  er := by obtain ⟨tp, p, h⟩ := g.er; exact ⟨tp, p, var_below hb h⟩
theorem bl_grow (w : World) (k : Nat) (os : Array Obj) : Bl w (Go.Sort.grow (w.drewN k) os) := by
  refine ⟨rfl, rfl, rfl, ?_, fun i hi => ?_⟩
  · simp [Go.Sort.grow]
  · simp [Go.Sort.grow, Array.getElem?_append, hi]
theorem itoa_any (n : Int) (w : World) (h0 : -9223372036854775808 ≤ n) (h1 : n ≤ 9223372036854775807) (g : Gv w) :
    Calls Tryd.prog 32 #[.int .i64 n] w fun e w' => e = .returned (.string ⟨(itoa n).toArray⟩) ∧ Bl w w' :=
  (Tryd.strconv_Itoa n h0 h1 w g.tab).mono fun e w' ⟨he, k, os, hw⟩ => ⟨he, by rw [hw]; exact bl_grow _ _ _⟩

/-- A star's four cells. -/
abbrev H4 (W : World) (p : Nat) (y0 y1 y2 y3 : Value) (w : World) : Prop :=
  Bl W w ∧ w.cell? ⟨p, 0, none⟩ = some y0 ∧ w.cell? ⟨p, 1, none⟩ = some y1 ∧ w.cell? ⟨p, 2, none⟩ = some y2 ∧ w.cell? ⟨p, 3, none⟩ = some y3 ∧ p < W.heap.size
theorem H4.t {W a b : World} {p : Nat} {y0 y1 y2 y3 : Value} (h : H4 W p y0 y1 y2 y3 a) (hb : Bl a b) : H4 W p y0 y1 y2 y3 b := by
  obtain ⟨h1, d0, d1, d2, d3, l1⟩ := h
  exact ⟨h1.tr hb, kcz hb d0, kcz hb d1, kcz hb d2, kcz hb d3, l1⟩
theorem H4.bl {W a : World} {p : Nat} {y0 y1 y2 y3 : Value} (h : H4 W p y0 y1 y2 y3 a) : Bl W a := h.1

theorem add_run {a b c : ByteArray} (hc : c = a ++ b) (hs : a.size + b.size ≤ 9223372036854775807) : ∀ w : World, (Op.stringOp .add a b).run Tryd.prog w = .ok (.string c) w := fun w => by
  rw [hc]; exact run_string_add_sum w a b hs
theorem mk_size (l : Str) : (⟨l.toArray⟩ : ByteArray).size = l.length := by simp [ByteArray.size]
theorem app_size (a b : ByteArray) : (a ++ b).size = a.size + b.size := ByteArray.size_append
theorem app_data (a b : ByteArray) : (a ++ b).data.toList = a.data.toList ++ b.data.toList := by simp [ByteArray.data_append]

set_option maxHeartbeats 1600000 in
theorem line3_any (s : ByteArray) (a h l : Int) (w : World) (g : Gv w) (a1 : -9223372036854775808 ≤ a) (a2 : a ≤ 9223372036854775807) (h1 : -9223372036854775808 ≤ h) (h2 : h ≤ 9223372036854775807) (l1 : -9223372036854775808 ≤ l) (l2 : l ≤ 9223372036854775807) (hs : s.size ≤ 140737488355328) :
    Calls Tryd.prog 18 #[.agg #[.string s, .int .i64 a, .int .i64 h, .int .i64 l]] w fun e w' => e = .returned (.string ⟨(lineS ⟨s, a, h, l⟩ ++ [10]).toArray⟩) ∧ Bl w w' := by
  have HG := Lib.hid g
  clear g
  have la := itoa_length_le a a1 a2
  have lh := itoa_length_le h h1 h2
  have ll := itoa_length_le l l1 l2
  obtain ⟨c1, e1⟩ : ∃ c, c = s ++ ⟨#[32]⟩ := ⟨_, rfl⟩
  obtain ⟨c2, e2⟩ : ∃ c, c = c1 ++ ⟨(itoa a).toArray⟩ := ⟨_, rfl⟩
  obtain ⟨c3, e3⟩ : ∃ c, c = c2 ++ ⟨#[32]⟩ := ⟨_, rfl⟩
  obtain ⟨c4, e4⟩ : ∃ c, c = c3 ++ ⟨(itoa h).toArray⟩ := ⟨_, rfl⟩
  obtain ⟨c5, e5⟩ : ∃ c, c = c4 ++ ⟨#[32]⟩ := ⟨_, rfl⟩
  obtain ⟨c6, e6⟩ : ∃ c, c = c5 ++ ⟨(itoa l).toArray⟩ := ⟨_, rfl⟩
  obtain ⟨c7, e7⟩ : ∃ c, c = c6 ++ ⟨#[10]⟩ := ⟨_, rfl⟩
  have o32 : (⟨#[32]⟩ : ByteArray).size = 1 := rfl
  have o10 : (⟨#[10]⟩ : ByteArray).size = 1 := rfl
  have zA : (⟨(itoa a).toArray⟩ : ByteArray).size = (itoa a).length := mk_size _
  have zH : (⟨(itoa h).toArray⟩ : ByteArray).size = (itoa h).length := mk_size _
  have zL : (⟨(itoa l).toArray⟩ : ByteArray).size = (itoa l).length := mk_size _
  have s1 : c1.size = s.size + 1 := by rw [e1, app_size, o32]
  have s2 : c2.size = c1.size + (itoa a).length := by rw [e2, app_size, zA]
  have s3 : c3.size = c2.size + 1 := by rw [e3, app_size, o32]
  have s4 : c4.size = c3.size + (itoa h).length := by rw [e4, app_size, zH]
  have s5 : c5.size = c4.size + 1 := by rw [e5, app_size, o32]
  have s6 : c6.size = c5.size + (itoa l).length := by rw [e6, app_size, zL]
  have k1 := add_run e1 (by rw [o32]; omega)
  have k2 := add_run e2 (by rw [zA]; omega)
  have k3 := add_run e3 (by rw [o32]; omega)
  have k4 := add_run e4 (by rw [zH]; omega)
  have k5 := add_run e5 (by rw [o32]; omega)
  have k6 := add_run e6 (by rw [zL]; omega)
  have k7 := add_run e7 (by rw [o10]; omega)
  have HE := Lib.hid (show c7 = ⟨(lineS ⟨s, a, h, l⟩ ++ [10]).toArray⟩ from ba_ext (by rw [e7, app_data, e6, app_data, e5, app_data, e4, app_data, e3, app_data, e2, app_data, e1, app_data]; simp [lineS, lineL]))
  clear e1 e2 e3 e4 e5 e6 e7 s1 s2 s3 s4 s5 s6 o32 o10 la lh ll zA zH zL
  go_enter Tryd.func18, Tryd.ntmps18
  go_wp2_with fail
  obtain ⟨W, hW⟩ : ∃ W, W = w.alloc (.cells #[.string s, .int .i64 a, .int .i64 h, .int .i64 l] 25) := ⟨_, rfl⟩
  have BW : Bl w W := by rw [hW]; go_grown
  have hS : H4 W w.heap.size (.string s) (.int .i64 a) (.int .i64 h) (.int .i64 l) W := by rw [hW]; exact ⟨Bl.rf _, by go_cell, by go_cell, by go_cell, by go_cell, by simp⟩
  rw [← hW]
  clear hW
  have GW := Lib.hid (HG.out.below BW)
  go_region_held3 (fun w' => Bl W w' ∧ w'.cell? ⟨w.heap.size, 0, none⟩ = some (.string s) ∧ w'.cell? ⟨w.heap.size, 1, none⟩ = some (.int .i64 a) ∧ w'.cell? ⟨w.heap.size, 2, none⟩ = some (.int .i64 h) ∧ w'.cell? ⟨w.heap.size, 3, none⟩ = some (.int .i64 l) ∧ w.heap.size < W.heap.size) (first | exact H4.t hS (Bl.dz _ 1) | exact H4.t (by assumption) hh0) (first | (go_at_call 32; refine (itoa_any _ _ (by assumption) (by assumption) (GW.out.below (H4.bl (by assumption)))).mono ?_; rintro e v0 ⟨rfl, hh0⟩))
  go_wp2_with fail
  go_ret
  exact ⟨by rw [HE.out]; rfl, BW.tr (H4.bl (by assumption))⟩

theorem four_cells {w : World} {b : Nat} {x0 x1 x2 x3 : ByteArray} (h0 : w.cell? ⟨b, 0, none⟩ = some (.string x0)) (h1 : w.cell? ⟨b, 1, none⟩ = some (.string x1)) (h2 : w.cell? ⟨b, 2, none⟩ = some (.string x2)) (h3 : w.cell? ⟨b, 3, none⟩ = some (.string x3)) :
    ∀ (j : Nat) x, [x0, x1, x2, x3][j]? = some x → w.cell? ⟨b, 0 + j, none⟩ = some (.string x) := by
  intro j x hj
  rw [Nat.zero_add]
  match j, hj with
  | 0, hj => simp at hj; subst hj; exact h0
  | 1, hj => simp at hj; subst hj; exact h1
  | 2, hj => simp at hj; subst hj; exact h2
  | 3, hj => simp at hj; subst hj; exact h3
theorem join_line (n A H L : Str) : Lib.join [n, A, H, L] [32] = n ++ 32 :: (A ++ 32 :: (H ++ 32 :: L)) := by
  rw [join_cons]; simp [joinTail]
set_option maxHeartbeats 1600000 in
theorem lineOf_any (s : ByteArray) (a h l : Int) (w : World) (g : Gv w) (a1 : -9223372036854775808 ≤ a) (a2 : a ≤ 9223372036854775807) (h1 : -9223372036854775808 ≤ h) (h2 : h ≤ 9223372036854775807) (l1 : -9223372036854775808 ≤ l) (l2 : l ≤ 9223372036854775807) (hs : s.size ≤ 140737488350000) :
    Calls Tryd.prog 21 #[.agg #[.string s, .int .i64 a, .int .i64 h, .int .i64 l]] w fun e w' => e = .returned (.string ⟨(lineS ⟨s, a, h, l⟩).toArray⟩) ∧ Bl w w' := by
  have HG := Lib.hid g
  clear g
  have la := itoa_length_le a a1 a2
  have lh := itoa_length_le h h1 h2
  have ll := itoa_length_le l l1 l2
  have HJ := Lib.hid (show Lib.join ([s, ⟨(itoa a).toArray⟩, ⟨(itoa h).toArray⟩, ⟨(itoa l).toArray⟩].map (·.data.toList)) (⟨#[32]⟩ : ByteArray).data.toList = lineS ⟨s, a, h, l⟩ from by simp only [List.map_cons, List.map_nil]; exact join_line _ _ _ _)
  have HL := Lib.hid (show (lineS ⟨s, a, h, l⟩).length ≤ 140737488355328 by
    have e : s.data.toList.length = s.size := by simp
    unfold lineS lineL
    simp only [List.length_append, List.length_cons]
    omega)
  clear la lh ll
  go_enter Tryd.func21, Tryd.ntmps21
  go_wp2_with fail
  obtain ⟨W, hW⟩ : ∃ W, W = w.alloc (.cells #[.string s, .int .i64 a, .int .i64 h, .int .i64 l] 25) := ⟨_, rfl⟩
  have BW : Bl w W := by rw [hW]; go_grown
  have hS : H4 W w.heap.size (.string s) (.int .i64 a) (.int .i64 h) (.int .i64 l) W := by rw [hW]; exact ⟨Bl.rf _, by go_cell, by go_cell, by go_cell, by go_cell, by simp⟩
  rw [← hW]
  clear hW
  have GW := Lib.hid (HG.out.below BW)
  go_region_held3 (fun w' => Bl W w' ∧ w'.cell? ⟨w.heap.size, 0, none⟩ = some (.string s) ∧ w'.cell? ⟨w.heap.size, 1, none⟩ = some (.int .i64 a) ∧ w'.cell? ⟨w.heap.size, 2, none⟩ = some (.int .i64 h) ∧ w'.cell? ⟨w.heap.size, 3, none⟩ = some (.int .i64 l) ∧ w.heap.size < W.heap.size) (first | exact H4.t hS (Bl.dz _ 1) | exact H4.t (by assumption) hh0 | exact H4.t (by assumption) hh1 | exact H4.t (by assumption) (by go_grown)) (first | (go_at_call 32; refine (itoa_any _ _ (by assumption) (by assumption) (GW.out.below (H4.bl (by assumption)))).mono ?_; rintro e v0 ⟨rfl, hh0⟩) | (go_at_call 35; refine (Tryd.strings_Join _ 0 4 [s, ⟨(itoa a).toArray⟩, ⟨(itoa h).toArray⟩, ⟨(itoa l).toArray⟩] ⟨#[32]⟩ _ (four_cells (by go_cell) (by go_cell) (by go_cell) (by go_cell)) (by (try simp only [World.size_alloc]); omega) (by show 4 ≤ _; omega) (Nat.le_refl 4) (by rw [HJ.out]; exact HL.out)).mono ?_; rw [HJ.out]; rintro e v1 ⟨rfl, hh1⟩))
  go_wp2_with fail
  go_ret
  exact ⟨rfl, BW.tr (H4.bl (by assumption))⟩
end Go.Proofs.YtlpbmcnojkhdcaaDoor
