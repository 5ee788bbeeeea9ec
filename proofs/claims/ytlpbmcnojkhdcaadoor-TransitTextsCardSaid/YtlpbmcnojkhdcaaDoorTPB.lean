/-
  Contracts of the texts of lists of stars: read by the reference.
-/
import Derived.Test.YtlpbmcnojkhdcaaDoorTPA
namespace Go.Proofs.YtlpbmcnojkhdcaaDoor
open Go.RowKit Go.Lib
set_option linter.unusedSimpArgs false
set_option linter.unusedVariables false

theorem ib_any (s : ByteArray) (w : World) : Calls Tryd.prog 14 #[.string s, .int .u8 10] w fun e w' => e = .returned (.int .i64 (indexByte s.data.toList 10)) ∧ w = w' :=
  (Tryd.strings_IndexByte s 10 w).mono fun e w' ⟨he, hw⟩ => ⟨he, hw.symm⟩
theorem ext_succ {s : ByteArray} {i : Nat} (h : indexByte s.data.toList 10 = (i : Nat)) : (s.extract 0 (i + 1)).data.toList = (s.extract 0 i).data.toList ++ [10] := by
  have h1 := (indexByte_some h).1
  rw [extract_data, extract_data]
  simp only [List.drop_zero, Nat.sub_zero]
  rw [List.take_add_one, h1]
  rfl
theorem long_none {t : ByteArray} (h : 100 < t.size) : starF t = none := by
  cases hs : starF t with
  | none => rfl
  | some x =>
    exfalso
    obtain ⟨hv, hl⟩ := starF_line hs
    have h1 := line_len hv
    rw [hl] at h1
    have h2 : t.data.toList.length = t.size := by simp
    omega
theorem refS_len {t : ByteArray} (h : (words t).length ≠ 4) : refS t = ⟨⟨#[]⟩, 0, 0, 0⟩ := by
  unfold refS
  split
  · rename_i w0 w1 w2 w3 e; rw [e] at h; exact absurd rfl h
  · rfl

set_option maxRecDepth 100000 in
set_option maxHeartbeats 6400000 in
theorem rparse_any (s : ByteArray) (w : World) (hs : s.size ≤ maxLen) (g : Gv w) : Calls Tryd.prog 6 #[.string s] w (PaPost s w) := by
  have HG := Lib.hid g
  clear g
  unfold maxLen at hs
  obtain ⟨mm, hml⟩ := HG.out.ml
  have HML := Lib.hid hml
  clear hml
  by_cases hbig : 65536 < s.size
  · have HF := Lib.hid (show parseF s = ([], 0, 3) by rw [parseF, if_pos hbig])
    go_enter Tryd.func6, Tryd.ntmps6
    go_wp2_with fail
    go_ret3
    exact pa_none HF.out (Bl.rf _)
  · have hsm : s.size ≤ 65536 := by omega
    clear hbig
    obtain ⟨i0, hi0, hz0, hz1, hz2⟩ := info_parts star_info
    have HI := Lib.hid (And.intro hi0 (And.intro hz0 (And.intro hz1 hz2)))
    clear hi0 hz0 hz1 hz2
    have HF := Lib.hid (show parseF s = parseT (s.size + 1) [] s by rw [parseF, if_neg (by omega)])
    go_enter Tryd.func6, Tryd.ntmps6
    go_wp2_with fail
    go_loopw [0, 2, 5] (fun x v n wr => ∃ (acc : List Sta) (cur : ByteArray) (f : Nat), x = .string cur ∧ n = .int .i64 (acc.length : Nat) ∧ Hid (parseT f acc cur = parseF s) ∧ cur.size < f ∧ acc.length ≤ 100 ∧ cur.size ≤ 65536 ∧ Hid (wr.ownsRow w.heap.size 25 4 v acc.length (starCells acc)) ∧ Bl w wr) (fun x _ _ _ => match x with | .string b => b.size | _ => 0)
    case atStart => exact ⟨[], s, s.size + 1, rfl, rfl, HF.out.symm, Nat.lt_succ_self _, by simp, hsm, ⟨by simp [starCells], .inl ⟨rfl, rfl⟩⟩, Bl.rf _⟩
    case round =>
      obtain ⟨acc, cur, f, rfl, rfl, HP, hf, ha, hc, HO, hB⟩ := hrel
      have zB := hB.size
      obtain ⟨A, c, rfl⟩ := own_shape HO.out
      have HM2 := Lib.hid (kcz hB HML.out)
      by_cases h0 : cur.size = 0
      · have e1 : cur.toList = [] := by rw [ByteArray.toList_eq]; exact List.eq_nil_of_length_eq_zero (by simpa using h0)
        have HR := Lib.hid (show parseF s = (acc, 0, 0) by
          rw [← HP.out]
          cases f with
          | zero => omega
          | succ f => rw [parseT, if_pos h0])
        clear h0
        go_wp2_with fail
        go_ret3
        exact pa_some HR.out (stl_of_own HO.out) hB
      · have H0 := Lib.hid h0
        have e1 : cur.toList.isEmpty = false := by
          rw [ByteArray.toList_eq]
          cases h : cur.data.toList with
          | nil => have h2 : cur.data.toList.length = 0 := by rw [h]; rfl
                   have h3 : cur.data.toList.length = cur.size := by simp
                   omega
          | cons a l => rfl
        cases f with
        | zero => omega
        | succ f =>
          clear h0
          by_cases hi : indexByte cur.data.toList 10 < 0
          · have HX2 := Lib.hid (show parseF s = ([], acc.length, 2) by rw [← HP.out, parseT, if_neg H0.out, if_pos hi])
            go_wp2_with fail
            refine (ib_any _ _).mono ?_
            rintro e1 w1 ⟨rfl, rfl⟩
            go_wp2_with fail
            go_ret3
            exact pa_none HX2.out hB
          · obtain ⟨i, hi2⟩ : ∃ i : Nat, indexByte cur.data.toList 10 = (i : Nat) := ⟨(indexByte cur.data.toList 10).toNat, by omega⟩
            have HI2 := Lib.hid hi2
            have il := ib_lt hi
            rw [hi2, Int.toNat_natCast] at il
            have el : cur.data.toList.length = cur.size := by simp
            have il2 : i < cur.size := by omega
            obtain ⟨text, ht⟩ : ∃ x, x = cur.extract 0 i := ⟨_, rfl⟩
            have st : text.size = i := by rw [ht, ext_sz _ _ _ (by omega)]; omega
            have TXT := Lib.hid ht
            have HX := Lib.hid (show parseF s = match starF text with
              | none => ([], acc.length, 2)
              | some x => if acc.length = 100 then ([], acc.length, 2) else parseT f (acc ++ [x]) (cur.extract (i + 1) cur.size) by rw [← HP.out, parseT, if_neg H0.out, if_neg hi, hi2, Int.toNat_natCast, ht]; rfl)
            clear hi hi2 il el ht
            by_cases h100 : 100 < i
            · have HX2 := Lib.hid (show parseF s = ([], acc.length, 2) by rw [HX.out, long_none (by omega)])
              go_wp2_with fail
              refine (ib_any _ _).mono ?_
              rintro e1 w1 ⟨rfl, rfl⟩
              rw [HI2.out]
              go_wp2_with fail
              go_ret3
              exact pa_none HX2.out hB
            · have i100 : i ≤ 100 := by omega
              clear h100
              by_cases q : (words text).length = 4
              · obtain ⟨w0, w1, w2, w3, hq⟩ := len4 _ q
                have hcc : countB text ⟨#[32]⟩ = 3 := by have := words_len text; omega
                have s0 := word_size (t := text) (x := w0) (by rw [hq]; simp)
                have s1 := word_size (t := text) (x := w1) (by rw [hq]; simp)
                have s2 := word_size (t := text) (x := w2) (by rw [hq]; simp)
                have s3 := word_size (t := text) (x := w3) (by rw [hq]; simp)
                have HCW := Lib.hid (show ((splitB ⟨#[32]⟩ 0 (countB text ⟨#[32]⟩) text).map Value.string).toArray = #[.string w0, .string w1, .string w2, .string w3] by rw [show splitB ⟨#[32]⟩ 0 (countB text ⟨#[32]⟩) text = [w0, w1, w2, w3] from hq]; rfl)
                have HC := Lib.hid hcc
                have HRX := Lib.hid (show refS text = ⟨w0, av w1.data.toList, av w2.data.toList, av w3.data.toList⟩ by unfold refS; rw [hq])
                clear hq q hcc
                go_wp2_with fail
                refine (ib_any _ _).mono ?_
                rintro e1 w1' ⟨rfl, rfl⟩
                rw [HI2.out]
                go_wp2_with fail
                refine (Tryd.strings_Split (cur.extract 0 i) ⟨#[32]⟩ mm _ (by rw [← TXT.out]; omega) (by rw [World.cell?_alloc_lt _ _ _ (lt_cellz HM2.out)]; exact HM2.out) (by decide)).mono ?_
                rintro e2 u0 ⟨rfl, rfl⟩
                rw [← TXT.out, HCW.out, HC.out]
                go_wp2_with fail
                refine (atoi_any w1 (by omega) _ (HG.out.below (hB.tr (by go_grown)))).mono ?_
                rintro e3 u1 ⟨ev1, rfl, hb⟩
                have x0 := kcz hb (b := wr.heap.size) (o := 0) (v := .string w0) (by go_cell)
                have x1 := kcz hb (b := wr.heap.size) (o := 1) (v := .int .i64 0) (by go_cell)
                have x2 := kcz hb (b := wr.heap.size) (o := 2) (v := .int .i64 0) (by go_cell)
                have x3 := kcz hb (b := wr.heap.size) (o := 3) (v := .int .i64 0) (by go_cell)
                have x4 := kcz hb (b := wr.heap.size + 1) (o := 0) (v := .string w0) (by go_cell)
                have x5 := kcz hb (b := wr.heap.size + 1) (o := 1) (v := .string w1) (by go_cell)
                have x6 := kcz hb (b := wr.heap.size + 1) (o := 2) (v := .string w2) (by go_cell)
                have x7 := kcz hb (b := wr.heap.size + 1) (o := 3) (v := .string w3) (by go_cell)
                have y0 := kfz hb (b := wr.heap.size) (o := 0) (by (try simp only [frozen?_alloc_cells, World.frozen?_setCell]); first | assumption | exact frozen_beyondz (by (try simp only [World.size_alloc, World.size_setCell]); omega)) (by (try simp only [World.size_alloc, World.size_setCell]); omega)
                have y1 := kfz hb (b := wr.heap.size) (o := 1) (by (try simp only [frozen?_alloc_cells, World.frozen?_setCell]); first | assumption | exact frozen_beyondz (by (try simp only [World.size_alloc, World.size_setCell]); omega)) (by (try simp only [World.size_alloc, World.size_setCell]); omega)
                have y2 := kfz hb (b := wr.heap.size) (o := 2) (by (try simp only [frozen?_alloc_cells, World.frozen?_setCell]); first | assumption | exact frozen_beyondz (by (try simp only [World.size_alloc, World.size_setCell]); omega)) (by (try simp only [World.size_alloc, World.size_setCell]); omega)
                have y3 := kfz hb (b := wr.heap.size) (o := 3) (by (try simp only [frozen?_alloc_cells, World.frozen?_setCell]); first | assumption | exact frozen_beyondz (by (try simp only [World.size_alloc, World.size_setCell]); omega)) (by (try simp only [World.size_alloc, World.size_setCell]); omega)
                have B1 : Bl wr u1 := Below.trans (by go_grown) (hb.mono (by (try simp only [World.size_alloc, World.size_setCell, World.size_drew]); omega))
                have z1 := B1.size
                have l1 := lt_cellz x0
                have m1 := lt_cellz x4
                clear hb
                go_wp2_with fail
                refine (atoi_any w2 (by omega) _ (HG.out.below (hB.tr (by go_grown)))).mono ?_
                rintro e4 u2 ⟨ev2, rfl, hb⟩
                have x0 := kcz hb (b := wr.heap.size) (o := 0) (v := .string w0) (by go_cell)
                have x1 := kcz hb (b := wr.heap.size) (o := 1) (v := .int .i64 (av w1.data.toList)) (by go_cell)
                have x2 := kcz hb (b := wr.heap.size) (o := 2) (v := .int .i64 0) (by go_cell)
                have x3 := kcz hb (b := wr.heap.size) (o := 3) (v := .int .i64 0) (by go_cell)
                have x4 := kcz hb (b := wr.heap.size + 1) (o := 0) (v := .string w0) (by go_cell)
                have x5 := kcz hb (b := wr.heap.size + 1) (o := 1) (v := .string w1) (by go_cell)
                have x6 := kcz hb (b := wr.heap.size + 1) (o := 2) (v := .string w2) (by go_cell)
                have x7 := kcz hb (b := wr.heap.size + 1) (o := 3) (v := .string w3) (by go_cell)
                have y0 := kfz hb (b := wr.heap.size) (o := 0) (by (try simp only [frozen?_alloc_cells, World.frozen?_setCell]); first | assumption | exact frozen_beyondz (by (try simp only [World.size_alloc, World.size_setCell]); omega)) (by (try simp only [World.size_alloc, World.size_setCell]); omega)
                have y1 := kfz hb (b := wr.heap.size) (o := 1) (by (try simp only [frozen?_alloc_cells, World.frozen?_setCell]); first | assumption | exact frozen_beyondz (by (try simp only [World.size_alloc, World.size_setCell]); omega)) (by (try simp only [World.size_alloc, World.size_setCell]); omega)
                have y2 := kfz hb (b := wr.heap.size) (o := 2) (by (try simp only [frozen?_alloc_cells, World.frozen?_setCell]); first | assumption | exact frozen_beyondz (by (try simp only [World.size_alloc, World.size_setCell]); omega)) (by (try simp only [World.size_alloc, World.size_setCell]); omega)
                have y3 := kfz hb (b := wr.heap.size) (o := 3) (by (try simp only [frozen?_alloc_cells, World.frozen?_setCell]); first | assumption | exact frozen_beyondz (by (try simp only [World.size_alloc, World.size_setCell]); omega)) (by (try simp only [World.size_alloc, World.size_setCell]); omega)
                have B2 : Bl wr u2 := Below.trans (by go_grown) (hb.mono (by (try simp only [World.size_alloc, World.size_setCell, World.size_drew]); omega))
                have z2 := B2.size
                have l2 := lt_cellz x0
                have m2 := lt_cellz x4
                clear hb
                go_wp2_with fail
                refine (atoi_any w3 (by omega) _ (HG.out.below (hB.tr (by go_grown)))).mono ?_
                rintro e5 u3 ⟨ev3, rfl, hb⟩
                have x0 := kcz hb (b := wr.heap.size) (o := 0) (v := .string w0) (by go_cell)
                have x1 := kcz hb (b := wr.heap.size) (o := 1) (v := .int .i64 (av w1.data.toList)) (by go_cell)
                have x2 := kcz hb (b := wr.heap.size) (o := 2) (v := .int .i64 (av w2.data.toList)) (by go_cell)
                have x3 := kcz hb (b := wr.heap.size) (o := 3) (v := .int .i64 0) (by go_cell)
                have x4 := kcz hb (b := wr.heap.size + 1) (o := 0) (v := .string w0) (by go_cell)
                have x5 := kcz hb (b := wr.heap.size + 1) (o := 1) (v := .string w1) (by go_cell)
                have x6 := kcz hb (b := wr.heap.size + 1) (o := 2) (v := .string w2) (by go_cell)
                have x7 := kcz hb (b := wr.heap.size + 1) (o := 3) (v := .string w3) (by go_cell)
                have y0 := kfz hb (b := wr.heap.size) (o := 0) (by (try simp only [frozen?_alloc_cells, World.frozen?_setCell]); first | assumption | exact frozen_beyondz (by (try simp only [World.size_alloc, World.size_setCell]); omega)) (by (try simp only [World.size_alloc, World.size_setCell]); omega)
                have y1 := kfz hb (b := wr.heap.size) (o := 1) (by (try simp only [frozen?_alloc_cells, World.frozen?_setCell]); first | assumption | exact frozen_beyondz (by (try simp only [World.size_alloc, World.size_setCell]); omega)) (by (try simp only [World.size_alloc, World.size_setCell]); omega)
                have y2 := kfz hb (b := wr.heap.size) (o := 2) (by (try simp only [frozen?_alloc_cells, World.frozen?_setCell]); first | assumption | exact frozen_beyondz (by (try simp only [World.size_alloc, World.size_setCell]); omega)) (by (try simp only [World.size_alloc, World.size_setCell]); omega)
                have y3 := kfz hb (b := wr.heap.size) (o := 3) (by (try simp only [frozen?_alloc_cells, World.frozen?_setCell]); first | assumption | exact frozen_beyondz (by (try simp only [World.size_alloc, World.size_setCell]); omega)) (by (try simp only [World.size_alloc, World.size_setCell]); omega)
                have B3 : Bl wr u3 := Below.trans (by go_grown) (hb.mono (by (try simp only [World.size_alloc, World.size_setCell, World.size_drew]); omega))
                have z3 := B3.size
                have l3 := lt_cellz x0
                have m3 := lt_cellz x4
                clear hb
                go_wp2_with fail
                obtain ⟨X, hX⟩ : ∃ X, X = u3.setCell ⟨wr.heap.size, 3, none⟩ (.int .i64 (av w3.data.toList)) := ⟨_, rfl⟩
                have BW : Bl wr X := by rw [hX]; go_grown
                obtain ⟨x, hx⟩ : ∃ x : Sta, x = ⟨w0, av w1.data.toList, av w2.data.toList, av w3.data.toList⟩ := ⟨_, rfl⟩
                have xs : x.s.size ≤ 100 := by rw [hx]; dsimp only; omega
                have g0 : X.cell? ⟨wr.heap.size, 0, none⟩ = some (.string x.s) := by rw [hx, hX]; dsimp only; go_cell
                have g1 : X.cell? ⟨wr.heap.size, 1, none⟩ = some (.int .i64 x.a) := by rw [hx, hX]; dsimp only; go_cell
                have g2 : X.cell? ⟨wr.heap.size, 2, none⟩ = some (.int .i64 x.h) := by rw [hx, hX]; dsimp only; go_cell
                have g3 : X.cell? ⟨wr.heap.size, 3, none⟩ = some (.int .i64 x.l) := by rw [hx, hX]; dsimp only; go_cell
                have RX := Lib.hid (show refS text = x by rw [HRX.out, hx])
                rw [← hX]
                clear hX hx x0 x1 x2 x3 x4 x5 x6 x7 y0 y1 y2 y3
                have BX := hB.tr BW
                have HOX := Lib.hid (own_bl HO.out BW)
                have hS : H4 X wr.heap.size (.string x.s) (.int .i64 x.a) (.int .i64 x.h) (.int .i64 x.l) X := ⟨Bl.rf _, g0, g1, g2, g3, lt_cellz g0⟩
                have j0 := lt_cellz g0
                have zX := BX.size
                clear g0 g1 g2 g3
                have BX' := Lib.hid BX
                by_cases q : acc.length = 100
                · have n1 : ((acc.length : Int) == 100) = true := by simp [q]
                  have HX2 := Lib.hid (show parseF s = ([], acc.length, 2) by rw [HX.out]; split <;> simp [q])
                  clear q
                  refine wp_region_noPanic ?_
                  refine wp_region_held_drew (S := fun w' => Bl X w' ∧ w'.cell? ⟨wr.heap.size, 0, none⟩ = some (.string x.s) ∧ w'.cell? ⟨wr.heap.size, 1, none⟩ = some (.int .i64 x.a) ∧ w'.cell? ⟨wr.heap.size, 2, none⟩ = some (.int .i64 x.h) ∧ w'.cell? ⟨wr.heap.size, 3, none⟩ = some (.int .i64 x.l) ∧ wr.heap.size < X.heap.size) (by kernel_rfl) (H4.t hS (Bl.dz _ 1)) (fun hH => ?_)
                  refine wpAnyH_take (i := 0) (oi := ({ dst := some 60, op := Go.Op.move (Go.Operand.tmp 5), type := 3, pos := "ref.go:470", after := #[], guard := none } : Oper)) (v := ?_) rfl (by kernel_rfl) (by kernel_rfl) (by kernel_rfl) (fun _ _ _ h => h) (Or.inl ⟨by rfl, ?_⟩) hH ?_
                  rotate_left
                  · intro w hSw; (try dsimp only at hSw); go_simp; try with_reducible rfl
                  try simp only [Act.put, List.setIfInBounds_toArray, List.set_cons_zero, List.set_cons_succ]
                  refine wpAnyH_take (i := 1) (oi := ({ dst := some 61, op := Go.Op.binOp Go.BinOp.eql 3 (Go.Operand.tmp 60) (Go.Operand.const (Go.Value.int Go.IntKind.i64 100)) 3, type := 4, pos := "ref.go:470", after := #[{ on := 0, ground := Go.Ground.data }], guard := none } : Oper)) (v := ?_) rfl (by kernel_rfl) (by kernel_rfl) (by kernel_rfl) (fun _ _ _ h => h) (Or.inl ⟨by rfl, ?_⟩) hH ?_
                  rotate_left
                  · intro w hSw; (try dsimp only at hSw); go_simp; try with_reducible rfl
                  try simp only [Act.put, List.setIfInBounds_toArray, List.set_cons_zero, List.set_cons_succ]
                  refine wpAnyH_take (i := 2) (oi := ({ dst := some 62, op := Go.Op.move (Go.Operand.tmp 61), type := 4, pos := "ref.go:470", after := #[{ on := 1, ground := Go.Ground.data }], guard := none } : Oper)) (v := ?_) rfl (by kernel_rfl) (by kernel_rfl) (by kernel_rfl) (fun _ _ _ h => h) (Or.inl ⟨by rfl, ?_⟩) hH ?_
                  rotate_left
                  · intro w hSw; (try dsimp only at hSw); go_simp; try with_reducible rfl
                  try simp only [Act.put, List.setIfInBounds_toArray, List.set_cons_zero, List.set_cons_succ]
                  refine wpAnyH_take (i := 3) (oi := ({ dst := some 63, op := Go.Op.load 25 (Go.Operand.tmp 7), type := 25, pos := "ref.go:470", after := #[{ on := 2, ground := Go.Ground.guard }], guard := some (2, false) } : Oper)) (v := undef) rfl (by kernel_rfl) (by kernel_rfl) (by kernel_rfl) (fun _ _ _ h => h) (Or.inr ⟨by rfl, rfl⟩) hH ?_
                  try simp only [Act.put, List.setIfInBounds_toArray, List.set_cons_zero, List.set_cons_succ]
                  refine wpAnyH_ready (rs := [4]) (by kernel_rfl) (by simp) ?_
                  refine AllReadyH.cons (o := ({ dst := some 64, op := Go.Op.call { callee := Go.Callee.value (Go.Operand.func 17), args := #[Go.Operand.tmp 63], argTypes := #[25] }, type := 4, pos := "ref.go:470", after := #[{ on := 3, ground := Go.Ground.data }, { on := 2, ground := Go.Ground.chain }, { on := 2, ground := Go.Ground.guard }], guard := some (2, false) } : Oper)) rfl (fun K hK => ?_) AllReadyH.nil
                  refine iteInduction (motive := fun p => p) (fun h => absurd (show false = true from h) Bool.false_ne_true) (fun _ => ?_)
                  refine hK.out _ _ hH (fun hH' => ?_)
                  clear hH' hK K
                  try simp only [Act.put, List.setIfInBounds_toArray, List.set_cons_zero, List.set_cons_succ]
                  refine wpAnyH_take (i := 5) (oi := ({ dst := some 65, op := Go.Op.unOp Go.UnOp.not 4 (Go.Operand.tmp 64), type := 4, pos := "ref.go:470", after := #[{ on := 4, ground := Go.Ground.data }, { on := 2, ground := Go.Ground.guard }], guard := some (2, false) } : Oper)) (v := undef) rfl (by kernel_rfl) (by kernel_rfl) (by kernel_rfl) (fun _ _ _ h => h) (Or.inr ⟨by rfl, rfl⟩) hH ?_
                  try simp only [Act.put, List.setIfInBounds_toArray, List.set_cons_zero, List.set_cons_succ]
                  refine wpAnyH_take (i := 6) (oi := ({ dst := some 66, op := Go.Op.pick (Go.Operand.tmp 62) (Go.Operand.const (Go.Value.bool true)) (Go.Operand.tmp 65), type := 4, pos := "ref.go:470", after := #[{ on := 2, ground := Go.Ground.data }, { on := 5, ground := Go.Ground.data }], guard := none } : Oper)) (v := ?_) rfl (by kernel_rfl) (by kernel_rfl) (by kernel_rfl) (fun _ _ _ h => h) (Or.inl ⟨by rfl, ?_⟩) hH ?_
                  rotate_left
                  · intro w hSw; (try dsimp only at hSw); go_simp; try with_reducible rfl
                  try simp only [Act.put, List.setIfInBounds_toArray, List.set_cons_zero, List.set_cons_succ]
                  refine wpAnyH_take (i := 7) (oi := ({ dst := some 67, op := Go.Op.move (Go.Operand.tmp 66), type := 4, pos := "ref.go:470", after := #[{ on := 6, ground := Go.Ground.data }, { on := 4, ground := Go.Ground.chain }], guard := none } : Oper)) (v := ?_) rfl (by kernel_rfl) (by kernel_rfl) (by kernel_rfl) (fun _ _ _ h => h) (Or.inl ⟨by rfl, ?_⟩) hH ?_
                  rotate_left
                  · intro w hSw; (try dsimp only at hSw); go_simp; try with_reducible rfl
                  try simp only [Act.put, List.setIfInBounds_toArray, List.set_cons_zero, List.set_cons_succ]
                  refine wpAnyH_take (i := 8) (oi := ({ dst := some 68, op := Go.Op.load 25 (Go.Operand.tmp 7), type := 25, pos := "ref.go:470", after := #[{ on := 7, ground := Go.Ground.guard }], guard := some (7, false) } : Oper)) (v := undef) rfl (by kernel_rfl) (by kernel_rfl) (by kernel_rfl) (fun _ _ _ h => h) (Or.inr ⟨by rfl, rfl⟩) hH ?_
                  try simp only [Act.put, List.setIfInBounds_toArray, List.set_cons_zero, List.set_cons_succ]
                  refine wpAnyH_take (i := 10) (oi := ({ dst := some 70, op := Go.Op.move (Go.Operand.tmp 0), type := 9, pos := "ref.go:470", after := #[{ on := 7, ground := Go.Ground.guard }], guard := some (7, false) } : Oper)) (v := undef) rfl (by kernel_rfl) (by kernel_rfl) (by kernel_rfl) (fun _ _ _ h => h) (Or.inr ⟨by rfl, rfl⟩) hH ?_
                  try simp only [Act.put, List.setIfInBounds_toArray, List.set_cons_zero, List.set_cons_succ]
                  refine wpAnyH_take (i := 11) (oi := ({ dst := some 71, op := Go.Op.move (Go.Operand.tmp 6), type := 3, pos := "ref.go:470", after := #[{ on := 7, ground := Go.Ground.guard }], guard := some (7, false) } : Oper)) (v := undef) rfl (by kernel_rfl) (by kernel_rfl) (by kernel_rfl) (fun _ _ _ h => h) (Or.inr ⟨by rfl, rfl⟩) hH ?_
                  try simp only [Act.put, List.setIfInBounds_toArray, List.set_cons_zero, List.set_cons_succ]
                  refine wpAnyH_take (i := 12) (oi := ({ dst := some 72, op := Go.Op.binOp Go.BinOp.add 3 (Go.Operand.tmp 71) (Go.Operand.const (Go.Value.int Go.IntKind.i64 1)) 3, type := 3, pos := "ref.go:470", after := #[{ on := 11, ground := Go.Ground.data }, { on := 7, ground := Go.Ground.guard }], guard := some (7, false) } : Oper)) (v := undef) rfl (by kernel_rfl) (by kernel_rfl) (by kernel_rfl) (fun _ _ _ h => h) (Or.inr ⟨by rfl, rfl⟩) hH ?_
                  try simp only [Act.put, List.setIfInBounds_toArray, List.set_cons_zero, List.set_cons_succ]
                  refine wpAnyH_take (i := 13) (oi := ({ dst := some 73, op := Go.Op.slice 9 (Go.Operand.tmp 70) none (some (Go.Operand.tmp 72)) none, type := 9, pos := "ref.go:470", after := #[{ on := 10, ground := Go.Ground.data }, { on := 12, ground := Go.Ground.data }, { on := 7, ground := Go.Ground.guard }], guard := some (7, false) } : Oper)) (v := undef) rfl (by kernel_rfl) (by kernel_rfl) (by kernel_rfl) (fun _ _ _ h => h) (Or.inr ⟨by rfl, rfl⟩) hH ?_
                  try simp only [Act.put, List.setIfInBounds_toArray, List.set_cons_zero, List.set_cons_succ]
                  refine wpAnyH_ready (rs := [9]) (by kernel_rfl) (by simp) ?_
                  refine AllReadyH.cons (o := ({ dst := some 69, op := Go.Op.call { callee := Go.Callee.value (Go.Operand.func 18), args := #[Go.Operand.tmp 68], argTypes := #[25] }, type := 9, pos := "ref.go:470", after := #[{ on := 8, ground := Go.Ground.data }, { on := 7, ground := Go.Ground.chain }, { on := 7, ground := Go.Ground.guard }], guard := some (7, false) } : Oper)) rfl (fun K hK => ?_) AllReadyH.nil
                  refine iteInduction (motive := fun p => p) (fun h => absurd (show false = true from h) Bool.false_ne_true) (fun _ => ?_)
                  refine hK.out _ _ hH (fun hH' => ?_)
                  clear hH' hK K
                  try simp only [Act.put, List.setIfInBounds_toArray, List.set_cons_zero, List.set_cons_succ]
                  refine wpAnyH_take (i := 14) (oi := ({ dst := some 74, op := Go.Op.binOp Go.BinOp.neq 9 (Go.Operand.tmp 69) (Go.Operand.tmp 73) 9, type := 4, pos := "ref.go:470", after := #[{ on := 9, ground := Go.Ground.data }, { on := 13, ground := Go.Ground.data }, { on := 7, ground := Go.Ground.guard }], guard := some (7, false) } : Oper)) (v := undef) rfl (by kernel_rfl) (by kernel_rfl) (by kernel_rfl) (fun _ _ _ h => h) (Or.inr ⟨by rfl, rfl⟩) hH ?_
                  try simp only [Act.put, List.setIfInBounds_toArray, List.set_cons_zero, List.set_cons_succ]
                  refine wpAnyH_take (i := 15) (oi := ({ dst := some 75, op := Go.Op.pick (Go.Operand.tmp 67) (Go.Operand.const (Go.Value.bool true)) (Go.Operand.tmp 74), type := 4, pos := "ref.go:470", after := #[{ on := 7, ground := Go.Ground.data }, { on := 14, ground := Go.Ground.data }], guard := none } : Oper)) (v := ?_) rfl (by kernel_rfl) (by kernel_rfl) (by kernel_rfl) (fun _ _ _ h => h) (Or.inl ⟨by rfl, ?_⟩) hH ?_
                  rotate_left
                  · intro w hSw; (try dsimp only at hSw); go_simp; try with_reducible rfl
                  try simp only [Act.put, List.setIfInBounds_toArray, List.set_cons_zero, List.set_cons_succ]
                  refine wpAnyH_done (by kernel_rfl) ?_ _
                  refine NoPanic.normal ?_
                  go_wp2_with fail
                  go_ret3
                  exact pa_none HX2.out (BX.tr (H4.bl hH))
                · have n1 : ((acc.length : Int) == 100) = false := by simp; omega
                  have n2 : acc.length < 100 := by omega
                  have NQ := Lib.hid q
                  clear q
                  by_cases q : vSta x = true
                  · have QS := Lib.hid (show stB x.s x.a x.h x.l = true from q)
                    have QV := Lib.hid q
                    obtain ⟨a1, a2, h1, h2, l1, l2, s16⟩ := vSta_bd q
                    clear q
                    obtain ⟨L, hL⟩ : ∃ L : ByteArray, L = ⟨(lineS x ++ [10]).toArray⟩ := ⟨_, rfl⟩
                    have HLL := Lib.hid (show L.data.toList = lineS x ++ [10] by rw [hL])
                    have HLN := Lib.hid (fun (y : World) (gy : Gv y) => show Calls Tryd.prog 18 #[.agg #[.string x.s, .int .i64 x.a, .int .i64 x.h, .int .i64 x.l]] y fun e w' => e = .returned (.string L) ∧ Bl y w' from by rw [hL]; exact line3_any x.s x.a x.h x.l y gy a1 a2 h1 h2 l1 l2 (by omega))
                    clear hL
                    obtain ⟨T2, hT2⟩ : ∃ T2, T2 = cur.extract 0 (i + 1) := ⟨_, rfl⟩
                    have HT2 := Lib.hid hT2
                    have HTL := Lib.hid (show T2.data.toList = text.data.toList ++ [10] by rw [hT2, TXT.out]; exact ext_succ HI2.out)
                    clear hT2
                    have w1 : IntKind.i64.wrap ((i : Int) + 1) = (i : Int) + 1 := IntWalk.i64_in _ (by omega)
                    have w2 : (0 : Int) ≤ (i : Int) + 1 := by omega
                    have w3 : (i : Int) + 1 ≤ (cur.size : Int) := by omega
                    have w4 : ((i : Int) + 1).toNat = i + 1 := by omega
                    by_cases q : L = T2
                    · have hE : (L.toList == (cur.extract 0 (i + 1)).toList) = true := by rw [← HT2.out, q]; simp
                      have hE2 : (L.toList != (cur.extract 0 (i + 1)).toList) = false := by rw [← HT2.out, q]; simp
                      have HSF := Lib.hid (show starF text = some x by rw [ref_star, if_pos, RX.out]; rw [refOk, RX.out, QV.out, Bool.true_and, decide_eq_true_eq]; have h := HLL.out; rw [q, HTL.out] at h; exact (List.append_cancel_right h).symm)
                      clear q
                      have HX2 := Lib.hid (show parseT f (acc ++ [x]) (cur.extract (i + 1) cur.size) = parseF s by rw [HX.out, HSF.out]; dsimp only; rw [if_neg NQ.out])
                      refine wp_region_noPanic ?_
                      refine wp_region_held_drew (S := fun w' => Bl X w' ∧ w'.cell? ⟨wr.heap.size, 0, none⟩ = some (.string x.s) ∧ w'.cell? ⟨wr.heap.size, 1, none⟩ = some (.int .i64 x.a) ∧ w'.cell? ⟨wr.heap.size, 2, none⟩ = some (.int .i64 x.h) ∧ w'.cell? ⟨wr.heap.size, 3, none⟩ = some (.int .i64 x.l) ∧ wr.heap.size < X.heap.size) (by kernel_rfl) (H4.t hS (Bl.dz _ 1)) (fun hH => ?_)
                      refine wpAnyH_take (i := 0) (oi := ({ dst := some 60, op := Go.Op.move (Go.Operand.tmp 5), type := 3, pos := "ref.go:470", after := #[], guard := none } : Oper)) (v := ?_) rfl (by kernel_rfl) (by kernel_rfl) (by kernel_rfl) (fun _ _ _ h => h) (Or.inl ⟨by rfl, ?_⟩) hH ?_
                      rotate_left
                      · intro w hSw; (try dsimp only at hSw); go_simp; try with_reducible rfl
                      try simp only [Act.put, List.setIfInBounds_toArray, List.set_cons_zero, List.set_cons_succ]
                      refine wpAnyH_take (i := 1) (oi := ({ dst := some 61, op := Go.Op.binOp Go.BinOp.eql 3 (Go.Operand.tmp 60) (Go.Operand.const (Go.Value.int Go.IntKind.i64 100)) 3, type := 4, pos := "ref.go:470", after := #[{ on := 0, ground := Go.Ground.data }], guard := none } : Oper)) (v := ?_) rfl (by kernel_rfl) (by kernel_rfl) (by kernel_rfl) (fun _ _ _ h => h) (Or.inl ⟨by rfl, ?_⟩) hH ?_
                      rotate_left
                      · intro w hSw; (try dsimp only at hSw); go_simp; try with_reducible rfl
                      try simp only [Act.put, List.setIfInBounds_toArray, List.set_cons_zero, List.set_cons_succ]
                      refine wpAnyH_take (i := 2) (oi := ({ dst := some 62, op := Go.Op.move (Go.Operand.tmp 61), type := 4, pos := "ref.go:470", after := #[{ on := 1, ground := Go.Ground.data }], guard := none } : Oper)) (v := ?_) rfl (by kernel_rfl) (by kernel_rfl) (by kernel_rfl) (fun _ _ _ h => h) (Or.inl ⟨by rfl, ?_⟩) hH ?_
                      rotate_left
                      · intro w hSw; (try dsimp only at hSw); go_simp; try with_reducible rfl
                      try simp only [Act.put, List.setIfInBounds_toArray, List.set_cons_zero, List.set_cons_succ]
                      refine wpAnyH_take (i := 3) (oi := ({ dst := some 63, op := Go.Op.load 25 (Go.Operand.tmp 7), type := 25, pos := "ref.go:470", after := #[{ on := 2, ground := Go.Ground.guard }], guard := some (2, false) } : Oper)) (v := ?_) rfl (by kernel_rfl) (by kernel_rfl) (by kernel_rfl) (fun _ _ _ h => h) (Or.inl ⟨by rfl, ?_⟩) hH ?_
                      rotate_left
                      · intro w hSw; (try dsimp only at hSw); go_simp; try with_reducible rfl
                      try simp only [Act.put, List.setIfInBounds_toArray, List.set_cons_zero, List.set_cons_succ]
                      refine wpAnyH_ready (rs := [4]) (by kernel_rfl) (by simp) ?_
                      refine AllReadyH.cons (o := ({ dst := some 64, op := Go.Op.call { callee := Go.Callee.value (Go.Operand.func 17), args := #[Go.Operand.tmp 63], argTypes := #[25] }, type := 4, pos := "ref.go:470", after := #[{ on := 3, ground := Go.Ground.data }, { on := 2, ground := Go.Ground.chain }, { on := 2, ground := Go.Ground.guard }], guard := some (2, false) } : Oper)) rfl (fun K hK => ?_) AllReadyH.nil
                      go_simp
                      go_at_call 17
                      refine (rvalidStar_any x.s x.a x.h x.l _ (by unfold maxLen; omega)).mono ?_
                      rintro e9 w9 ⟨rfl, hb⟩
                      rw [QS.out]
                      refine hK.out _ _ (H4.t hH hb) (fun hH' => ?_)
                      clear hH hb
                      have hH := hH'
                      clear hH' hK K
                      try simp only [Act.put, List.setIfInBounds_toArray, List.set_cons_zero, List.set_cons_succ]
                      refine wpAnyH_take (i := 5) (oi := ({ dst := some 65, op := Go.Op.unOp Go.UnOp.not 4 (Go.Operand.tmp 64), type := 4, pos := "ref.go:470", after := #[{ on := 4, ground := Go.Ground.data }, { on := 2, ground := Go.Ground.guard }], guard := some (2, false) } : Oper)) (v := ?_) rfl (by kernel_rfl) (by kernel_rfl) (by kernel_rfl) (fun _ _ _ h => h) (Or.inl ⟨by rfl, ?_⟩) hH ?_
                      rotate_left
                      · intro w hSw; (try dsimp only at hSw); go_simp; try with_reducible rfl
                      try simp only [Act.put, List.setIfInBounds_toArray, List.set_cons_zero, List.set_cons_succ]
                      refine wpAnyH_take (i := 6) (oi := ({ dst := some 66, op := Go.Op.pick (Go.Operand.tmp 62) (Go.Operand.const (Go.Value.bool true)) (Go.Operand.tmp 65), type := 4, pos := "ref.go:470", after := #[{ on := 2, ground := Go.Ground.data }, { on := 5, ground := Go.Ground.data }], guard := none } : Oper)) (v := ?_) rfl (by kernel_rfl) (by kernel_rfl) (by kernel_rfl) (fun _ _ _ h => h) (Or.inl ⟨by rfl, ?_⟩) hH ?_
                      rotate_left
                      · intro w hSw; (try dsimp only at hSw); go_simp; try with_reducible rfl
                      try simp only [Act.put, List.setIfInBounds_toArray, List.set_cons_zero, List.set_cons_succ]
                      refine wpAnyH_take (i := 7) (oi := ({ dst := some 67, op := Go.Op.move (Go.Operand.tmp 66), type := 4, pos := "ref.go:470", after := #[{ on := 6, ground := Go.Ground.data }, { on := 4, ground := Go.Ground.chain }], guard := none } : Oper)) (v := ?_) rfl (by kernel_rfl) (by kernel_rfl) (by kernel_rfl) (fun _ _ _ h => h) (Or.inl ⟨by rfl, ?_⟩) hH ?_
                      rotate_left
                      · intro w hSw; (try dsimp only at hSw); go_simp; try with_reducible rfl
                      try simp only [Act.put, List.setIfInBounds_toArray, List.set_cons_zero, List.set_cons_succ]
                      refine wpAnyH_take (i := 8) (oi := ({ dst := some 68, op := Go.Op.load 25 (Go.Operand.tmp 7), type := 25, pos := "ref.go:470", after := #[{ on := 7, ground := Go.Ground.guard }], guard := some (7, false) } : Oper)) (v := ?_) rfl (by kernel_rfl) (by kernel_rfl) (by kernel_rfl) (fun _ _ _ h => h) (Or.inl ⟨by rfl, ?_⟩) hH ?_
                      rotate_left
                      · intro w hSw; (try dsimp only at hSw); go_simp; try with_reducible rfl
                      try simp only [Act.put, List.setIfInBounds_toArray, List.set_cons_zero, List.set_cons_succ]
                      refine wpAnyH_take (i := 10) (oi := ({ dst := some 70, op := Go.Op.move (Go.Operand.tmp 0), type := 9, pos := "ref.go:470", after := #[{ on := 7, ground := Go.Ground.guard }], guard := some (7, false) } : Oper)) (v := ?_) rfl (by kernel_rfl) (by kernel_rfl) (by kernel_rfl) (fun _ _ _ h => h) (Or.inl ⟨by rfl, ?_⟩) hH ?_
                      rotate_left
                      · intro w hSw; (try dsimp only at hSw); go_simp; try with_reducible rfl
                      try simp only [Act.put, List.setIfInBounds_toArray, List.set_cons_zero, List.set_cons_succ]
                      refine wpAnyH_take (i := 11) (oi := ({ dst := some 71, op := Go.Op.move (Go.Operand.tmp 6), type := 3, pos := "ref.go:470", after := #[{ on := 7, ground := Go.Ground.guard }], guard := some (7, false) } : Oper)) (v := ?_) rfl (by kernel_rfl) (by kernel_rfl) (by kernel_rfl) (fun _ _ _ h => h) (Or.inl ⟨by rfl, ?_⟩) hH ?_
                      rotate_left
                      · intro w hSw; (try dsimp only at hSw); go_simp; try with_reducible rfl
                      try simp only [Act.put, List.setIfInBounds_toArray, List.set_cons_zero, List.set_cons_succ]
                      refine wpAnyH_take (i := 12) (oi := ({ dst := some 72, op := Go.Op.binOp Go.BinOp.add 3 (Go.Operand.tmp 71) (Go.Operand.const (Go.Value.int Go.IntKind.i64 1)) 3, type := 3, pos := "ref.go:470", after := #[{ on := 11, ground := Go.Ground.data }, { on := 7, ground := Go.Ground.guard }], guard := some (7, false) } : Oper)) (v := ?_) rfl (by kernel_rfl) (by kernel_rfl) (by kernel_rfl) (fun _ _ _ h => h) (Or.inl ⟨by rfl, ?_⟩) hH ?_
                      rotate_left
                      · intro w hSw; (try dsimp only at hSw); go_simp; try with_reducible rfl
                      try simp only [Act.put, List.setIfInBounds_toArray, List.set_cons_zero, List.set_cons_succ]
                      refine wpAnyH_take (i := 13) (oi := ({ dst := some 73, op := Go.Op.slice 9 (Go.Operand.tmp 70) none (some (Go.Operand.tmp 72)) none, type := 9, pos := "ref.go:470", after := #[{ on := 10, ground := Go.Ground.data }, { on := 12, ground := Go.Ground.data }, { on := 7, ground := Go.Ground.guard }], guard := some (7, false) } : Oper)) (v := ?_) rfl (by kernel_rfl) (by kernel_rfl) (by kernel_rfl) (fun _ _ _ h => h) (Or.inl ⟨by rfl, ?_⟩) hH ?_
                      rotate_left
                      · intro w hSw; (try dsimp only at hSw); go_simp; try with_reducible rfl
                      try simp only [Act.put, List.setIfInBounds_toArray, List.set_cons_zero, List.set_cons_succ]
                      refine wpAnyH_ready (rs := [9]) (by kernel_rfl) (by simp) ?_
                      refine AllReadyH.cons (o := ({ dst := some 69, op := Go.Op.call { callee := Go.Callee.value (Go.Operand.func 18), args := #[Go.Operand.tmp 68], argTypes := #[25] }, type := 9, pos := "ref.go:470", after := #[{ on := 8, ground := Go.Ground.data }, { on := 7, ground := Go.Ground.chain }, { on := 7, ground := Go.Ground.guard }], guard := some (7, false) } : Oper)) rfl (fun K hK => ?_) AllReadyH.nil
                      go_simp
                      go_at_call 18
                      refine (HLN.out _ (HG.out.below (BX.tr hH.1))).mono ?_
                      rintro e9 w9 ⟨rfl, hb⟩
                      refine hK.out _ _ (H4.t hH hb) (fun hH' => ?_)
                      clear hH hb
                      have hH := hH'
                      clear hH' hK K
                      try simp only [Act.put, List.setIfInBounds_toArray, List.set_cons_zero, List.set_cons_succ]
                      refine wpAnyH_take (i := 14) (oi := ({ dst := some 74, op := Go.Op.binOp Go.BinOp.neq 9 (Go.Operand.tmp 69) (Go.Operand.tmp 73) 9, type := 4, pos := "ref.go:470", after := #[{ on := 9, ground := Go.Ground.data }, { on := 13, ground := Go.Ground.data }, { on := 7, ground := Go.Ground.guard }], guard := some (7, false) } : Oper)) (v := ?_) rfl (by kernel_rfl) (by kernel_rfl) (by kernel_rfl) (fun _ _ _ h => h) (Or.inl ⟨by rfl, ?_⟩) hH ?_
                      rotate_left
                      · intro w hSw; (try dsimp only at hSw); go_simp; try with_reducible rfl
                      try simp only [Act.put, List.setIfInBounds_toArray, List.set_cons_zero, List.set_cons_succ]
                      refine wpAnyH_take (i := 15) (oi := ({ dst := some 75, op := Go.Op.pick (Go.Operand.tmp 67) (Go.Operand.const (Go.Value.bool true)) (Go.Operand.tmp 74), type := 4, pos := "ref.go:470", after := #[{ on := 7, ground := Go.Ground.data }, { on := 14, ground := Go.Ground.data }], guard := none } : Oper)) (v := ?_) rfl (by kernel_rfl) (by kernel_rfl) (by kernel_rfl) (fun _ _ _ h => h) (Or.inl ⟨by rfl, ?_⟩) hH ?_
                      rotate_left
                      · intro w hSw; (try dsimp only at hSw); go_simp; try with_reducible rfl
                      try simp only [Act.put, List.setIfInBounds_toArray, List.set_cons_zero, List.set_cons_succ]
                      refine wpAnyH_done (by kernel_rfl) ?_ _
                      refine NoPanic.normal ?_
                      obtain ⟨hX1, d0, d1, d2, d3, dl⟩ := hH
                      clear w1 w2 w3 w4 hE hE2
                      have hnew := Lib.hid (heap_alloc_new w9 (.cells #[.string x.s, .int .i64 x.a, .int .i64 x.h, .int .i64 x.l] 25))
                      have HO2 := Lib.hid (own_bl HOX.out hX1)
                      have z9 := hX1.size
                      have B2 := BX.tr hX1
                      go_wp2_with (at_builtin; refine wpList_append_lies _ rfl _ _ _ rfl w.heap.size 25 i0 _ 4 40 Tryd.underlying22 HI.out.1 HI.out.2.1 HI.out.2.2.1 HI.out.2.2.2 rfl (by omega) _ acc.length (starCells acc) rfl (HO2.out.alloc _) ⟨w9.heap.size, 0, none⟩ 1 1 (cellsS x) rfl rfl (World.news_of_block hnew.out) (by simp [cellsS, Value.oneCell']) (by omega) (by unfold maxLen; omega) (by omega) (by simp; omega) _ rfl ?_; intro gg cap w10 hown1 hgrow hat hlt9)
                      have HO9 := Lib.hid (show w10.ownsRow w.heap.size 25 4 (.slice (some ⟨gg, 0, none⟩) (acc.length + 1) cap) (acc ++ [x]).length (starCells (acc ++ [x])) by
                        rw [sc_snoc, List.length_append, List.length_singleton]; exact hown1)
                      have hl := HO.out.lt
                      have B9 : Bl w w10 := Below.grown (w := w9.alloc (.cells #[.string x.s, .int .i64 x.a, .int .i64 x.h, .int .i64 x.l] 25)) (by go_grown) hgrow (by simp; omega) (fun j hj => (hl j hj).1)
                      go_roundw
                      case rel => exact ⟨acc ++ [x], cur.extract (i + 1) cur.size, f, rfl, by simp, HX2.out, by rw [ext_sz _ _ _ (by omega)]; omega, by simp; omega, by rw [ext_sz _ _ _ (by omega)]; omega, HO9.out, B9⟩
                      case measure => show (cur.extract (i + 1) cur.size).size < cur.size; rw [ext_sz _ _ _ (by omega)]; omega
                    · have hE : (L.toList == (cur.extract 0 (i + 1)).toList) = false := by rw [← HT2.out, beq_eq_false_iff_ne, toList_data, toList_data]; exact fun h => q (ba_ext h)
                      have hE2 : (L.toList != (cur.extract 0 (i + 1)).toList) = true := by rw [bne, hE]; rfl
                      have HX2 := Lib.hid (show parseF s = ([], acc.length, 2) by rw [HX.out, ref_star, if_neg]; rw [refOk, RX.out, QV.out, Bool.true_and, decide_eq_true_eq]; exact fun h => q (ba_ext (by rw [HLL.out, HTL.out, h])))
                      clear q
                      refine wp_region_noPanic ?_
                      refine wp_region_held_drew (S := fun w' => Bl X w' ∧ w'.cell? ⟨wr.heap.size, 0, none⟩ = some (.string x.s) ∧ w'.cell? ⟨wr.heap.size, 1, none⟩ = some (.int .i64 x.a) ∧ w'.cell? ⟨wr.heap.size, 2, none⟩ = some (.int .i64 x.h) ∧ w'.cell? ⟨wr.heap.size, 3, none⟩ = some (.int .i64 x.l) ∧ wr.heap.size < X.heap.size) (by kernel_rfl) (H4.t hS (Bl.dz _ 1)) (fun hH => ?_)
                      refine wpAnyH_take (i := 0) (oi := ({ dst := some 60, op := Go.Op.move (Go.Operand.tmp 5), type := 3, pos := "ref.go:470", after := #[], guard := none } : Oper)) (v := ?_) rfl (by kernel_rfl) (by kernel_rfl) (by kernel_rfl) (fun _ _ _ h => h) (Or.inl ⟨by rfl, ?_⟩) hH ?_
                      rotate_left
                      · intro w hSw; (try dsimp only at hSw); go_simp; try with_reducible rfl
                      try simp only [Act.put, List.setIfInBounds_toArray, List.set_cons_zero, List.set_cons_succ]
                      refine wpAnyH_take (i := 1) (oi := ({ dst := some 61, op := Go.Op.binOp Go.BinOp.eql 3 (Go.Operand.tmp 60) (Go.Operand.const (Go.Value.int Go.IntKind.i64 100)) 3, type := 4, pos := "ref.go:470", after := #[{ on := 0, ground := Go.Ground.data }], guard := none } : Oper)) (v := ?_) rfl (by kernel_rfl) (by kernel_rfl) (by kernel_rfl) (fun _ _ _ h => h) (Or.inl ⟨by rfl, ?_⟩) hH ?_
                      rotate_left
                      · intro w hSw; (try dsimp only at hSw); go_simp; try with_reducible rfl
                      try simp only [Act.put, List.setIfInBounds_toArray, List.set_cons_zero, List.set_cons_succ]
                      refine wpAnyH_take (i := 2) (oi := ({ dst := some 62, op := Go.Op.move (Go.Operand.tmp 61), type := 4, pos := "ref.go:470", after := #[{ on := 1, ground := Go.Ground.data }], guard := none } : Oper)) (v := ?_) rfl (by kernel_rfl) (by kernel_rfl) (by kernel_rfl) (fun _ _ _ h => h) (Or.inl ⟨by rfl, ?_⟩) hH ?_
                      rotate_left
                      · intro w hSw; (try dsimp only at hSw); go_simp; try with_reducible rfl
                      try simp only [Act.put, List.setIfInBounds_toArray, List.set_cons_zero, List.set_cons_succ]
                      refine wpAnyH_take (i := 3) (oi := ({ dst := some 63, op := Go.Op.load 25 (Go.Operand.tmp 7), type := 25, pos := "ref.go:470", after := #[{ on := 2, ground := Go.Ground.guard }], guard := some (2, false) } : Oper)) (v := ?_) rfl (by kernel_rfl) (by kernel_rfl) (by kernel_rfl) (fun _ _ _ h => h) (Or.inl ⟨by rfl, ?_⟩) hH ?_
                      rotate_left
                      · intro w hSw; (try dsimp only at hSw); go_simp; try with_reducible rfl
                      try simp only [Act.put, List.setIfInBounds_toArray, List.set_cons_zero, List.set_cons_succ]
                      refine wpAnyH_ready (rs := [4]) (by kernel_rfl) (by simp) ?_
                      refine AllReadyH.cons (o := ({ dst := some 64, op := Go.Op.call { callee := Go.Callee.value (Go.Operand.func 17), args := #[Go.Operand.tmp 63], argTypes := #[25] }, type := 4, pos := "ref.go:470", after := #[{ on := 3, ground := Go.Ground.data }, { on := 2, ground := Go.Ground.chain }, { on := 2, ground := Go.Ground.guard }], guard := some (2, false) } : Oper)) rfl (fun K hK => ?_) AllReadyH.nil
                      go_simp
                      go_at_call 17
                      refine (rvalidStar_any x.s x.a x.h x.l _ (by unfold maxLen; omega)).mono ?_
                      rintro e9 w9 ⟨rfl, hb⟩
                      rw [QS.out]
                      refine hK.out _ _ (H4.t hH hb) (fun hH' => ?_)
                      clear hH hb
                      have hH := hH'
                      clear hH' hK K
                      try simp only [Act.put, List.setIfInBounds_toArray, List.set_cons_zero, List.set_cons_succ]
                      refine wpAnyH_take (i := 5) (oi := ({ dst := some 65, op := Go.Op.unOp Go.UnOp.not 4 (Go.Operand.tmp 64), type := 4, pos := "ref.go:470", after := #[{ on := 4, ground := Go.Ground.data }, { on := 2, ground := Go.Ground.guard }], guard := some (2, false) } : Oper)) (v := ?_) rfl (by kernel_rfl) (by kernel_rfl) (by kernel_rfl) (fun _ _ _ h => h) (Or.inl ⟨by rfl, ?_⟩) hH ?_
                      rotate_left
                      · intro w hSw; (try dsimp only at hSw); go_simp; try with_reducible rfl
                      try simp only [Act.put, List.setIfInBounds_toArray, List.set_cons_zero, List.set_cons_succ]
                      refine wpAnyH_take (i := 6) (oi := ({ dst := some 66, op := Go.Op.pick (Go.Operand.tmp 62) (Go.Operand.const (Go.Value.bool true)) (Go.Operand.tmp 65), type := 4, pos := "ref.go:470", after := #[{ on := 2, ground := Go.Ground.data }, { on := 5, ground := Go.Ground.data }], guard := none } : Oper)) (v := ?_) rfl (by kernel_rfl) (by kernel_rfl) (by kernel_rfl) (fun _ _ _ h => h) (Or.inl ⟨by rfl, ?_⟩) hH ?_
                      rotate_left
                      · intro w hSw; (try dsimp only at hSw); go_simp; try with_reducible rfl
                      try simp only [Act.put, List.setIfInBounds_toArray, List.set_cons_zero, List.set_cons_succ]
                      refine wpAnyH_take (i := 7) (oi := ({ dst := some 67, op := Go.Op.move (Go.Operand.tmp 66), type := 4, pos := "ref.go:470", after := #[{ on := 6, ground := Go.Ground.data }, { on := 4, ground := Go.Ground.chain }], guard := none } : Oper)) (v := ?_) rfl (by kernel_rfl) (by kernel_rfl) (by kernel_rfl) (fun _ _ _ h => h) (Or.inl ⟨by rfl, ?_⟩) hH ?_
                      rotate_left
                      · intro w hSw; (try dsimp only at hSw); go_simp; try with_reducible rfl
                      try simp only [Act.put, List.setIfInBounds_toArray, List.set_cons_zero, List.set_cons_succ]
                      refine wpAnyH_take (i := 8) (oi := ({ dst := some 68, op := Go.Op.load 25 (Go.Operand.tmp 7), type := 25, pos := "ref.go:470", after := #[{ on := 7, ground := Go.Ground.guard }], guard := some (7, false) } : Oper)) (v := ?_) rfl (by kernel_rfl) (by kernel_rfl) (by kernel_rfl) (fun _ _ _ h => h) (Or.inl ⟨by rfl, ?_⟩) hH ?_
                      rotate_left
                      · intro w hSw; (try dsimp only at hSw); go_simp; try with_reducible rfl
                      try simp only [Act.put, List.setIfInBounds_toArray, List.set_cons_zero, List.set_cons_succ]
                      refine wpAnyH_take (i := 10) (oi := ({ dst := some 70, op := Go.Op.move (Go.Operand.tmp 0), type := 9, pos := "ref.go:470", after := #[{ on := 7, ground := Go.Ground.guard }], guard := some (7, false) } : Oper)) (v := ?_) rfl (by kernel_rfl) (by kernel_rfl) (by kernel_rfl) (fun _ _ _ h => h) (Or.inl ⟨by rfl, ?_⟩) hH ?_
                      rotate_left
                      · intro w hSw; (try dsimp only at hSw); go_simp; try with_reducible rfl
                      try simp only [Act.put, List.setIfInBounds_toArray, List.set_cons_zero, List.set_cons_succ]
                      refine wpAnyH_take (i := 11) (oi := ({ dst := some 71, op := Go.Op.move (Go.Operand.tmp 6), type := 3, pos := "ref.go:470", after := #[{ on := 7, ground := Go.Ground.guard }], guard := some (7, false) } : Oper)) (v := ?_) rfl (by kernel_rfl) (by kernel_rfl) (by kernel_rfl) (fun _ _ _ h => h) (Or.inl ⟨by rfl, ?_⟩) hH ?_
                      rotate_left
                      · intro w hSw; (try dsimp only at hSw); go_simp; try with_reducible rfl
                      try simp only [Act.put, List.setIfInBounds_toArray, List.set_cons_zero, List.set_cons_succ]
                      refine wpAnyH_take (i := 12) (oi := ({ dst := some 72, op := Go.Op.binOp Go.BinOp.add 3 (Go.Operand.tmp 71) (Go.Operand.const (Go.Value.int Go.IntKind.i64 1)) 3, type := 3, pos := "ref.go:470", after := #[{ on := 11, ground := Go.Ground.data }, { on := 7, ground := Go.Ground.guard }], guard := some (7, false) } : Oper)) (v := ?_) rfl (by kernel_rfl) (by kernel_rfl) (by kernel_rfl) (fun _ _ _ h => h) (Or.inl ⟨by rfl, ?_⟩) hH ?_
                      rotate_left
                      · intro w hSw; (try dsimp only at hSw); go_simp; try with_reducible rfl
                      try simp only [Act.put, List.setIfInBounds_toArray, List.set_cons_zero, List.set_cons_succ]
                      refine wpAnyH_take (i := 13) (oi := ({ dst := some 73, op := Go.Op.slice 9 (Go.Operand.tmp 70) none (some (Go.Operand.tmp 72)) none, type := 9, pos := "ref.go:470", after := #[{ on := 10, ground := Go.Ground.data }, { on := 12, ground := Go.Ground.data }, { on := 7, ground := Go.Ground.guard }], guard := some (7, false) } : Oper)) (v := ?_) rfl (by kernel_rfl) (by kernel_rfl) (by kernel_rfl) (fun _ _ _ h => h) (Or.inl ⟨by rfl, ?_⟩) hH ?_
                      rotate_left
                      · intro w hSw; (try dsimp only at hSw); go_simp; try with_reducible rfl
                      try simp only [Act.put, List.setIfInBounds_toArray, List.set_cons_zero, List.set_cons_succ]
                      refine wpAnyH_ready (rs := [9]) (by kernel_rfl) (by simp) ?_
                      refine AllReadyH.cons (o := ({ dst := some 69, op := Go.Op.call { callee := Go.Callee.value (Go.Operand.func 18), args := #[Go.Operand.tmp 68], argTypes := #[25] }, type := 9, pos := "ref.go:470", after := #[{ on := 8, ground := Go.Ground.data }, { on := 7, ground := Go.Ground.chain }, { on := 7, ground := Go.Ground.guard }], guard := some (7, false) } : Oper)) rfl (fun K hK => ?_) AllReadyH.nil
                      go_simp
                      go_at_call 18
                      refine (HLN.out _ (HG.out.below (BX.tr hH.1))).mono ?_
                      rintro e9 w9 ⟨rfl, hb⟩
                      refine hK.out _ _ (H4.t hH hb) (fun hH' => ?_)
                      clear hH hb
                      have hH := hH'
                      clear hH' hK K
                      try simp only [Act.put, List.setIfInBounds_toArray, List.set_cons_zero, List.set_cons_succ]
                      refine wpAnyH_take (i := 14) (oi := ({ dst := some 74, op := Go.Op.binOp Go.BinOp.neq 9 (Go.Operand.tmp 69) (Go.Operand.tmp 73) 9, type := 4, pos := "ref.go:470", after := #[{ on := 9, ground := Go.Ground.data }, { on := 13, ground := Go.Ground.data }, { on := 7, ground := Go.Ground.guard }], guard := some (7, false) } : Oper)) (v := ?_) rfl (by kernel_rfl) (by kernel_rfl) (by kernel_rfl) (fun _ _ _ h => h) (Or.inl ⟨by rfl, ?_⟩) hH ?_
                      rotate_left
                      · intro w hSw; (try dsimp only at hSw); go_simp; try with_reducible rfl
                      try simp only [Act.put, List.setIfInBounds_toArray, List.set_cons_zero, List.set_cons_succ]
                      refine wpAnyH_take (i := 15) (oi := ({ dst := some 75, op := Go.Op.pick (Go.Operand.tmp 67) (Go.Operand.const (Go.Value.bool true)) (Go.Operand.tmp 74), type := 4, pos := "ref.go:470", after := #[{ on := 7, ground := Go.Ground.data }, { on := 14, ground := Go.Ground.data }], guard := none } : Oper)) (v := ?_) rfl (by kernel_rfl) (by kernel_rfl) (by kernel_rfl) (fun _ _ _ h => h) (Or.inl ⟨by rfl, ?_⟩) hH ?_
                      rotate_left
                      · intro w hSw; (try dsimp only at hSw); go_simp; try with_reducible rfl
                      try simp only [Act.put, List.setIfInBounds_toArray, List.set_cons_zero, List.set_cons_succ]
                      refine wpAnyH_done (by kernel_rfl) ?_ _
                      refine NoPanic.normal ?_
                      go_wp2_with fail
                      go_ret3
                      exact pa_none HX2.out (BX.tr (H4.bl hH))
                  · have QS := Lib.hid (show stB x.s x.a x.h x.l = false from (show vSta x = false by simpa using q))
                    have HX2 := Lib.hid (show parseF s = ([], acc.length, 2) by rw [HX.out, ref_star, if_neg]; rw [refOk, RX.out]; simp [show vSta x = false from QS.out])
                    clear q
                    refine wp_region_noPanic ?_
                    refine wp_region_held_drew (S := fun w' => Bl X w' ∧ w'.cell? ⟨wr.heap.size, 0, none⟩ = some (.string x.s) ∧ w'.cell? ⟨wr.heap.size, 1, none⟩ = some (.int .i64 x.a) ∧ w'.cell? ⟨wr.heap.size, 2, none⟩ = some (.int .i64 x.h) ∧ w'.cell? ⟨wr.heap.size, 3, none⟩ = some (.int .i64 x.l) ∧ wr.heap.size < X.heap.size) (by kernel_rfl) (H4.t hS (Bl.dz _ 1)) (fun hH => ?_)
                    refine wpAnyH_take (i := 0) (oi := ({ dst := some 60, op := Go.Op.move (Go.Operand.tmp 5), type := 3, pos := "ref.go:470", after := #[], guard := none } : Oper)) (v := ?_) rfl (by kernel_rfl) (by kernel_rfl) (by kernel_rfl) (fun _ _ _ h => h) (Or.inl ⟨by rfl, ?_⟩) hH ?_
                    rotate_left
                    · intro w hSw; (try dsimp only at hSw); go_simp; try with_reducible rfl
                    try simp only [Act.put, List.setIfInBounds_toArray, List.set_cons_zero, List.set_cons_succ]
                    refine wpAnyH_take (i := 1) (oi := ({ dst := some 61, op := Go.Op.binOp Go.BinOp.eql 3 (Go.Operand.tmp 60) (Go.Operand.const (Go.Value.int Go.IntKind.i64 100)) 3, type := 4, pos := "ref.go:470", after := #[{ on := 0, ground := Go.Ground.data }], guard := none } : Oper)) (v := ?_) rfl (by kernel_rfl) (by kernel_rfl) (by kernel_rfl) (fun _ _ _ h => h) (Or.inl ⟨by rfl, ?_⟩) hH ?_
                    rotate_left
                    · intro w hSw; (try dsimp only at hSw); go_simp; try with_reducible rfl
                    try simp only [Act.put, List.setIfInBounds_toArray, List.set_cons_zero, List.set_cons_succ]
                    refine wpAnyH_take (i := 2) (oi := ({ dst := some 62, op := Go.Op.move (Go.Operand.tmp 61), type := 4, pos := "ref.go:470", after := #[{ on := 1, ground := Go.Ground.data }], guard := none } : Oper)) (v := ?_) rfl (by kernel_rfl) (by kernel_rfl) (by kernel_rfl) (fun _ _ _ h => h) (Or.inl ⟨by rfl, ?_⟩) hH ?_
                    rotate_left
                    · intro w hSw; (try dsimp only at hSw); go_simp; try with_reducible rfl
                    try simp only [Act.put, List.setIfInBounds_toArray, List.set_cons_zero, List.set_cons_succ]
                    refine wpAnyH_take (i := 3) (oi := ({ dst := some 63, op := Go.Op.load 25 (Go.Operand.tmp 7), type := 25, pos := "ref.go:470", after := #[{ on := 2, ground := Go.Ground.guard }], guard := some (2, false) } : Oper)) (v := ?_) rfl (by kernel_rfl) (by kernel_rfl) (by kernel_rfl) (fun _ _ _ h => h) (Or.inl ⟨by rfl, ?_⟩) hH ?_
                    rotate_left
                    · intro w hSw; (try dsimp only at hSw); go_simp; try with_reducible rfl
                    try simp only [Act.put, List.setIfInBounds_toArray, List.set_cons_zero, List.set_cons_succ]
                    refine wpAnyH_ready (rs := [4]) (by kernel_rfl) (by simp) ?_
                    refine AllReadyH.cons (o := ({ dst := some 64, op := Go.Op.call { callee := Go.Callee.value (Go.Operand.func 17), args := #[Go.Operand.tmp 63], argTypes := #[25] }, type := 4, pos := "ref.go:470", after := #[{ on := 3, ground := Go.Ground.data }, { on := 2, ground := Go.Ground.chain }, { on := 2, ground := Go.Ground.guard }], guard := some (2, false) } : Oper)) rfl (fun K hK => ?_) AllReadyH.nil
                    go_simp
                    go_at_call 17
                    refine (rvalidStar_any x.s x.a x.h x.l _ (by unfold maxLen; omega)).mono ?_
                    rintro e9 w9 ⟨rfl, hb⟩
                    rw [QS.out]
                    refine hK.out _ _ (H4.t hH hb) (fun hH' => ?_)
                    clear hH hb
                    have hH := hH'
                    clear hH' hK K
                    try simp only [Act.put, List.setIfInBounds_toArray, List.set_cons_zero, List.set_cons_succ]
                    refine wpAnyH_take (i := 5) (oi := ({ dst := some 65, op := Go.Op.unOp Go.UnOp.not 4 (Go.Operand.tmp 64), type := 4, pos := "ref.go:470", after := #[{ on := 4, ground := Go.Ground.data }, { on := 2, ground := Go.Ground.guard }], guard := some (2, false) } : Oper)) (v := ?_) rfl (by kernel_rfl) (by kernel_rfl) (by kernel_rfl) (fun _ _ _ h => h) (Or.inl ⟨by rfl, ?_⟩) hH ?_
                    rotate_left
                    · intro w hSw; (try dsimp only at hSw); go_simp; try with_reducible rfl
                    try simp only [Act.put, List.setIfInBounds_toArray, List.set_cons_zero, List.set_cons_succ]
                    refine wpAnyH_take (i := 6) (oi := ({ dst := some 66, op := Go.Op.pick (Go.Operand.tmp 62) (Go.Operand.const (Go.Value.bool true)) (Go.Operand.tmp 65), type := 4, pos := "ref.go:470", after := #[{ on := 2, ground := Go.Ground.data }, { on := 5, ground := Go.Ground.data }], guard := none } : Oper)) (v := ?_) rfl (by kernel_rfl) (by kernel_rfl) (by kernel_rfl) (fun _ _ _ h => h) (Or.inl ⟨by rfl, ?_⟩) hH ?_
                    rotate_left
                    · intro w hSw; (try dsimp only at hSw); go_simp; try with_reducible rfl
                    try simp only [Act.put, List.setIfInBounds_toArray, List.set_cons_zero, List.set_cons_succ]
                    refine wpAnyH_take (i := 7) (oi := ({ dst := some 67, op := Go.Op.move (Go.Operand.tmp 66), type := 4, pos := "ref.go:470", after := #[{ on := 6, ground := Go.Ground.data }, { on := 4, ground := Go.Ground.chain }], guard := none } : Oper)) (v := ?_) rfl (by kernel_rfl) (by kernel_rfl) (by kernel_rfl) (fun _ _ _ h => h) (Or.inl ⟨by rfl, ?_⟩) hH ?_
                    rotate_left
                    · intro w hSw; (try dsimp only at hSw); go_simp; try with_reducible rfl
                    try simp only [Act.put, List.setIfInBounds_toArray, List.set_cons_zero, List.set_cons_succ]
                    refine wpAnyH_take (i := 8) (oi := ({ dst := some 68, op := Go.Op.load 25 (Go.Operand.tmp 7), type := 25, pos := "ref.go:470", after := #[{ on := 7, ground := Go.Ground.guard }], guard := some (7, false) } : Oper)) (v := undef) rfl (by kernel_rfl) (by kernel_rfl) (by kernel_rfl) (fun _ _ _ h => h) (Or.inr ⟨by rfl, rfl⟩) hH ?_
                    try simp only [Act.put, List.setIfInBounds_toArray, List.set_cons_zero, List.set_cons_succ]
                    refine wpAnyH_take (i := 10) (oi := ({ dst := some 70, op := Go.Op.move (Go.Operand.tmp 0), type := 9, pos := "ref.go:470", after := #[{ on := 7, ground := Go.Ground.guard }], guard := some (7, false) } : Oper)) (v := undef) rfl (by kernel_rfl) (by kernel_rfl) (by kernel_rfl) (fun _ _ _ h => h) (Or.inr ⟨by rfl, rfl⟩) hH ?_
                    try simp only [Act.put, List.setIfInBounds_toArray, List.set_cons_zero, List.set_cons_succ]
                    refine wpAnyH_take (i := 11) (oi := ({ dst := some 71, op := Go.Op.move (Go.Operand.tmp 6), type := 3, pos := "ref.go:470", after := #[{ on := 7, ground := Go.Ground.guard }], guard := some (7, false) } : Oper)) (v := undef) rfl (by kernel_rfl) (by kernel_rfl) (by kernel_rfl) (fun _ _ _ h => h) (Or.inr ⟨by rfl, rfl⟩) hH ?_
                    try simp only [Act.put, List.setIfInBounds_toArray, List.set_cons_zero, List.set_cons_succ]
                    refine wpAnyH_take (i := 12) (oi := ({ dst := some 72, op := Go.Op.binOp Go.BinOp.add 3 (Go.Operand.tmp 71) (Go.Operand.const (Go.Value.int Go.IntKind.i64 1)) 3, type := 3, pos := "ref.go:470", after := #[{ on := 11, ground := Go.Ground.data }, { on := 7, ground := Go.Ground.guard }], guard := some (7, false) } : Oper)) (v := undef) rfl (by kernel_rfl) (by kernel_rfl) (by kernel_rfl) (fun _ _ _ h => h) (Or.inr ⟨by rfl, rfl⟩) hH ?_
                    try simp only [Act.put, List.setIfInBounds_toArray, List.set_cons_zero, List.set_cons_succ]
                    refine wpAnyH_take (i := 13) (oi := ({ dst := some 73, op := Go.Op.slice 9 (Go.Operand.tmp 70) none (some (Go.Operand.tmp 72)) none, type := 9, pos := "ref.go:470", after := #[{ on := 10, ground := Go.Ground.data }, { on := 12, ground := Go.Ground.data }, { on := 7, ground := Go.Ground.guard }], guard := some (7, false) } : Oper)) (v := undef) rfl (by kernel_rfl) (by kernel_rfl) (by kernel_rfl) (fun _ _ _ h => h) (Or.inr ⟨by rfl, rfl⟩) hH ?_
                    try simp only [Act.put, List.setIfInBounds_toArray, List.set_cons_zero, List.set_cons_succ]
                    refine wpAnyH_ready (rs := [9]) (by kernel_rfl) (by simp) ?_
                    refine AllReadyH.cons (o := ({ dst := some 69, op := Go.Op.call { callee := Go.Callee.value (Go.Operand.func 18), args := #[Go.Operand.tmp 68], argTypes := #[25] }, type := 9, pos := "ref.go:470", after := #[{ on := 8, ground := Go.Ground.data }, { on := 7, ground := Go.Ground.chain }, { on := 7, ground := Go.Ground.guard }], guard := some (7, false) } : Oper)) rfl (fun K hK => ?_) AllReadyH.nil
                    refine iteInduction (motive := fun p => p) (fun h => absurd (show false = true from h) Bool.false_ne_true) (fun _ => ?_)
                    refine hK.out _ _ hH (fun hH' => ?_)
                    clear hH' hK K
                    try simp only [Act.put, List.setIfInBounds_toArray, List.set_cons_zero, List.set_cons_succ]
                    refine wpAnyH_take (i := 14) (oi := ({ dst := some 74, op := Go.Op.binOp Go.BinOp.neq 9 (Go.Operand.tmp 69) (Go.Operand.tmp 73) 9, type := 4, pos := "ref.go:470", after := #[{ on := 9, ground := Go.Ground.data }, { on := 13, ground := Go.Ground.data }, { on := 7, ground := Go.Ground.guard }], guard := some (7, false) } : Oper)) (v := undef) rfl (by kernel_rfl) (by kernel_rfl) (by kernel_rfl) (fun _ _ _ h => h) (Or.inr ⟨by rfl, rfl⟩) hH ?_
                    try simp only [Act.put, List.setIfInBounds_toArray, List.set_cons_zero, List.set_cons_succ]
                    refine wpAnyH_take (i := 15) (oi := ({ dst := some 75, op := Go.Op.pick (Go.Operand.tmp 67) (Go.Operand.const (Go.Value.bool true)) (Go.Operand.tmp 74), type := 4, pos := "ref.go:470", after := #[{ on := 7, ground := Go.Ground.data }, { on := 14, ground := Go.Ground.data }], guard := none } : Oper)) (v := ?_) rfl (by kernel_rfl) (by kernel_rfl) (by kernel_rfl) (fun _ _ _ h => h) (Or.inl ⟨by rfl, ?_⟩) hH ?_
                    rotate_left
                    · intro w hSw; (try dsimp only at hSw); go_simp; try with_reducible rfl
                    try simp only [Act.put, List.setIfInBounds_toArray, List.set_cons_zero, List.set_cons_succ]
                    refine wpAnyH_done (by kernel_rfl) ?_ _
                    refine NoPanic.normal ?_
                    go_wp2_with fail
                    go_ret3
                    exact pa_none HX2.out (BX.tr (H4.bl hH))
              · have HRX := Lib.hid (refS_len q)
                have q1 : countB text ⟨#[32]⟩ + 1 ≠ 4 := by have := words_len text; omega
                obtain ⟨cc, hcc⟩ : ∃ c, c = countB text ⟨#[32]⟩ := ⟨_, rfl⟩
                have HC := Lib.hid hcc
                rw [← hcc] at q1
                have q2 : (((cc + 1 : Nat) : Int) == 4) = false := by simp; omega
                have q3 : ((cc : Int) + 1 == 4) = false := by simp; omega
                clear q hcc
                go_wp2_with fail
                refine (ib_any _ _).mono ?_
                rintro e1 w1' ⟨rfl, rfl⟩
                rw [HI2.out]
                go_wp2_with fail
                refine (Tryd.strings_Split (cur.extract 0 i) ⟨#[32]⟩ mm _ (by rw [← TXT.out]; omega) (by rw [World.cell?_alloc_lt _ _ _ (lt_cellz HM2.out)]; exact HM2.out) (by decide)).mono ?_
                rintro e2 u0 ⟨rfl, rfl⟩
                rw [← TXT.out, ← HC.out]
                go_wp2_with fail
                obtain ⟨X, hX⟩ : ∃ X, X = (wr.alloc (.cells #[.string ⟨#[]⟩, .int .i64 0, .int .i64 0, .int .i64 0] 25)).alloc (.cells ((splitB ⟨#[32]⟩ 0 cc text).map Value.string).toArray 9) := ⟨_, rfl⟩
                have BW : Bl wr X := by rw [hX]; go_grown
                obtain ⟨x, hx⟩ : ∃ x : Sta, x = ⟨⟨#[]⟩, 0, 0, 0⟩ := ⟨_, rfl⟩
                have xs : x.s.size ≤ 100 := by rw [hx]; decide
                have g0 : X.cell? ⟨wr.heap.size, 0, none⟩ = some (.string x.s) := by rw [hx, hX]; dsimp only; go_cell
                have g1 : X.cell? ⟨wr.heap.size, 1, none⟩ = some (.int .i64 x.a) := by rw [hx, hX]; dsimp only; go_cell
                have g2 : X.cell? ⟨wr.heap.size, 2, none⟩ = some (.int .i64 x.h) := by rw [hx, hX]; dsimp only; go_cell
                have g3 : X.cell? ⟨wr.heap.size, 3, none⟩ = some (.int .i64 x.l) := by rw [hx, hX]; dsimp only; go_cell
                have RX := Lib.hid (show refS text = x by rw [HRX.out, hx])
                rw [← hX]
                clear hX hx
                have BX := hB.tr BW
                have HOX := Lib.hid (own_bl HO.out BW)
                have hS : H4 X wr.heap.size (.string x.s) (.int .i64 x.a) (.int .i64 x.h) (.int .i64 x.l) X := ⟨Bl.rf _, g0, g1, g2, g3, lt_cellz g0⟩
                have j0 := lt_cellz g0
                have zX := BX.size
                clear g0 g1 g2 g3
                have BX' := Lib.hid BX
                by_cases q : acc.length = 100
                · have n1 : ((acc.length : Int) == 100) = true := by simp [q]
                  have HX2 := Lib.hid (show parseF s = ([], acc.length, 2) by rw [HX.out]; split <;> simp [q])
                  clear q
                  refine wp_region_noPanic ?_
                  refine wp_region_held_drew (S := fun w' => Bl X w' ∧ w'.cell? ⟨wr.heap.size, 0, none⟩ = some (.string x.s) ∧ w'.cell? ⟨wr.heap.size, 1, none⟩ = some (.int .i64 x.a) ∧ w'.cell? ⟨wr.heap.size, 2, none⟩ = some (.int .i64 x.h) ∧ w'.cell? ⟨wr.heap.size, 3, none⟩ = some (.int .i64 x.l) ∧ wr.heap.size < X.heap.size) (by kernel_rfl) (H4.t hS (Bl.dz _ 1)) (fun hH => ?_)
                  refine wpAnyH_take (i := 0) (oi := ({ dst := some 60, op := Go.Op.move (Go.Operand.tmp 5), type := 3, pos := "ref.go:470", after := #[], guard := none } : Oper)) (v := ?_) rfl (by kernel_rfl) (by kernel_rfl) (by kernel_rfl) (fun _ _ _ h => h) (Or.inl ⟨by rfl, ?_⟩) hH ?_
                  rotate_left
                  · intro w hSw; (try dsimp only at hSw); go_simp; try with_reducible rfl
                  try simp only [Act.put, List.setIfInBounds_toArray, List.set_cons_zero, List.set_cons_succ]
                  refine wpAnyH_take (i := 1) (oi := ({ dst := some 61, op := Go.Op.binOp Go.BinOp.eql 3 (Go.Operand.tmp 60) (Go.Operand.const (Go.Value.int Go.IntKind.i64 100)) 3, type := 4, pos := "ref.go:470", after := #[{ on := 0, ground := Go.Ground.data }], guard := none } : Oper)) (v := ?_) rfl (by kernel_rfl) (by kernel_rfl) (by kernel_rfl) (fun _ _ _ h => h) (Or.inl ⟨by rfl, ?_⟩) hH ?_
                  rotate_left
                  · intro w hSw; (try dsimp only at hSw); go_simp; try with_reducible rfl
                  try simp only [Act.put, List.setIfInBounds_toArray, List.set_cons_zero, List.set_cons_succ]
                  refine wpAnyH_take (i := 2) (oi := ({ dst := some 62, op := Go.Op.move (Go.Operand.tmp 61), type := 4, pos := "ref.go:470", after := #[{ on := 1, ground := Go.Ground.data }], guard := none } : Oper)) (v := ?_) rfl (by kernel_rfl) (by kernel_rfl) (by kernel_rfl) (fun _ _ _ h => h) (Or.inl ⟨by rfl, ?_⟩) hH ?_
                  rotate_left
                  · intro w hSw; (try dsimp only at hSw); go_simp; try with_reducible rfl
                  try simp only [Act.put, List.setIfInBounds_toArray, List.set_cons_zero, List.set_cons_succ]
                  refine wpAnyH_take (i := 3) (oi := ({ dst := some 63, op := Go.Op.load 25 (Go.Operand.tmp 7), type := 25, pos := "ref.go:470", after := #[{ on := 2, ground := Go.Ground.guard }], guard := some (2, false) } : Oper)) (v := undef) rfl (by kernel_rfl) (by kernel_rfl) (by kernel_rfl) (fun _ _ _ h => h) (Or.inr ⟨by rfl, rfl⟩) hH ?_
                  try simp only [Act.put, List.setIfInBounds_toArray, List.set_cons_zero, List.set_cons_succ]
                  refine wpAnyH_ready (rs := [4]) (by kernel_rfl) (by simp) ?_
                  refine AllReadyH.cons (o := ({ dst := some 64, op := Go.Op.call { callee := Go.Callee.value (Go.Operand.func 17), args := #[Go.Operand.tmp 63], argTypes := #[25] }, type := 4, pos := "ref.go:470", after := #[{ on := 3, ground := Go.Ground.data }, { on := 2, ground := Go.Ground.chain }, { on := 2, ground := Go.Ground.guard }], guard := some (2, false) } : Oper)) rfl (fun K hK => ?_) AllReadyH.nil
                  refine iteInduction (motive := fun p => p) (fun h => absurd (show false = true from h) Bool.false_ne_true) (fun _ => ?_)
                  refine hK.out _ _ hH (fun hH' => ?_)
                  clear hH' hK K
                  try simp only [Act.put, List.setIfInBounds_toArray, List.set_cons_zero, List.set_cons_succ]
                  refine wpAnyH_take (i := 5) (oi := ({ dst := some 65, op := Go.Op.unOp Go.UnOp.not 4 (Go.Operand.tmp 64), type := 4, pos := "ref.go:470", after := #[{ on := 4, ground := Go.Ground.data }, { on := 2, ground := Go.Ground.guard }], guard := some (2, false) } : Oper)) (v := undef) rfl (by kernel_rfl) (by kernel_rfl) (by kernel_rfl) (fun _ _ _ h => h) (Or.inr ⟨by rfl, rfl⟩) hH ?_
                  try simp only [Act.put, List.setIfInBounds_toArray, List.set_cons_zero, List.set_cons_succ]
                  refine wpAnyH_take (i := 6) (oi := ({ dst := some 66, op := Go.Op.pick (Go.Operand.tmp 62) (Go.Operand.const (Go.Value.bool true)) (Go.Operand.tmp 65), type := 4, pos := "ref.go:470", after := #[{ on := 2, ground := Go.Ground.data }, { on := 5, ground := Go.Ground.data }], guard := none } : Oper)) (v := ?_) rfl (by kernel_rfl) (by kernel_rfl) (by kernel_rfl) (fun _ _ _ h => h) (Or.inl ⟨by rfl, ?_⟩) hH ?_
                  rotate_left
                  · intro w hSw; (try dsimp only at hSw); go_simp; try with_reducible rfl
                  try simp only [Act.put, List.setIfInBounds_toArray, List.set_cons_zero, List.set_cons_succ]
                  refine wpAnyH_take (i := 7) (oi := ({ dst := some 67, op := Go.Op.move (Go.Operand.tmp 66), type := 4, pos := "ref.go:470", after := #[{ on := 6, ground := Go.Ground.data }, { on := 4, ground := Go.Ground.chain }], guard := none } : Oper)) (v := ?_) rfl (by kernel_rfl) (by kernel_rfl) (by kernel_rfl) (fun _ _ _ h => h) (Or.inl ⟨by rfl, ?_⟩) hH ?_
                  rotate_left
                  · intro w hSw; (try dsimp only at hSw); go_simp; try with_reducible rfl
                  try simp only [Act.put, List.setIfInBounds_toArray, List.set_cons_zero, List.set_cons_succ]
                  refine wpAnyH_take (i := 8) (oi := ({ dst := some 68, op := Go.Op.load 25 (Go.Operand.tmp 7), type := 25, pos := "ref.go:470", after := #[{ on := 7, ground := Go.Ground.guard }], guard := some (7, false) } : Oper)) (v := undef) rfl (by kernel_rfl) (by kernel_rfl) (by kernel_rfl) (fun _ _ _ h => h) (Or.inr ⟨by rfl, rfl⟩) hH ?_
                  try simp only [Act.put, List.setIfInBounds_toArray, List.set_cons_zero, List.set_cons_succ]
                  refine wpAnyH_take (i := 10) (oi := ({ dst := some 70, op := Go.Op.move (Go.Operand.tmp 0), type := 9, pos := "ref.go:470", after := #[{ on := 7, ground := Go.Ground.guard }], guard := some (7, false) } : Oper)) (v := undef) rfl (by kernel_rfl) (by kernel_rfl) (by kernel_rfl) (fun _ _ _ h => h) (Or.inr ⟨by rfl, rfl⟩) hH ?_
                  try simp only [Act.put, List.setIfInBounds_toArray, List.set_cons_zero, List.set_cons_succ]
                  refine wpAnyH_take (i := 11) (oi := ({ dst := some 71, op := Go.Op.move (Go.Operand.tmp 6), type := 3, pos := "ref.go:470", after := #[{ on := 7, ground := Go.Ground.guard }], guard := some (7, false) } : Oper)) (v := undef) rfl (by kernel_rfl) (by kernel_rfl) (by kernel_rfl) (fun _ _ _ h => h) (Or.inr ⟨by rfl, rfl⟩) hH ?_
                  try simp only [Act.put, List.setIfInBounds_toArray, List.set_cons_zero, List.set_cons_succ]
                  refine wpAnyH_take (i := 12) (oi := ({ dst := some 72, op := Go.Op.binOp Go.BinOp.add 3 (Go.Operand.tmp 71) (Go.Operand.const (Go.Value.int Go.IntKind.i64 1)) 3, type := 3, pos := "ref.go:470", after := #[{ on := 11, ground := Go.Ground.data }, { on := 7, ground := Go.Ground.guard }], guard := some (7, false) } : Oper)) (v := undef) rfl (by kernel_rfl) (by kernel_rfl) (by kernel_rfl) (fun _ _ _ h => h) (Or.inr ⟨by rfl, rfl⟩) hH ?_
                  try simp only [Act.put, List.setIfInBounds_toArray, List.set_cons_zero, List.set_cons_succ]
                  refine wpAnyH_take (i := 13) (oi := ({ dst := some 73, op := Go.Op.slice 9 (Go.Operand.tmp 70) none (some (Go.Operand.tmp 72)) none, type := 9, pos := "ref.go:470", after := #[{ on := 10, ground := Go.Ground.data }, { on := 12, ground := Go.Ground.data }, { on := 7, ground := Go.Ground.guard }], guard := some (7, false) } : Oper)) (v := undef) rfl (by kernel_rfl) (by kernel_rfl) (by kernel_rfl) (fun _ _ _ h => h) (Or.inr ⟨by rfl, rfl⟩) hH ?_
                  try simp only [Act.put, List.setIfInBounds_toArray, List.set_cons_zero, List.set_cons_succ]
                  refine wpAnyH_ready (rs := [9]) (by kernel_rfl) (by simp) ?_
                  refine AllReadyH.cons (o := ({ dst := some 69, op := Go.Op.call { callee := Go.Callee.value (Go.Operand.func 18), args := #[Go.Operand.tmp 68], argTypes := #[25] }, type := 9, pos := "ref.go:470", after := #[{ on := 8, ground := Go.Ground.data }, { on := 7, ground := Go.Ground.chain }, { on := 7, ground := Go.Ground.guard }], guard := some (7, false) } : Oper)) rfl (fun K hK => ?_) AllReadyH.nil
                  refine iteInduction (motive := fun p => p) (fun h => absurd (show false = true from h) Bool.false_ne_true) (fun _ => ?_)
                  refine hK.out _ _ hH (fun hH' => ?_)
                  clear hH' hK K
                  try simp only [Act.put, List.setIfInBounds_toArray, List.set_cons_zero, List.set_cons_succ]
                  refine wpAnyH_take (i := 14) (oi := ({ dst := some 74, op := Go.Op.binOp Go.BinOp.neq 9 (Go.Operand.tmp 69) (Go.Operand.tmp 73) 9, type := 4, pos := "ref.go:470", after := #[{ on := 9, ground := Go.Ground.data }, { on := 13, ground := Go.Ground.data }, { on := 7, ground := Go.Ground.guard }], guard := some (7, false) } : Oper)) (v := undef) rfl (by kernel_rfl) (by kernel_rfl) (by kernel_rfl) (fun _ _ _ h => h) (Or.inr ⟨by rfl, rfl⟩) hH ?_
                  try simp only [Act.put, List.setIfInBounds_toArray, List.set_cons_zero, List.set_cons_succ]
                  refine wpAnyH_take (i := 15) (oi := ({ dst := some 75, op := Go.Op.pick (Go.Operand.tmp 67) (Go.Operand.const (Go.Value.bool true)) (Go.Operand.tmp 74), type := 4, pos := "ref.go:470", after := #[{ on := 7, ground := Go.Ground.data }, { on := 14, ground := Go.Ground.data }], guard := none } : Oper)) (v := ?_) rfl (by kernel_rfl) (by kernel_rfl) (by kernel_rfl) (fun _ _ _ h => h) (Or.inl ⟨by rfl, ?_⟩) hH ?_
                  rotate_left
                  · intro w hSw; (try dsimp only at hSw); go_simp; try with_reducible rfl
                  try simp only [Act.put, List.setIfInBounds_toArray, List.set_cons_zero, List.set_cons_succ]
                  refine wpAnyH_done (by kernel_rfl) ?_ _
                  refine NoPanic.normal ?_
                  go_wp2_with fail
                  go_ret3
                  exact pa_none HX2.out (BX.tr (H4.bl hH))
                · have n1 : ((acc.length : Int) == 100) = false := by simp; omega
                  have n2 : acc.length < 100 := by omega
                  have NQ := Lib.hid q
                  clear q
                  by_cases q : vSta x = true
                  · have QS := Lib.hid (show stB x.s x.a x.h x.l = true from q)
                    have QV := Lib.hid q
                    obtain ⟨a1, a2, h1, h2, l1, l2, s16⟩ := vSta_bd q
                    clear q
                    obtain ⟨L, hL⟩ : ∃ L : ByteArray, L = ⟨(lineS x ++ [10]).toArray⟩ := ⟨_, rfl⟩
                    have HLL := Lib.hid (show L.data.toList = lineS x ++ [10] by rw [hL])
                    have HLN := Lib.hid (fun (y : World) (gy : Gv y) => show Calls Tryd.prog 18 #[.agg #[.string x.s, .int .i64 x.a, .int .i64 x.h, .int .i64 x.l]] y fun e w' => e = .returned (.string L) ∧ Bl y w' from by rw [hL]; exact line3_any x.s x.a x.h x.l y gy a1 a2 h1 h2 l1 l2 (by omega))
                    clear hL
                    obtain ⟨T2, hT2⟩ : ∃ T2, T2 = cur.extract 0 (i + 1) := ⟨_, rfl⟩
                    have HT2 := Lib.hid hT2
                    have HTL := Lib.hid (show T2.data.toList = text.data.toList ++ [10] by rw [hT2, TXT.out]; exact ext_succ HI2.out)
                    clear hT2
                    have w1 : IntKind.i64.wrap ((i : Int) + 1) = (i : Int) + 1 := IntWalk.i64_in _ (by omega)
                    have w2 : (0 : Int) ≤ (i : Int) + 1 := by omega
                    have w3 : (i : Int) + 1 ≤ (cur.size : Int) := by omega
                    have w4 : ((i : Int) + 1).toNat = i + 1 := by omega
                    by_cases q : L = T2
                    · have hE : (L.toList == (cur.extract 0 (i + 1)).toList) = true := by rw [← HT2.out, q]; simp
                      have hE2 : (L.toList != (cur.extract 0 (i + 1)).toList) = false := by rw [← HT2.out, q]; simp
                      have HSF := Lib.hid (show starF text = some x by rw [ref_star, if_pos, RX.out]; rw [refOk, RX.out, QV.out, Bool.true_and, decide_eq_true_eq]; have h := HLL.out; rw [q, HTL.out] at h; exact (List.append_cancel_right h).symm)
                      clear q
                      have HX2 := Lib.hid (show parseT f (acc ++ [x]) (cur.extract (i + 1) cur.size) = parseF s by rw [HX.out, HSF.out]; dsimp only; rw [if_neg NQ.out])
                      refine wp_region_noPanic ?_
                      refine wp_region_held_drew (S := fun w' => Bl X w' ∧ w'.cell? ⟨wr.heap.size, 0, none⟩ = some (.string x.s) ∧ w'.cell? ⟨wr.heap.size, 1, none⟩ = some (.int .i64 x.a) ∧ w'.cell? ⟨wr.heap.size, 2, none⟩ = some (.int .i64 x.h) ∧ w'.cell? ⟨wr.heap.size, 3, none⟩ = some (.int .i64 x.l) ∧ wr.heap.size < X.heap.size) (by kernel_rfl) (H4.t hS (Bl.dz _ 1)) (fun hH => ?_)
                      refine wpAnyH_take (i := 0) (oi := ({ dst := some 60, op := Go.Op.move (Go.Operand.tmp 5), type := 3, pos := "ref.go:470", after := #[], guard := none } : Oper)) (v := ?_) rfl (by kernel_rfl) (by kernel_rfl) (by kernel_rfl) (fun _ _ _ h => h) (Or.inl ⟨by rfl, ?_⟩) hH ?_
                      rotate_left
                      · intro w hSw; (try dsimp only at hSw); go_simp; try with_reducible rfl
                      try simp only [Act.put, List.setIfInBounds_toArray, List.set_cons_zero, List.set_cons_succ]
                      refine wpAnyH_take (i := 1) (oi := ({ dst := some 61, op := Go.Op.binOp Go.BinOp.eql 3 (Go.Operand.tmp 60) (Go.Operand.const (Go.Value.int Go.IntKind.i64 100)) 3, type := 4, pos := "ref.go:470", after := #[{ on := 0, ground := Go.Ground.data }], guard := none } : Oper)) (v := ?_) rfl (by kernel_rfl) (by kernel_rfl) (by kernel_rfl) (fun _ _ _ h => h) (Or.inl ⟨by rfl, ?_⟩) hH ?_
                      rotate_left
                      · intro w hSw; (try dsimp only at hSw); go_simp; try with_reducible rfl
                      try simp only [Act.put, List.setIfInBounds_toArray, List.set_cons_zero, List.set_cons_succ]
                      refine wpAnyH_take (i := 2) (oi := ({ dst := some 62, op := Go.Op.move (Go.Operand.tmp 61), type := 4, pos := "ref.go:470", after := #[{ on := 1, ground := Go.Ground.data }], guard := none } : Oper)) (v := ?_) rfl (by kernel_rfl) (by kernel_rfl) (by kernel_rfl) (fun _ _ _ h => h) (Or.inl ⟨by rfl, ?_⟩) hH ?_
                      rotate_left
                      · intro w hSw; (try dsimp only at hSw); go_simp; try with_reducible rfl
                      try simp only [Act.put, List.setIfInBounds_toArray, List.set_cons_zero, List.set_cons_succ]
                      refine wpAnyH_take (i := 3) (oi := ({ dst := some 63, op := Go.Op.load 25 (Go.Operand.tmp 7), type := 25, pos := "ref.go:470", after := #[{ on := 2, ground := Go.Ground.guard }], guard := some (2, false) } : Oper)) (v := ?_) rfl (by kernel_rfl) (by kernel_rfl) (by kernel_rfl) (fun _ _ _ h => h) (Or.inl ⟨by rfl, ?_⟩) hH ?_
                      rotate_left
                      · intro w hSw; (try dsimp only at hSw); go_simp; try with_reducible rfl
                      try simp only [Act.put, List.setIfInBounds_toArray, List.set_cons_zero, List.set_cons_succ]
                      refine wpAnyH_ready (rs := [4]) (by kernel_rfl) (by simp) ?_
                      refine AllReadyH.cons (o := ({ dst := some 64, op := Go.Op.call { callee := Go.Callee.value (Go.Operand.func 17), args := #[Go.Operand.tmp 63], argTypes := #[25] }, type := 4, pos := "ref.go:470", after := #[{ on := 3, ground := Go.Ground.data }, { on := 2, ground := Go.Ground.chain }, { on := 2, ground := Go.Ground.guard }], guard := some (2, false) } : Oper)) rfl (fun K hK => ?_) AllReadyH.nil
                      go_simp
                      go_at_call 17
                      refine (rvalidStar_any x.s x.a x.h x.l _ (by unfold maxLen; omega)).mono ?_
                      rintro e9 w9 ⟨rfl, hb⟩
                      rw [QS.out]
                      refine hK.out _ _ (H4.t hH hb) (fun hH' => ?_)
                      clear hH hb
                      have hH := hH'
                      clear hH' hK K
                      try simp only [Act.put, List.setIfInBounds_toArray, List.set_cons_zero, List.set_cons_succ]
                      refine wpAnyH_take (i := 5) (oi := ({ dst := some 65, op := Go.Op.unOp Go.UnOp.not 4 (Go.Operand.tmp 64), type := 4, pos := "ref.go:470", after := #[{ on := 4, ground := Go.Ground.data }, { on := 2, ground := Go.Ground.guard }], guard := some (2, false) } : Oper)) (v := ?_) rfl (by kernel_rfl) (by kernel_rfl) (by kernel_rfl) (fun _ _ _ h => h) (Or.inl ⟨by rfl, ?_⟩) hH ?_
                      rotate_left
                      · intro w hSw; (try dsimp only at hSw); go_simp; try with_reducible rfl
                      try simp only [Act.put, List.setIfInBounds_toArray, List.set_cons_zero, List.set_cons_succ]
                      refine wpAnyH_take (i := 6) (oi := ({ dst := some 66, op := Go.Op.pick (Go.Operand.tmp 62) (Go.Operand.const (Go.Value.bool true)) (Go.Operand.tmp 65), type := 4, pos := "ref.go:470", after := #[{ on := 2, ground := Go.Ground.data }, { on := 5, ground := Go.Ground.data }], guard := none } : Oper)) (v := ?_) rfl (by kernel_rfl) (by kernel_rfl) (by kernel_rfl) (fun _ _ _ h => h) (Or.inl ⟨by rfl, ?_⟩) hH ?_
                      rotate_left
                      · intro w hSw; (try dsimp only at hSw); go_simp; try with_reducible rfl
                      try simp only [Act.put, List.setIfInBounds_toArray, List.set_cons_zero, List.set_cons_succ]
                      refine wpAnyH_take (i := 7) (oi := ({ dst := some 67, op := Go.Op.move (Go.Operand.tmp 66), type := 4, pos := "ref.go:470", after := #[{ on := 6, ground := Go.Ground.data }, { on := 4, ground := Go.Ground.chain }], guard := none } : Oper)) (v := ?_) rfl (by kernel_rfl) (by kernel_rfl) (by kernel_rfl) (fun _ _ _ h => h) (Or.inl ⟨by rfl, ?_⟩) hH ?_
                      rotate_left
                      · intro w hSw; (try dsimp only at hSw); go_simp; try with_reducible rfl
                      try simp only [Act.put, List.setIfInBounds_toArray, List.set_cons_zero, List.set_cons_succ]
                      refine wpAnyH_take (i := 8) (oi := ({ dst := some 68, op := Go.Op.load 25 (Go.Operand.tmp 7), type := 25, pos := "ref.go:470", after := #[{ on := 7, ground := Go.Ground.guard }], guard := some (7, false) } : Oper)) (v := ?_) rfl (by kernel_rfl) (by kernel_rfl) (by kernel_rfl) (fun _ _ _ h => h) (Or.inl ⟨by rfl, ?_⟩) hH ?_
                      rotate_left
                      · intro w hSw; (try dsimp only at hSw); go_simp; try with_reducible rfl
                      try simp only [Act.put, List.setIfInBounds_toArray, List.set_cons_zero, List.set_cons_succ]
                      refine wpAnyH_take (i := 10) (oi := ({ dst := some 70, op := Go.Op.move (Go.Operand.tmp 0), type := 9, pos := "ref.go:470", after := #[{ on := 7, ground := Go.Ground.guard }], guard := some (7, false) } : Oper)) (v := ?_) rfl (by kernel_rfl) (by kernel_rfl) (by kernel_rfl) (fun _ _ _ h => h) (Or.inl ⟨by rfl, ?_⟩) hH ?_
                      rotate_left
                      · intro w hSw; (try dsimp only at hSw); go_simp; try with_reducible rfl
                      try simp only [Act.put, List.setIfInBounds_toArray, List.set_cons_zero, List.set_cons_succ]
                      refine wpAnyH_take (i := 11) (oi := ({ dst := some 71, op := Go.Op.move (Go.Operand.tmp 6), type := 3, pos := "ref.go:470", after := #[{ on := 7, ground := Go.Ground.guard }], guard := some (7, false) } : Oper)) (v := ?_) rfl (by kernel_rfl) (by kernel_rfl) (by kernel_rfl) (fun _ _ _ h => h) (Or.inl ⟨by rfl, ?_⟩) hH ?_
                      rotate_left
                      · intro w hSw; (try dsimp only at hSw); go_simp; try with_reducible rfl
                      try simp only [Act.put, List.setIfInBounds_toArray, List.set_cons_zero, List.set_cons_succ]
                      refine wpAnyH_take (i := 12) (oi := ({ dst := some 72, op := Go.Op.binOp Go.BinOp.add 3 (Go.Operand.tmp 71) (Go.Operand.const (Go.Value.int Go.IntKind.i64 1)) 3, type := 3, pos := "ref.go:470", after := #[{ on := 11, ground := Go.Ground.data }, { on := 7, ground := Go.Ground.guard }], guard := some (7, false) } : Oper)) (v := ?_) rfl (by kernel_rfl) (by kernel_rfl) (by kernel_rfl) (fun _ _ _ h => h) (Or.inl ⟨by rfl, ?_⟩) hH ?_
                      rotate_left
                      · intro w hSw; (try dsimp only at hSw); go_simp; try with_reducible rfl
                      try simp only [Act.put, List.setIfInBounds_toArray, List.set_cons_zero, List.set_cons_succ]
                      refine wpAnyH_take (i := 13) (oi := ({ dst := some 73, op := Go.Op.slice 9 (Go.Operand.tmp 70) none (some (Go.Operand.tmp 72)) none, type := 9, pos := "ref.go:470", after := #[{ on := 10, ground := Go.Ground.data }, { on := 12, ground := Go.Ground.data }, { on := 7, ground := Go.Ground.guard }], guard := some (7, false) } : Oper)) (v := ?_) rfl (by kernel_rfl) (by kernel_rfl) (by kernel_rfl) (fun _ _ _ h => h) (Or.inl ⟨by rfl, ?_⟩) hH ?_
                      rotate_left
                      · intro w hSw; (try dsimp only at hSw); go_simp; try with_reducible rfl
                      try simp only [Act.put, List.setIfInBounds_toArray, List.set_cons_zero, List.set_cons_succ]
                      refine wpAnyH_ready (rs := [9]) (by kernel_rfl) (by simp) ?_
                      refine AllReadyH.cons (o := ({ dst := some 69, op := Go.Op.call { callee := Go.Callee.value (Go.Operand.func 18), args := #[Go.Operand.tmp 68], argTypes := #[25] }, type := 9, pos := "ref.go:470", after := #[{ on := 8, ground := Go.Ground.data }, { on := 7, ground := Go.Ground.chain }, { on := 7, ground := Go.Ground.guard }], guard := some (7, false) } : Oper)) rfl (fun K hK => ?_) AllReadyH.nil
                      go_simp
                      go_at_call 18
                      refine (HLN.out _ (HG.out.below (BX.tr hH.1))).mono ?_
                      rintro e9 w9 ⟨rfl, hb⟩
                      refine hK.out _ _ (H4.t hH hb) (fun hH' => ?_)
                      clear hH hb
                      have hH := hH'
                      clear hH' hK K
                      try simp only [Act.put, List.setIfInBounds_toArray, List.set_cons_zero, List.set_cons_succ]
                      refine wpAnyH_take (i := 14) (oi := ({ dst := some 74, op := Go.Op.binOp Go.BinOp.neq 9 (Go.Operand.tmp 69) (Go.Operand.tmp 73) 9, type := 4, pos := "ref.go:470", after := #[{ on := 9, ground := Go.Ground.data }, { on := 13, ground := Go.Ground.data }, { on := 7, ground := Go.Ground.guard }], guard := some (7, false) } : Oper)) (v := ?_) rfl (by kernel_rfl) (by kernel_rfl) (by kernel_rfl) (fun _ _ _ h => h) (Or.inl ⟨by rfl, ?_⟩) hH ?_
                      rotate_left
                      · intro w hSw; (try dsimp only at hSw); go_simp; try with_reducible rfl
                      try simp only [Act.put, List.setIfInBounds_toArray, List.set_cons_zero, List.set_cons_succ]
                      refine wpAnyH_take (i := 15) (oi := ({ dst := some 75, op := Go.Op.pick (Go.Operand.tmp 67) (Go.Operand.const (Go.Value.bool true)) (Go.Operand.tmp 74), type := 4, pos := "ref.go:470", after := #[{ on := 7, ground := Go.Ground.data }, { on := 14, ground := Go.Ground.data }], guard := none } : Oper)) (v := ?_) rfl (by kernel_rfl) (by kernel_rfl) (by kernel_rfl) (fun _ _ _ h => h) (Or.inl ⟨by rfl, ?_⟩) hH ?_
                      rotate_left
                      · intro w hSw; (try dsimp only at hSw); go_simp; try with_reducible rfl
                      try simp only [Act.put, List.setIfInBounds_toArray, List.set_cons_zero, List.set_cons_succ]
                      refine wpAnyH_done (by kernel_rfl) ?_ _
                      refine NoPanic.normal ?_
                      obtain ⟨hX1, d0, d1, d2, d3, dl⟩ := hH
                      clear w1 w2 w3 w4 hE hE2
                      have hnew := Lib.hid (heap_alloc_new w9 (.cells #[.string x.s, .int .i64 x.a, .int .i64 x.h, .int .i64 x.l] 25))
                      have HO2 := Lib.hid (own_bl HOX.out hX1)
                      have z9 := hX1.size
                      have B2 := BX.tr hX1
                      go_wp2_with (at_builtin; refine wpList_append_lies _ rfl _ _ _ rfl w.heap.size 25 i0 _ 4 40 Tryd.underlying22 HI.out.1 HI.out.2.1 HI.out.2.2.1 HI.out.2.2.2 rfl (by omega) _ acc.length (starCells acc) rfl (HO2.out.alloc _) ⟨w9.heap.size, 0, none⟩ 1 1 (cellsS x) rfl rfl (World.news_of_block hnew.out) (by simp [cellsS, Value.oneCell']) (by omega) (by unfold maxLen; omega) (by omega) (by simp; omega) _ rfl ?_; intro gg cap w10 hown1 hgrow hat hlt9)
                      have HO9 := Lib.hid (show w10.ownsRow w.heap.size 25 4 (.slice (some ⟨gg, 0, none⟩) (acc.length + 1) cap) (acc ++ [x]).length (starCells (acc ++ [x])) by
                        rw [sc_snoc, List.length_append, List.length_singleton]; exact hown1)
                      have hl := HO.out.lt
                      have B9 : Bl w w10 := Below.grown (w := w9.alloc (.cells #[.string x.s, .int .i64 x.a, .int .i64 x.h, .int .i64 x.l] 25)) (by go_grown) hgrow (by simp; omega) (fun j hj => (hl j hj).1)
                      go_roundw
                      case rel => exact ⟨acc ++ [x], cur.extract (i + 1) cur.size, f, rfl, by simp, HX2.out, by rw [ext_sz _ _ _ (by omega)]; omega, by simp; omega, by rw [ext_sz _ _ _ (by omega)]; omega, HO9.out, B9⟩
                      case measure => show (cur.extract (i + 1) cur.size).size < cur.size; rw [ext_sz _ _ _ (by omega)]; omega
                    · have hE : (L.toList == (cur.extract 0 (i + 1)).toList) = false := by rw [← HT2.out, beq_eq_false_iff_ne, toList_data, toList_data]; exact fun h => q (ba_ext h)
                      have hE2 : (L.toList != (cur.extract 0 (i + 1)).toList) = true := by rw [bne, hE]; rfl
                      have HX2 := Lib.hid (show parseF s = ([], acc.length, 2) by rw [HX.out, ref_star, if_neg]; rw [refOk, RX.out, QV.out, Bool.true_and, decide_eq_true_eq]; exact fun h => q (ba_ext (by rw [HLL.out, HTL.out, h])))
                      clear q
                      refine wp_region_noPanic ?_
                      refine wp_region_held_drew (S := fun w' => Bl X w' ∧ w'.cell? ⟨wr.heap.size, 0, none⟩ = some (.string x.s) ∧ w'.cell? ⟨wr.heap.size, 1, none⟩ = some (.int .i64 x.a) ∧ w'.cell? ⟨wr.heap.size, 2, none⟩ = some (.int .i64 x.h) ∧ w'.cell? ⟨wr.heap.size, 3, none⟩ = some (.int .i64 x.l) ∧ wr.heap.size < X.heap.size) (by kernel_rfl) (H4.t hS (Bl.dz _ 1)) (fun hH => ?_)
                      refine wpAnyH_take (i := 0) (oi := ({ dst := some 60, op := Go.Op.move (Go.Operand.tmp 5), type := 3, pos := "ref.go:470", after := #[], guard := none } : Oper)) (v := ?_) rfl (by kernel_rfl) (by kernel_rfl) (by kernel_rfl) (fun _ _ _ h => h) (Or.inl ⟨by rfl, ?_⟩) hH ?_
                      rotate_left
                      · intro w hSw; (try dsimp only at hSw); go_simp; try with_reducible rfl
                      try simp only [Act.put, List.setIfInBounds_toArray, List.set_cons_zero, List.set_cons_succ]
                      refine wpAnyH_take (i := 1) (oi := ({ dst := some 61, op := Go.Op.binOp Go.BinOp.eql 3 (Go.Operand.tmp 60) (Go.Operand.const (Go.Value.int Go.IntKind.i64 100)) 3, type := 4, pos := "ref.go:470", after := #[{ on := 0, ground := Go.Ground.data }], guard := none } : Oper)) (v := ?_) rfl (by kernel_rfl) (by kernel_rfl) (by kernel_rfl) (fun _ _ _ h => h) (Or.inl ⟨by rfl, ?_⟩) hH ?_
                      rotate_left
                      · intro w hSw; (try dsimp only at hSw); go_simp; try with_reducible rfl
                      try simp only [Act.put, List.setIfInBounds_toArray, List.set_cons_zero, List.set_cons_succ]
                      refine wpAnyH_take (i := 2) (oi := ({ dst := some 62, op := Go.Op.move (Go.Operand.tmp 61), type := 4, pos := "ref.go:470", after := #[{ on := 1, ground := Go.Ground.data }], guard := none } : Oper)) (v := ?_) rfl (by kernel_rfl) (by kernel_rfl) (by kernel_rfl) (fun _ _ _ h => h) (Or.inl ⟨by rfl, ?_⟩) hH ?_
                      rotate_left
                      · intro w hSw; (try dsimp only at hSw); go_simp; try with_reducible rfl
                      try simp only [Act.put, List.setIfInBounds_toArray, List.set_cons_zero, List.set_cons_succ]
                      refine wpAnyH_take (i := 3) (oi := ({ dst := some 63, op := Go.Op.load 25 (Go.Operand.tmp 7), type := 25, pos := "ref.go:470", after := #[{ on := 2, ground := Go.Ground.guard }], guard := some (2, false) } : Oper)) (v := ?_) rfl (by kernel_rfl) (by kernel_rfl) (by kernel_rfl) (fun _ _ _ h => h) (Or.inl ⟨by rfl, ?_⟩) hH ?_
                      rotate_left
                      · intro w hSw; (try dsimp only at hSw); go_simp; try with_reducible rfl
                      try simp only [Act.put, List.setIfInBounds_toArray, List.set_cons_zero, List.set_cons_succ]
                      refine wpAnyH_ready (rs := [4]) (by kernel_rfl) (by simp) ?_
                      refine AllReadyH.cons (o := ({ dst := some 64, op := Go.Op.call { callee := Go.Callee.value (Go.Operand.func 17), args := #[Go.Operand.tmp 63], argTypes := #[25] }, type := 4, pos := "ref.go:470", after := #[{ on := 3, ground := Go.Ground.data }, { on := 2, ground := Go.Ground.chain }, { on := 2, ground := Go.Ground.guard }], guard := some (2, false) } : Oper)) rfl (fun K hK => ?_) AllReadyH.nil
                      go_simp
                      go_at_call 17
                      refine (rvalidStar_any x.s x.a x.h x.l _ (by unfold maxLen; omega)).mono ?_
                      rintro e9 w9 ⟨rfl, hb⟩
                      rw [QS.out]
                      refine hK.out _ _ (H4.t hH hb) (fun hH' => ?_)
                      clear hH hb
                      have hH := hH'
                      clear hH' hK K
                      try simp only [Act.put, List.setIfInBounds_toArray, List.set_cons_zero, List.set_cons_succ]
                      refine wpAnyH_take (i := 5) (oi := ({ dst := some 65, op := Go.Op.unOp Go.UnOp.not 4 (Go.Operand.tmp 64), type := 4, pos := "ref.go:470", after := #[{ on := 4, ground := Go.Ground.data }, { on := 2, ground := Go.Ground.guard }], guard := some (2, false) } : Oper)) (v := ?_) rfl (by kernel_rfl) (by kernel_rfl) (by kernel_rfl) (fun _ _ _ h => h) (Or.inl ⟨by rfl, ?_⟩) hH ?_
                      rotate_left
                      · intro w hSw; (try dsimp only at hSw); go_simp; try with_reducible rfl
                      try simp only [Act.put, List.setIfInBounds_toArray, List.set_cons_zero, List.set_cons_succ]
                      refine wpAnyH_take (i := 6) (oi := ({ dst := some 66, op := Go.Op.pick (Go.Operand.tmp 62) (Go.Operand.const (Go.Value.bool true)) (Go.Operand.tmp 65), type := 4, pos := "ref.go:470", after := #[{ on := 2, ground := Go.Ground.data }, { on := 5, ground := Go.Ground.data }], guard := none } : Oper)) (v := ?_) rfl (by kernel_rfl) (by kernel_rfl) (by kernel_rfl) (fun _ _ _ h => h) (Or.inl ⟨by rfl, ?_⟩) hH ?_
                      rotate_left
                      · intro w hSw; (try dsimp only at hSw); go_simp; try with_reducible rfl
                      try simp only [Act.put, List.setIfInBounds_toArray, List.set_cons_zero, List.set_cons_succ]
                      refine wpAnyH_take (i := 7) (oi := ({ dst := some 67, op := Go.Op.move (Go.Operand.tmp 66), type := 4, pos := "ref.go:470", after := #[{ on := 6, ground := Go.Ground.data }, { on := 4, ground := Go.Ground.chain }], guard := none } : Oper)) (v := ?_) rfl (by kernel_rfl) (by kernel_rfl) (by kernel_rfl) (fun _ _ _ h => h) (Or.inl ⟨by rfl, ?_⟩) hH ?_
                      rotate_left
                      · intro w hSw; (try dsimp only at hSw); go_simp; try with_reducible rfl
                      try simp only [Act.put, List.setIfInBounds_toArray, List.set_cons_zero, List.set_cons_succ]
                      refine wpAnyH_take (i := 8) (oi := ({ dst := some 68, op := Go.Op.load 25 (Go.Operand.tmp 7), type := 25, pos := "ref.go:470", after := #[{ on := 7, ground := Go.Ground.guard }], guard := some (7, false) } : Oper)) (v := ?_) rfl (by kernel_rfl) (by kernel_rfl) (by kernel_rfl) (fun _ _ _ h => h) (Or.inl ⟨by rfl, ?_⟩) hH ?_
                      rotate_left
                      · intro w hSw; (try dsimp only at hSw); go_simp; try with_reducible rfl
                      try simp only [Act.put, List.setIfInBounds_toArray, List.set_cons_zero, List.set_cons_succ]
                      refine wpAnyH_take (i := 10) (oi := ({ dst := some 70, op := Go.Op.move (Go.Operand.tmp 0), type := 9, pos := "ref.go:470", after := #[{ on := 7, ground := Go.Ground.guard }], guard := some (7, false) } : Oper)) (v := ?_) rfl (by kernel_rfl) (by kernel_rfl) (by kernel_rfl) (fun _ _ _ h => h) (Or.inl ⟨by rfl, ?_⟩) hH ?_
                      rotate_left
                      · intro w hSw; (try dsimp only at hSw); go_simp; try with_reducible rfl
                      try simp only [Act.put, List.setIfInBounds_toArray, List.set_cons_zero, List.set_cons_succ]
                      refine wpAnyH_take (i := 11) (oi := ({ dst := some 71, op := Go.Op.move (Go.Operand.tmp 6), type := 3, pos := "ref.go:470", after := #[{ on := 7, ground := Go.Ground.guard }], guard := some (7, false) } : Oper)) (v := ?_) rfl (by kernel_rfl) (by kernel_rfl) (by kernel_rfl) (fun _ _ _ h => h) (Or.inl ⟨by rfl, ?_⟩) hH ?_
                      rotate_left
                      · intro w hSw; (try dsimp only at hSw); go_simp; try with_reducible rfl
                      try simp only [Act.put, List.setIfInBounds_toArray, List.set_cons_zero, List.set_cons_succ]
                      refine wpAnyH_take (i := 12) (oi := ({ dst := some 72, op := Go.Op.binOp Go.BinOp.add 3 (Go.Operand.tmp 71) (Go.Operand.const (Go.Value.int Go.IntKind.i64 1)) 3, type := 3, pos := "ref.go:470", after := #[{ on := 11, ground := Go.Ground.data }, { on := 7, ground := Go.Ground.guard }], guard := some (7, false) } : Oper)) (v := ?_) rfl (by kernel_rfl) (by kernel_rfl) (by kernel_rfl) (fun _ _ _ h => h) (Or.inl ⟨by rfl, ?_⟩) hH ?_
                      rotate_left
                      · intro w hSw; (try dsimp only at hSw); go_simp; try with_reducible rfl
                      try simp only [Act.put, List.setIfInBounds_toArray, List.set_cons_zero, List.set_cons_succ]
                      refine wpAnyH_take (i := 13) (oi := ({ dst := some 73, op := Go.Op.slice 9 (Go.Operand.tmp 70) none (some (Go.Operand.tmp 72)) none, type := 9, pos := "ref.go:470", after := #[{ on := 10, ground := Go.Ground.data }, { on := 12, ground := Go.Ground.data }, { on := 7, ground := Go.Ground.guard }], guard := some (7, false) } : Oper)) (v := ?_) rfl (by kernel_rfl) (by kernel_rfl) (by kernel_rfl) (fun _ _ _ h => h) (Or.inl ⟨by rfl, ?_⟩) hH ?_
                      rotate_left
                      · intro w hSw; (try dsimp only at hSw); go_simp; try with_reducible rfl
                      try simp only [Act.put, List.setIfInBounds_toArray, List.set_cons_zero, List.set_cons_succ]
                      refine wpAnyH_ready (rs := [9]) (by kernel_rfl) (by simp) ?_
                      refine AllReadyH.cons (o := ({ dst := some 69, op := Go.Op.call { callee := Go.Callee.value (Go.Operand.func 18), args := #[Go.Operand.tmp 68], argTypes := #[25] }, type := 9, pos := "ref.go:470", after := #[{ on := 8, ground := Go.Ground.data }, { on := 7, ground := Go.Ground.chain }, { on := 7, ground := Go.Ground.guard }], guard := some (7, false) } : Oper)) rfl (fun K hK => ?_) AllReadyH.nil
                      go_simp
                      go_at_call 18
                      refine (HLN.out _ (HG.out.below (BX.tr hH.1))).mono ?_
                      rintro e9 w9 ⟨rfl, hb⟩
                      refine hK.out _ _ (H4.t hH hb) (fun hH' => ?_)
                      clear hH hb
                      have hH := hH'
                      clear hH' hK K
                      try simp only [Act.put, List.setIfInBounds_toArray, List.set_cons_zero, List.set_cons_succ]
                      refine wpAnyH_take (i := 14) (oi := ({ dst := some 74, op := Go.Op.binOp Go.BinOp.neq 9 (Go.Operand.tmp 69) (Go.Operand.tmp 73) 9, type := 4, pos := "ref.go:470", after := #[{ on := 9, ground := Go.Ground.data }, { on := 13, ground := Go.Ground.data }, { on := 7, ground := Go.Ground.guard }], guard := some (7, false) } : Oper)) (v := ?_) rfl (by kernel_rfl) (by kernel_rfl) (by kernel_rfl) (fun _ _ _ h => h) (Or.inl ⟨by rfl, ?_⟩) hH ?_
                      rotate_left
                      · intro w hSw; (try dsimp only at hSw); go_simp; try with_reducible rfl
                      try simp only [Act.put, List.setIfInBounds_toArray, List.set_cons_zero, List.set_cons_succ]
                      refine wpAnyH_take (i := 15) (oi := ({ dst := some 75, op := Go.Op.pick (Go.Operand.tmp 67) (Go.Operand.const (Go.Value.bool true)) (Go.Operand.tmp 74), type := 4, pos := "ref.go:470", after := #[{ on := 7, ground := Go.Ground.data }, { on := 14, ground := Go.Ground.data }], guard := none } : Oper)) (v := ?_) rfl (by kernel_rfl) (by kernel_rfl) (by kernel_rfl) (fun _ _ _ h => h) (Or.inl ⟨by rfl, ?_⟩) hH ?_
                      rotate_left
                      · intro w hSw; (try dsimp only at hSw); go_simp; try with_reducible rfl
                      try simp only [Act.put, List.setIfInBounds_toArray, List.set_cons_zero, List.set_cons_succ]
                      refine wpAnyH_done (by kernel_rfl) ?_ _
                      refine NoPanic.normal ?_
                      go_wp2_with fail
                      go_ret3
                      exact pa_none HX2.out (BX.tr (H4.bl hH))
                  · have QS := Lib.hid (show stB x.s x.a x.h x.l = false from (show vSta x = false by simpa using q))
                    have HX2 := Lib.hid (show parseF s = ([], acc.length, 2) by rw [HX.out, ref_star, if_neg]; rw [refOk, RX.out]; simp [show vSta x = false from QS.out])
                    clear q
                    refine wp_region_noPanic ?_
                    refine wp_region_held_drew (S := fun w' => Bl X w' ∧ w'.cell? ⟨wr.heap.size, 0, none⟩ = some (.string x.s) ∧ w'.cell? ⟨wr.heap.size, 1, none⟩ = some (.int .i64 x.a) ∧ w'.cell? ⟨wr.heap.size, 2, none⟩ = some (.int .i64 x.h) ∧ w'.cell? ⟨wr.heap.size, 3, none⟩ = some (.int .i64 x.l) ∧ wr.heap.size < X.heap.size) (by kernel_rfl) (H4.t hS (Bl.dz _ 1)) (fun hH => ?_)
                    refine wpAnyH_take (i := 0) (oi := ({ dst := some 60, op := Go.Op.move (Go.Operand.tmp 5), type := 3, pos := "ref.go:470", after := #[], guard := none } : Oper)) (v := ?_) rfl (by kernel_rfl) (by kernel_rfl) (by kernel_rfl) (fun _ _ _ h => h) (Or.inl ⟨by rfl, ?_⟩) hH ?_
                    rotate_left
                    · intro w hSw; (try dsimp only at hSw); go_simp; try with_reducible rfl
                    try simp only [Act.put, List.setIfInBounds_toArray, List.set_cons_zero, List.set_cons_succ]
                    refine wpAnyH_take (i := 1) (oi := ({ dst := some 61, op := Go.Op.binOp Go.BinOp.eql 3 (Go.Operand.tmp 60) (Go.Operand.const (Go.Value.int Go.IntKind.i64 100)) 3, type := 4, pos := "ref.go:470", after := #[{ on := 0, ground := Go.Ground.data }], guard := none } : Oper)) (v := ?_) rfl (by kernel_rfl) (by kernel_rfl) (by kernel_rfl) (fun _ _ _ h => h) (Or.inl ⟨by rfl, ?_⟩) hH ?_
                    rotate_left
                    · intro w hSw; (try dsimp only at hSw); go_simp; try with_reducible rfl
                    try simp only [Act.put, List.setIfInBounds_toArray, List.set_cons_zero, List.set_cons_succ]
                    refine wpAnyH_take (i := 2) (oi := ({ dst := some 62, op := Go.Op.move (Go.Operand.tmp 61), type := 4, pos := "ref.go:470", after := #[{ on := 1, ground := Go.Ground.data }], guard := none } : Oper)) (v := ?_) rfl (by kernel_rfl) (by kernel_rfl) (by kernel_rfl) (fun _ _ _ h => h) (Or.inl ⟨by rfl, ?_⟩) hH ?_
                    rotate_left
                    · intro w hSw; (try dsimp only at hSw); go_simp; try with_reducible rfl
                    try simp only [Act.put, List.setIfInBounds_toArray, List.set_cons_zero, List.set_cons_succ]
                    refine wpAnyH_take (i := 3) (oi := ({ dst := some 63, op := Go.Op.load 25 (Go.Operand.tmp 7), type := 25, pos := "ref.go:470", after := #[{ on := 2, ground := Go.Ground.guard }], guard := some (2, false) } : Oper)) (v := ?_) rfl (by kernel_rfl) (by kernel_rfl) (by kernel_rfl) (fun _ _ _ h => h) (Or.inl ⟨by rfl, ?_⟩) hH ?_
                    rotate_left
                    · intro w hSw; (try dsimp only at hSw); go_simp; try with_reducible rfl
                    try simp only [Act.put, List.setIfInBounds_toArray, List.set_cons_zero, List.set_cons_succ]
                    refine wpAnyH_ready (rs := [4]) (by kernel_rfl) (by simp) ?_
                    refine AllReadyH.cons (o := ({ dst := some 64, op := Go.Op.call { callee := Go.Callee.value (Go.Operand.func 17), args := #[Go.Operand.tmp 63], argTypes := #[25] }, type := 4, pos := "ref.go:470", after := #[{ on := 3, ground := Go.Ground.data }, { on := 2, ground := Go.Ground.chain }, { on := 2, ground := Go.Ground.guard }], guard := some (2, false) } : Oper)) rfl (fun K hK => ?_) AllReadyH.nil
                    go_simp
                    go_at_call 17
                    refine (rvalidStar_any x.s x.a x.h x.l _ (by unfold maxLen; omega)).mono ?_
                    rintro e9 w9 ⟨rfl, hb⟩
                    rw [QS.out]
                    refine hK.out _ _ (H4.t hH hb) (fun hH' => ?_)
                    clear hH hb
                    have hH := hH'
                    clear hH' hK K
                    try simp only [Act.put, List.setIfInBounds_toArray, List.set_cons_zero, List.set_cons_succ]
                    refine wpAnyH_take (i := 5) (oi := ({ dst := some 65, op := Go.Op.unOp Go.UnOp.not 4 (Go.Operand.tmp 64), type := 4, pos := "ref.go:470", after := #[{ on := 4, ground := Go.Ground.data }, { on := 2, ground := Go.Ground.guard }], guard := some (2, false) } : Oper)) (v := ?_) rfl (by kernel_rfl) (by kernel_rfl) (by kernel_rfl) (fun _ _ _ h => h) (Or.inl ⟨by rfl, ?_⟩) hH ?_
                    rotate_left
                    · intro w hSw; (try dsimp only at hSw); go_simp; try with_reducible rfl
                    try simp only [Act.put, List.setIfInBounds_toArray, List.set_cons_zero, List.set_cons_succ]
                    refine wpAnyH_take (i := 6) (oi := ({ dst := some 66, op := Go.Op.pick (Go.Operand.tmp 62) (Go.Operand.const (Go.Value.bool true)) (Go.Operand.tmp 65), type := 4, pos := "ref.go:470", after := #[{ on := 2, ground := Go.Ground.data }, { on := 5, ground := Go.Ground.data }], guard := none } : Oper)) (v := ?_) rfl (by kernel_rfl) (by kernel_rfl) (by kernel_rfl) (fun _ _ _ h => h) (Or.inl ⟨by rfl, ?_⟩) hH ?_
                    rotate_left
                    · intro w hSw; (try dsimp only at hSw); go_simp; try with_reducible rfl
                    try simp only [Act.put, List.setIfInBounds_toArray, List.set_cons_zero, List.set_cons_succ]
                    refine wpAnyH_take (i := 7) (oi := ({ dst := some 67, op := Go.Op.move (Go.Operand.tmp 66), type := 4, pos := "ref.go:470", after := #[{ on := 6, ground := Go.Ground.data }, { on := 4, ground := Go.Ground.chain }], guard := none } : Oper)) (v := ?_) rfl (by kernel_rfl) (by kernel_rfl) (by kernel_rfl) (fun _ _ _ h => h) (Or.inl ⟨by rfl, ?_⟩) hH ?_
                    rotate_left
                    · intro w hSw; (try dsimp only at hSw); go_simp; try with_reducible rfl
                    try simp only [Act.put, List.setIfInBounds_toArray, List.set_cons_zero, List.set_cons_succ]
                    refine wpAnyH_take (i := 8) (oi := ({ dst := some 68, op := Go.Op.load 25 (Go.Operand.tmp 7), type := 25, pos := "ref.go:470", after := #[{ on := 7, ground := Go.Ground.guard }], guard := some (7, false) } : Oper)) (v := undef) rfl (by kernel_rfl) (by kernel_rfl) (by kernel_rfl) (fun _ _ _ h => h) (Or.inr ⟨by rfl, rfl⟩) hH ?_
                    try simp only [Act.put, List.setIfInBounds_toArray, List.set_cons_zero, List.set_cons_succ]
                    refine wpAnyH_take (i := 10) (oi := ({ dst := some 70, op := Go.Op.move (Go.Operand.tmp 0), type := 9, pos := "ref.go:470", after := #[{ on := 7, ground := Go.Ground.guard }], guard := some (7, false) } : Oper)) (v := undef) rfl (by kernel_rfl) (by kernel_rfl) (by kernel_rfl) (fun _ _ _ h => h) (Or.inr ⟨by rfl, rfl⟩) hH ?_
                    try simp only [Act.put, List.setIfInBounds_toArray, List.set_cons_zero, List.set_cons_succ]
                    refine wpAnyH_take (i := 11) (oi := ({ dst := some 71, op := Go.Op.move (Go.Operand.tmp 6), type := 3, pos := "ref.go:470", after := #[{ on := 7, ground := Go.Ground.guard }], guard := some (7, false) } : Oper)) (v := undef) rfl (by kernel_rfl) (by kernel_rfl) (by kernel_rfl) (fun _ _ _ h => h) (Or.inr ⟨by rfl, rfl⟩) hH ?_
                    try simp only [Act.put, List.setIfInBounds_toArray, List.set_cons_zero, List.set_cons_succ]
                    refine wpAnyH_take (i := 12) (oi := ({ dst := some 72, op := Go.Op.binOp Go.BinOp.add 3 (Go.Operand.tmp 71) (Go.Operand.const (Go.Value.int Go.IntKind.i64 1)) 3, type := 3, pos := "ref.go:470", after := #[{ on := 11, ground := Go.Ground.data }, { on := 7, ground := Go.Ground.guard }], guard := some (7, false) } : Oper)) (v := undef) rfl (by kernel_rfl) (by kernel_rfl) (by kernel_rfl) (fun _ _ _ h => h) (Or.inr ⟨by rfl, rfl⟩) hH ?_
                    try simp only [Act.put, List.setIfInBounds_toArray, List.set_cons_zero, List.set_cons_succ]
                    refine wpAnyH_take (i := 13) (oi := ({ dst := some 73, op := Go.Op.slice 9 (Go.Operand.tmp 70) none (some (Go.Operand.tmp 72)) none, type := 9, pos := "ref.go:470", after := #[{ on := 10, ground := Go.Ground.data }, { on := 12, ground := Go.Ground.data }, { on := 7, ground := Go.Ground.guard }], guard := some (7, false) } : Oper)) (v := undef) rfl (by kernel_rfl) (by kernel_rfl) (by kernel_rfl) (fun _ _ _ h => h) (Or.inr ⟨by rfl, rfl⟩) hH ?_
                    try simp only [Act.put, List.setIfInBounds_toArray, List.set_cons_zero, List.set_cons_succ]
                    refine wpAnyH_ready (rs := [9]) (by kernel_rfl) (by simp) ?_
                    refine AllReadyH.cons (o := ({ dst := some 69, op := Go.Op.call { callee := Go.Callee.value (Go.Operand.func 18), args := #[Go.Operand.tmp 68], argTypes := #[25] }, type := 9, pos := "ref.go:470", after := #[{ on := 8, ground := Go.Ground.data }, { on := 7, ground := Go.Ground.chain }, { on := 7, ground := Go.Ground.guard }], guard := some (7, false) } : Oper)) rfl (fun K hK => ?_) AllReadyH.nil
                    refine iteInduction (motive := fun p => p) (fun h => absurd (show false = true from h) Bool.false_ne_true) (fun _ => ?_)
                    refine hK.out _ _ hH (fun hH' => ?_)
                    clear hH' hK K
                    try simp only [Act.put, List.setIfInBounds_toArray, List.set_cons_zero, List.set_cons_succ]
                    refine wpAnyH_take (i := 14) (oi := ({ dst := some 74, op := Go.Op.binOp Go.BinOp.neq 9 (Go.Operand.tmp 69) (Go.Operand.tmp 73) 9, type := 4, pos := "ref.go:470", after := #[{ on := 9, ground := Go.Ground.data }, { on := 13, ground := Go.Ground.data }, { on := 7, ground := Go.Ground.guard }], guard := some (7, false) } : Oper)) (v := undef) rfl (by kernel_rfl) (by kernel_rfl) (by kernel_rfl) (fun _ _ _ h => h) (Or.inr ⟨by rfl, rfl⟩) hH ?_
                    try simp only [Act.put, List.setIfInBounds_toArray, List.set_cons_zero, List.set_cons_succ]
                    refine wpAnyH_take (i := 15) (oi := ({ dst := some 75, op := Go.Op.pick (Go.Operand.tmp 67) (Go.Operand.const (Go.Value.bool true)) (Go.Operand.tmp 74), type := 4, pos := "ref.go:470", after := #[{ on := 7, ground := Go.Ground.data }, { on := 14, ground := Go.Ground.data }], guard := none } : Oper)) (v := ?_) rfl (by kernel_rfl) (by kernel_rfl) (by kernel_rfl) (fun _ _ _ h => h) (Or.inl ⟨by rfl, ?_⟩) hH ?_
                    rotate_left
                    · intro w hSw; (try dsimp only at hSw); go_simp; try with_reducible rfl
                    try simp only [Act.put, List.setIfInBounds_toArray, List.set_cons_zero, List.set_cons_succ]
                    refine wpAnyH_done (by kernel_rfl) ?_ _
                    refine NoPanic.normal ?_
                    go_wp2_with fail
                    go_ret3
                    exact pa_none HX2.out (BX.tr (H4.bl hH))
end Go.Proofs.YtlpbmcnojkhdcaaDoor
