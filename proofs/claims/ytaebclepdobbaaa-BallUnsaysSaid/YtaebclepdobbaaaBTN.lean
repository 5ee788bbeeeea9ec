/-
  The walk of a law of package ball: a flag unsays a fault (a nil log).
-/
import Derived.Test.YtaebclepdobbaaaBTA
namespace Go.Proofs.Ytaebclepdobbaaa
open Go.RowKit Go.Shelf
set_option linter.unusedSimpArgs false
set_option linter.unusedVariables false

set_option maxRecDepth 100000 in
set_option maxHeartbeats 40000000 in
theorem unsays_none (M : Mst)  (c : Nat) (E : Nat → Evt) (e : Evt) (w : World) (hn : 0 ≤ maxLen) (hc : 0 ≤ c ∧ c ≤ maxLen) (hA : El w none 0 E) (h3 : 0 ≤ 300) (hv : verR M E 0 = (verL M E 0, 0)) : Calls Try.prog 11 #[encM M, .slice none 0 c, encE e] w fun e' w' => e' = .returned (.bool true) ∧ Bl w w' := by
  have HA := Lib.hid hA
  have HN := Lib.hid hn
  have HCC := Lib.hid hc.2
  have hc := hc.1
  clear hA
  unfold maxLen at hn
  obtain ⟨i0, hi0, hz0, hz1, hz2⟩ := info_parts event_info
  have HI := Lib.hid (And.intro hi0 (And.intro hz0 (And.intro hz1 hz2)))
  clear hi0 hz0 hz1 hz2
  have HL := Lib.hid (show decide (300 < ((0 : Nat) : Int)) = false from decide_eq_false (by omega))
  have HU := Lib.hid (unsays M E 0 e)
  have HRG := Lib.hid (And.intro (verL_range M E 0) (verL_range M (snoc E 0 e) (0 + 1)))
  obtain ⟨v, hvv⟩ : ∃ v, verL M E 0 = v := ⟨_, rfl⟩
  obtain ⟨u, hu⟩ : ∃ u, verL M (snoc E 0 e) (0 + 1) = u := ⟨_, rfl⟩
  obtain ⟨f, hf⟩ : ∃ f, (runR M (snoc E 0 e) (0 + 1)).2.2 = f := ⟨_, rfl⟩
  rw [hvv] at HU HRG hv
  rw [hu] at HU HRG
  have HV := Lib.hid hv
  have HV0 := Lib.hid (show f = 0 → verR M (snoc E 0 e) (0 + 1) = (u, 0) from fun h => by unfold verR; rw [if_pos (by rw [hf]; exact h), hu])
  have HV1 := Lib.hid (show f ≠ 0 → verR M (snoc E 0 e) (0 + 1) = (0, f) from fun h => by unfold verR; rw [if_neg (by rw [hf]; exact h), hf])
  clear hv hvv hu hf
  go_enter Try.func11, Try.ntmps11
  go_wp2_with fail
  refine (longB_any none 0 c _).mono ?_
  rintro q8 w8 ⟨rfl, rfl⟩
  rw [HL.out]
  go_wp2_with fail
  refine (ver_any M none 0 c E _ (HA.out.below (by go_grown)) HN.out hc HCC.out).mono ?_
  rintro q1 w1 ⟨rfl, hb⟩
  have m0 := kcb hb (b := w.heap.size) (o := 0) (v := .int .i64 M.no) (by go_cell)
  have m1 := kcb hb (b := w.heap.size) (o := 1) (v := .int .i64 M.hf) (by go_cell)
  have m2 := kcb hb (b := w.heap.size) (o := 2) (v := .int .i64 M.fu) (by go_cell)
  have m3 := kcb hb (b := w.heap.size) (o := 3) (v := .int .i64 M.la) (by go_cell)
  have m4 := kcb hb (b := w.heap.size) (o := 4) (v := .int .i64 M.ag) (by go_cell)
  have m5 := kcb hb (b := w.heap.size) (o := 5) (v := .int .i64 M.wi) (by go_cell)
  have e0 := kcb hb (b := w.heap.size + 1) (o := 0) (v := .int .i64 e.t) (by go_cell)
  have e1 := kcb hb (b := w.heap.size + 1) (o := 1) (v := .int .i64 e.ki) (by go_cell)
  have e2 := kcb hb (b := w.heap.size + 1) (o := 2) (v := .int .i64 e.n) (by go_cell)
  have B1 : Bl w w1 := Below.trans (by go_grown) (hb.mono (by (try simp only [World.size_alloc, World.size_setCell]); omega))
  have l1 := ltb e2
  have zz1 := B1.size
  clear hb
  rw [HV.out]
  have lm1 := ltb m0
  have le1 := ltb e0
  have zw1 := B1.size
  go_wp2_with fail
  go_region_law (first | (refine step_append_lies _ (by rfl) _ _ _ (by rfl) (w.heap.size + 2) 36 i0 _ 3 24 Try.underlying24 HI.out.1 HI.out.2.1 HI.out.2.2.1 HI.out.2.2.2 rfl (by omega) _ 0 [] (by rfl) ((World.ownsRow_lit (base := w.heap.size + 2) (size := 3) (e := 36) w1.drew #[] 0 (by (try simp only [World.size_alloc, World.size_drew]); omega) (by decide) rfl).alloc _) ⟨w1.heap.size + 1, 0, none⟩ 1 1 (cellsE e) (by rfl) (by rfl) (World.news_of_block (cs := #[.int .i64 e.t, .int .i64 e.ki, .int .i64 e.n]) (t := 36) (fr := (0, 0)) (by have := heap_alloc_new (w1.drew.alloc (.cells #[] 36)) (.cells #[.int .i64 e.t, .int .i64 e.ki, .int .i64 e.n] 36); rwa [World.size_alloc] at this)) (by simp [cellsE, Value.oneCell']) (by omega) (by unfold maxLen; omega) (by omega) (by (try simp only [World.size_alloc, World.size_drew]); omega) _ rfl ?_; intro gg cap9 w9 hown9 hgrow hat hlt9; have BW9 : Bl w w9 := grown_bl (h := by go_grown) (hg := hgrow) (hrow := fun k h => by have h : w1.heap.size = k := Option.some.inj h; omega); have zw9 := BW9.size; have m0 := (hgrow.cell_far ⟨w.heap.size, 0, none⟩ (by (try simp only [World.size_alloc, World.size_drew]); show w.heap.size < _; omega) (by intro h; have h : w.heap.size = w1.heap.size := Option.some.inj h; omega)).trans (show World.cell? _ _ = some (.int .i64 M.no) from by go_cell); have m1 := (hgrow.cell_far ⟨w.heap.size, 1, none⟩ (by (try simp only [World.size_alloc, World.size_drew]); show w.heap.size < _; omega) (by intro h; have h : w.heap.size = w1.heap.size := Option.some.inj h; omega)).trans (show World.cell? _ _ = some (.int .i64 M.hf) from by go_cell); have m2 := (hgrow.cell_far ⟨w.heap.size, 2, none⟩ (by (try simp only [World.size_alloc, World.size_drew]); show w.heap.size < _; omega) (by intro h; have h : w.heap.size = w1.heap.size := Option.some.inj h; omega)).trans (show World.cell? _ _ = some (.int .i64 M.fu) from by go_cell); have m3 := (hgrow.cell_far ⟨w.heap.size, 3, none⟩ (by (try simp only [World.size_alloc, World.size_drew]); show w.heap.size < _; omega) (by intro h; have h : w.heap.size = w1.heap.size := Option.some.inj h; omega)).trans (show World.cell? _ _ = some (.int .i64 M.la) from by go_cell); have m4 := (hgrow.cell_far ⟨w.heap.size, 4, none⟩ (by (try simp only [World.size_alloc, World.size_drew]); show w.heap.size < _; omega) (by intro h; have h : w.heap.size = w1.heap.size := Option.some.inj h; omega)).trans (show World.cell? _ _ = some (.int .i64 M.ag) from by go_cell); have m5 := (hgrow.cell_far ⟨w.heap.size, 5, none⟩ (by (try simp only [World.size_alloc, World.size_drew]); show w.heap.size < _; omega) (by intro h; have h : w.heap.size = w1.heap.size := Option.some.inj h; omega)).trans (show World.cell? _ _ = some (.int .i64 M.wi) from by go_cell); have e0 := (hgrow.cell_far ⟨w.heap.size + 1, 0, none⟩ (by (try simp only [World.size_alloc, World.size_drew]); show w.heap.size + 1 < _; omega) (by intro h; have h : w.heap.size + 1 = w1.heap.size := Option.some.inj h; omega)).trans (show World.cell? _ _ = some (.int .i64 e.t) from by go_cell); have e1 := (hgrow.cell_far ⟨w.heap.size + 1, 1, none⟩ (by (try simp only [World.size_alloc, World.size_drew]); show w.heap.size + 1 < _; omega) (by intro h; have h : w.heap.size + 1 = w1.heap.size := Option.some.inj h; omega)).trans (show World.cell? _ _ = some (.int .i64 e.ki) from by go_cell); have e2 := (hgrow.cell_far ⟨w.heap.size + 1, 2, none⟩ (by (try simp only [World.size_alloc, World.size_drew]); show w.heap.size + 1 < _; omega) (by intro h; have h : w.heap.size + 1 = w1.heap.size := Option.some.inj h; omega)).trans (show World.cell? _ _ = some (.int .i64 e.n) from by go_cell); have own9 := (show w9.ownsRow (w.heap.size + 2) 36 3 (.slice (some ⟨gg, 0, none⟩) (0 + 1) cap9) (0 + 1) (evC (snoc E 0 e) (0 + 1)) by rw [evC_snoc]; simpa [evC] using hown9); have cp9 := own_cap own9) | (refine step_append_lies _ (by rfl) _ _ _ (by rfl) (w.heap.size + 2) 36 i0 _ 3 24 Try.underlying24 HI.out.1 HI.out.2.1 HI.out.2.2.1 HI.out.2.2.2 rfl (by omega) _ 0 [] (by rfl) (show World.ownsRow ((w1.drew.alloc (.cells #[.int .i64 e.t, .int .i64 e.ki, .int .i64 e.n] 36)).alloc (.cells #[] 36)) (w.heap.size + 2) 36 3 (.slice (some ⟨w1.heap.size + 1, 0, none⟩) 0 0) 0 [] from by have := (World.ownsRow_lit (base := w.heap.size + 2) (size := 3) (e := 36) (w1.drew.alloc (.cells #[.int .i64 e.t, .int .i64 e.ki, .int .i64 e.n] 36)) #[] 0 (by (try simp only [World.size_alloc, World.size_drew]); omega) (by decide) rfl); rw [World.size_alloc] at this; exact this) ⟨w1.heap.size, 0, none⟩ 1 1 (cellsE e) (by rfl) (by rfl) (World.news_of_block (cs := #[.int .i64 e.t, .int .i64 e.ki, .int .i64 e.n]) (t := 36) (fr := (0, 0)) ((Below.heap_alloc _ _ _ (by (try simp only [World.size_alloc, World.size_drew]); omega)).trans (heap_alloc_new w1.drew (.cells #[.int .i64 e.t, .int .i64 e.ki, .int .i64 e.n] 36)))) (by simp [cellsE, Value.oneCell']) (by omega) (by unfold maxLen; omega) (by omega) (by (try simp only [World.size_alloc, World.size_drew]); omega) _ rfl ?_; intro gg cap9 w9 hown9 hgrow hat hlt9; have BW9 : Bl w w9 := grown_bl (h := by go_grown) (hg := hgrow) (hrow := fun k h => by have h : w1.heap.size + 1 = k := Option.some.inj h; omega); have zw9 := BW9.size; have m0 := (hgrow.cell_far ⟨w.heap.size, 0, none⟩ (by (try simp only [World.size_alloc, World.size_drew]); show w.heap.size < _; omega) (by intro h; have h : w.heap.size = w1.heap.size + 1 := Option.some.inj h; omega)).trans (show World.cell? _ _ = some (.int .i64 M.no) from by go_cell); have m1 := (hgrow.cell_far ⟨w.heap.size, 1, none⟩ (by (try simp only [World.size_alloc, World.size_drew]); show w.heap.size < _; omega) (by intro h; have h : w.heap.size = w1.heap.size + 1 := Option.some.inj h; omega)).trans (show World.cell? _ _ = some (.int .i64 M.hf) from by go_cell); have m2 := (hgrow.cell_far ⟨w.heap.size, 2, none⟩ (by (try simp only [World.size_alloc, World.size_drew]); show w.heap.size < _; omega) (by intro h; have h : w.heap.size = w1.heap.size + 1 := Option.some.inj h; omega)).trans (show World.cell? _ _ = some (.int .i64 M.fu) from by go_cell); have m3 := (hgrow.cell_far ⟨w.heap.size, 3, none⟩ (by (try simp only [World.size_alloc, World.size_drew]); show w.heap.size < _; omega) (by intro h; have h : w.heap.size = w1.heap.size + 1 := Option.some.inj h; omega)).trans (show World.cell? _ _ = some (.int .i64 M.la) from by go_cell); have m4 := (hgrow.cell_far ⟨w.heap.size, 4, none⟩ (by (try simp only [World.size_alloc, World.size_drew]); show w.heap.size < _; omega) (by intro h; have h : w.heap.size = w1.heap.size + 1 := Option.some.inj h; omega)).trans (show World.cell? _ _ = some (.int .i64 M.ag) from by go_cell); have m5 := (hgrow.cell_far ⟨w.heap.size, 5, none⟩ (by (try simp only [World.size_alloc, World.size_drew]); show w.heap.size < _; omega) (by intro h; have h : w.heap.size = w1.heap.size + 1 := Option.some.inj h; omega)).trans (show World.cell? _ _ = some (.int .i64 M.wi) from by go_cell); have e0 := (hgrow.cell_far ⟨w.heap.size + 1, 0, none⟩ (by (try simp only [World.size_alloc, World.size_drew]); show w.heap.size + 1 < _; omega) (by intro h; have h : w.heap.size + 1 = w1.heap.size + 1 := Option.some.inj h; omega)).trans (show World.cell? _ _ = some (.int .i64 e.t) from by go_cell); have e1 := (hgrow.cell_far ⟨w.heap.size + 1, 1, none⟩ (by (try simp only [World.size_alloc, World.size_drew]); show w.heap.size + 1 < _; omega) (by intro h; have h : w.heap.size + 1 = w1.heap.size + 1 := Option.some.inj h; omega)).trans (show World.cell? _ _ = some (.int .i64 e.ki) from by go_cell); have e2 := (hgrow.cell_far ⟨w.heap.size + 1, 2, none⟩ (by (try simp only [World.size_alloc, World.size_drew]); show w.heap.size + 1 < _; omega) (by intro h; have h : w.heap.size + 1 = w1.heap.size + 1 := Option.some.inj h; omega)).trans (show World.cell? _ _ = some (.int .i64 e.n) from by go_cell); have own9 := (show w9.ownsRow (w.heap.size + 2) 36 3 (.slice (some ⟨gg, 0, none⟩) (0 + 1) cap9) (0 + 1) (evC (snoc E 0 e) (0 + 1)) by rw [evC_snoc]; simpa [evC] using hown9); have cp9 := own_cap own9) | fail)
  all_goals
    have own9z := (show w9.ownsRow (w.heap.size + 2) 36 3 (.slice (some ⟨gg, 0, none⟩) (0 + 1) cap9) (0 + 1) (evC (snoc E 0 e) (0 + 1)) by exact own9)
    have lm9 := ltb m0
    have le9 := ltb e0
    by_cases hz : f = 0
    · have HV9 := Lib.hid (show verR M (snoc E 0 e) (0 + 1) = (u, 0) by exact HV0.out hz)
      by_cases k6 : e.ki = 6
      · obtain ⟨nf, imp⟩ := HU.out.1 k6
        have NF := Lib.hid (show decide (fltF u) = false from decide_eq_false nf)
        have K6 : (e.ki == 6) = true := by simp [k6]
        by_cases fv : fltF v
        · have FV := Lib.hid (show decide (fltF v) = true from decide_eq_true fv)
          have vn : v ≠ 0 ∧ v ≠ 3 ∧ v ≠ 1 := by rcases fv with h | h <;> omega
          obtain ⟨vn0, vn3, vn1⟩ := vn
          have w0' : (v != 0) = true := by simp [vn0]
          have w3' : (v != 3) = true := by simp [vn3]
          have w1' : (v != 1) = true := by simp [vn1]
          clear imp nf
          go_wp2_with fail
          try simp only [Nat.zero_add]
          refine (ver_any M (some ⟨gg, 0, none⟩) (0 + 1) cap9 (snoc E 0 e) _ ((el_of_own own9z).below (by go_grown)) (by unfold maxLen; omega) (by omega) cp9.2.1).mono ?_
          rintro q7 w7 ⟨rfl, hb7⟩
          rw [HV9.out]
          have m0 := kcb hb7 (b := w.heap.size) (o := 0) (v := .int .i64 M.no) (by first | exact m0 | go_cell)
          have m1 := kcb hb7 (b := w.heap.size) (o := 1) (v := .int .i64 M.hf) (by first | exact m1 | go_cell)
          have m2 := kcb hb7 (b := w.heap.size) (o := 2) (v := .int .i64 M.fu) (by first | exact m2 | go_cell)
          have m3 := kcb hb7 (b := w.heap.size) (o := 3) (v := .int .i64 M.la) (by first | exact m3 | go_cell)
          have m4 := kcb hb7 (b := w.heap.size) (o := 4) (v := .int .i64 M.ag) (by first | exact m4 | go_cell)
          have m5 := kcb hb7 (b := w.heap.size) (o := 5) (v := .int .i64 M.wi) (by first | exact m5 | go_cell)
          have e0 := kcb hb7 (b := w.heap.size + 1) (o := 0) (v := .int .i64 e.t) (by first | exact e0 | go_cell)
          have e1 := kcb hb7 (b := w.heap.size + 1) (o := 1) (v := .int .i64 e.ki) (by first | exact e1 | go_cell)
          have e2 := kcb hb7 (b := w.heap.size + 1) (o := 2) (v := .int .i64 e.n) (by first | exact e2 | go_cell)
          have B7 : Bl w w7 := Below.trans (by go_grown) (hb7.mono (by (try simp only [World.size_alloc, World.size_drew]); omega))
          have z7 := B7.size
          clear hb7
          go_wp2_with fail
          refine (fault_any u _).mono ?_
          rintro q6 w6 ⟨rfl, rfl⟩
          rw [NF.out]
          go_wp2_with fail
          refine (fault_any v _).mono ?_
          rintro q6 w6 ⟨rfl, rfl⟩
          rw [FV.out]
          go_wp2_with fail
          refine (awakeB_any _).mono ?_
          rintro q9 w8 ⟨rfl, hb⟩
          have B8 : Bl w w8 := Below.trans (by go_grown) (hb.mono (by (try simp only [World.size_alloc, World.size_setCell, World.size_drew]); omega))
          go_wp2_with fail
          go_ret
          exact ⟨rfl, B8⟩
        · have FV := Lib.hid (show decide (fltF v) = false from decide_eq_false fv)
          obtain rfl : u = v := imp fv
          clear imp nf
          go_wp2_with fail
          try simp only [Nat.zero_add]
          refine (ver_any M (some ⟨gg, 0, none⟩) (0 + 1) cap9 (snoc E 0 e) _ ((el_of_own own9z).below (by go_grown)) (by unfold maxLen; omega) (by omega) cp9.2.1).mono ?_
          rintro q7 w7 ⟨rfl, hb7⟩
          rw [HV9.out]
          have m0 := kcb hb7 (b := w.heap.size) (o := 0) (v := .int .i64 M.no) (by first | exact m0 | go_cell)
          have m1 := kcb hb7 (b := w.heap.size) (o := 1) (v := .int .i64 M.hf) (by first | exact m1 | go_cell)
          have m2 := kcb hb7 (b := w.heap.size) (o := 2) (v := .int .i64 M.fu) (by first | exact m2 | go_cell)
          have m3 := kcb hb7 (b := w.heap.size) (o := 3) (v := .int .i64 M.la) (by first | exact m3 | go_cell)
          have m4 := kcb hb7 (b := w.heap.size) (o := 4) (v := .int .i64 M.ag) (by first | exact m4 | go_cell)
          have m5 := kcb hb7 (b := w.heap.size) (o := 5) (v := .int .i64 M.wi) (by first | exact m5 | go_cell)
          have e0 := kcb hb7 (b := w.heap.size + 1) (o := 0) (v := .int .i64 e.t) (by first | exact e0 | go_cell)
          have e1 := kcb hb7 (b := w.heap.size + 1) (o := 1) (v := .int .i64 e.ki) (by first | exact e1 | go_cell)
          have e2 := kcb hb7 (b := w.heap.size + 1) (o := 2) (v := .int .i64 e.n) (by first | exact e2 | go_cell)
          have B7 : Bl w w7 := Below.trans (by go_grown) (hb7.mono (by (try simp only [World.size_alloc, World.size_drew]); omega))
          have z7 := B7.size
          clear hb7
          go_wp2_with fail
          refine (fault_any u _).mono ?_
          rintro q6 w6 ⟨rfl, rfl⟩
          rw [NF.out]
          go_wp2_with fail
          refine (fault_any u _).mono ?_
          rintro q6 w6 ⟨rfl, rfl⟩
          rw [FV.out]
          go_wp2_with fail
          all_goals
            refine (awakeB_any _).mono ?_
            rintro q9 w8 ⟨rfl, hb⟩
            have B8 : Bl w w8 := Below.trans (by go_grown) (hb.mono (by (try simp only [World.size_alloc, World.size_setCell, World.size_drew]); omega))
            go_wp2_with fail
            go_ret
            exact ⟨rfl, B8⟩
      · have K6 : (e.ki == 6) = false := by simp [k6]
        by_cases h3 : v = 0 ∨ v = 3 ∨ v = 1
        · obtain rfl : u = v := HU.out.2 h3
          clear h3
          go_wp2_with fail
          try simp only [Nat.zero_add]
          refine (ver_any M (some ⟨gg, 0, none⟩) (0 + 1) cap9 (snoc E 0 e) _ ((el_of_own own9z).below (by go_grown)) (by unfold maxLen; omega) (by omega) cp9.2.1).mono ?_
          rintro q7 w7 ⟨rfl, hb7⟩
          rw [HV9.out]
          have m0 := kcb hb7 (b := w.heap.size) (o := 0) (v := .int .i64 M.no) (by first | exact m0 | go_cell)
          have m1 := kcb hb7 (b := w.heap.size) (o := 1) (v := .int .i64 M.hf) (by first | exact m1 | go_cell)
          have m2 := kcb hb7 (b := w.heap.size) (o := 2) (v := .int .i64 M.fu) (by first | exact m2 | go_cell)
          have m3 := kcb hb7 (b := w.heap.size) (o := 3) (v := .int .i64 M.la) (by first | exact m3 | go_cell)
          have m4 := kcb hb7 (b := w.heap.size) (o := 4) (v := .int .i64 M.ag) (by first | exact m4 | go_cell)
          have m5 := kcb hb7 (b := w.heap.size) (o := 5) (v := .int .i64 M.wi) (by first | exact m5 | go_cell)
          have e0 := kcb hb7 (b := w.heap.size + 1) (o := 0) (v := .int .i64 e.t) (by first | exact e0 | go_cell)
          have e1 := kcb hb7 (b := w.heap.size + 1) (o := 1) (v := .int .i64 e.ki) (by first | exact e1 | go_cell)
          have e2 := kcb hb7 (b := w.heap.size + 1) (o := 2) (v := .int .i64 e.n) (by first | exact e2 | go_cell)
          have B7 : Bl w w7 := Below.trans (by go_grown) (hb7.mono (by (try simp only [World.size_alloc, World.size_drew]); omega))
          have z7 := B7.size
          clear hb7
          go_wp2_with fail
          all_goals
            refine (awakeB_any _).mono ?_
            rintro q9 w8 ⟨rfl, hb⟩
            have B8 : Bl w w8 := Below.trans (by go_grown) (hb.mono (by (try simp only [World.size_alloc, World.size_setCell, World.size_drew]); omega))
            go_wp2_with fail
            go_ret
            exact ⟨rfl, B8⟩
        · have w0' : (v != 0) = true := by simp; omega
          have w3' : (v != 3) = true := by simp; omega
          have w1' : (v != 1) = true := by simp; omega
          go_wp2_with fail
          try simp only [Nat.zero_add]
          refine (ver_any M (some ⟨gg, 0, none⟩) (0 + 1) cap9 (snoc E 0 e) _ ((el_of_own own9z).below (by go_grown)) (by unfold maxLen; omega) (by omega) cp9.2.1).mono ?_
          rintro q7 w7 ⟨rfl, hb7⟩
          rw [HV9.out]
          have m0 := kcb hb7 (b := w.heap.size) (o := 0) (v := .int .i64 M.no) (by first | exact m0 | go_cell)
          have m1 := kcb hb7 (b := w.heap.size) (o := 1) (v := .int .i64 M.hf) (by first | exact m1 | go_cell)
          have m2 := kcb hb7 (b := w.heap.size) (o := 2) (v := .int .i64 M.fu) (by first | exact m2 | go_cell)
          have m3 := kcb hb7 (b := w.heap.size) (o := 3) (v := .int .i64 M.la) (by first | exact m3 | go_cell)
          have m4 := kcb hb7 (b := w.heap.size) (o := 4) (v := .int .i64 M.ag) (by first | exact m4 | go_cell)
          have m5 := kcb hb7 (b := w.heap.size) (o := 5) (v := .int .i64 M.wi) (by first | exact m5 | go_cell)
          have e0 := kcb hb7 (b := w.heap.size + 1) (o := 0) (v := .int .i64 e.t) (by first | exact e0 | go_cell)
          have e1 := kcb hb7 (b := w.heap.size + 1) (o := 1) (v := .int .i64 e.ki) (by first | exact e1 | go_cell)
          have e2 := kcb hb7 (b := w.heap.size + 1) (o := 2) (v := .int .i64 e.n) (by first | exact e2 | go_cell)
          have B7 : Bl w w7 := Below.trans (by go_grown) (hb7.mono (by (try simp only [World.size_alloc, World.size_drew]); omega))
          have z7 := B7.size
          clear hb7
          go_wp2_with fail
          all_goals
            refine (awakeB_any _).mono ?_
            rintro q9 w8 ⟨rfl, hb⟩
            have B8 : Bl w w8 := Below.trans (by go_grown) (hb.mono (by (try simp only [World.size_alloc, World.size_setCell, World.size_drew]); omega))
            go_wp2_with fail
            go_ret
            exact ⟨rfl, B8⟩
    · have HV9 := Lib.hid (show verR M (snoc E 0 e) (0 + 1) = (0, f) by exact HV1.out hz)
      have hz2 : (f != 0) = true := by simp [hz]
      go_wp2_with fail
      try simp only [Nat.zero_add]
      refine (ver_any M (some ⟨gg, 0, none⟩) (0 + 1) cap9 (snoc E 0 e) _ ((el_of_own own9z).below (by go_grown)) (by unfold maxLen; omega) (by omega) cp9.2.1).mono ?_
      rintro q7 w7 ⟨rfl, hb7⟩
      rw [HV9.out]
      have m0 := kcb hb7 (b := w.heap.size) (o := 0) (v := .int .i64 M.no) (by first | exact m0 | go_cell)
      have m1 := kcb hb7 (b := w.heap.size) (o := 1) (v := .int .i64 M.hf) (by first | exact m1 | go_cell)
      have m2 := kcb hb7 (b := w.heap.size) (o := 2) (v := .int .i64 M.fu) (by first | exact m2 | go_cell)
      have m3 := kcb hb7 (b := w.heap.size) (o := 3) (v := .int .i64 M.la) (by first | exact m3 | go_cell)
      have m4 := kcb hb7 (b := w.heap.size) (o := 4) (v := .int .i64 M.ag) (by first | exact m4 | go_cell)
      have m5 := kcb hb7 (b := w.heap.size) (o := 5) (v := .int .i64 M.wi) (by first | exact m5 | go_cell)
      have e0 := kcb hb7 (b := w.heap.size + 1) (o := 0) (v := .int .i64 e.t) (by first | exact e0 | go_cell)
      have e1 := kcb hb7 (b := w.heap.size + 1) (o := 1) (v := .int .i64 e.ki) (by first | exact e1 | go_cell)
      have e2 := kcb hb7 (b := w.heap.size + 1) (o := 2) (v := .int .i64 e.n) (by first | exact e2 | go_cell)
      have B7 : Bl w w7 := Below.trans (by go_grown) (hb7.mono (by (try simp only [World.size_alloc, World.size_drew]); omega))
      have z7 := B7.size
      clear hb7
      go_wp2_with fail
      refine (awakeB_any _).mono ?_
      rintro q9 w8 ⟨rfl, hb⟩
      have B8 : Bl w w8 := Below.trans (by go_grown) (hb.mono (by (try simp only [World.size_alloc, World.size_setCell, World.size_drew]); omega))
      go_wp2_with fail
      go_ret
      exact ⟨rfl, B8⟩
end Go.Proofs.Ytaebclepdobbaaa
