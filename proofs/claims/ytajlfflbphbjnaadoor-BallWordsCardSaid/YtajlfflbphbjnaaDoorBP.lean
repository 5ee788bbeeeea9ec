/-
  The law's sanity check: the examples of the document.
-/
import Derived.Test.YtajlfflbphbjnaaDoorBO
namespace Go.Proofs.YtajlfflbphbjnaaDoor
open Go.RowKit Go.Shelf
set_option linter.unusedSimpArgs false
set_option linter.unusedVariables false

/-- The log of the example: the drop comes 201 milliseconds late; and a flag behind it. -/
def exE (j : Nat) : Evt := if j = 0 then ⟨42900000, 2, 0⟩ else if j = 1 then ⟨43080000, 3, 0⟩ else if j = 2 then ⟨43200201, 4, 0⟩ else ⟨43200201, 6, 0⟩
def exR (j : Nat) : Rly := if j = 0 then ⟨20, 5⟩ else ⟨35, 10⟩
theorem ex_ver3 : verR exM exE 3 = (2, 0) := by decide
theorem ex_ver4 : verR exM exE 4 = (1, 0) := by decide
theorem ex_lag : lagR exR 2 = (40, 70, 0) := by decide
theorem exP : evC (planE exM) 3 = [.int .i64 42900000, .int .i64 2, .int .i64 0, .int .i64 43080000, .int .i64 3, .int .i64 0, .int .i64 43200000, .int .i64 4, .int .i64 0] := rfl
theorem exC3 : evC exE 3 = ([.int .i64 42900000, .int .i64 2, .int .i64 0, .int .i64 43080000, .int .i64 3, .int .i64 0, .int .i64 43200000, .int .i64 4, .int .i64 0] : List Value).set 6 (.int .i64 43200201) := rfl
theorem exC4 : evC exE 4 = evC exE 3 ++ [.int .i64 43200201, .int .i64 6, .int .i64 0] := rfl
theorem own_mono {w : World} {base base' : Nat} {e : TypeId} {size : Nat} {v : Value} {n : Nat} {xs : List Value} (h : w.ownsRow base e size v n xs) (hb : base' ≤ base) : w.ownsRow base' e size v n xs := by
  obtain ⟨h1, h2 | ⟨g, cap, cur, e1, e2, rest⟩⟩ := h
  · exact ⟨h1, .inl h2⟩
  · exact ⟨h1, .inr ⟨g, cap, cur, e1, Nat.le_trans hb e2, rest⟩⟩

set_option maxRecDepth 100000 in
set_option maxHeartbeats 3200000 in
theorem awakeB_any (w : World) : Calls Tryd.prog 4 #[] w fun e w' => e = .returned (.bool true) ∧ Bl w w' := by
  obtain ⟨i0, hi0, hz0, hz1, hz2⟩ := info_parts event_info
  have HI := Lib.hid (And.intro hi0 (And.intro hz0 (And.intro hz1 hz2)))
  clear hi0 hz0 hz1 hz2
  go_enter Tryd.func4, Tryd.ntmps4
  go_wp2_with fail
  refine (mast_any _).mono ?_
  rintro e0 w0 ⟨rfl, hb0⟩
  go_wp2_with fail
  refine (plan_any exM _).mono ?_
  rintro e1 w1 ⟨hb1, ⟨_, g, cap, rfl, own⟩ | ⟨h, _⟩⟩
  rotate_left
  · exact absurd exM_ok h
  have own := own_mono own (show w.heap.size + 1 ≤ w0.heap.size + 1 by have := hb0.size; omega)
  have B1 : Bl w w1 := hb0.tr hb1
  have z1 := B1.size
  clear hb0 hb1
  rw [exP] at own
  have c6 := own.cellAt 6 (by omega)
  simp only [List.getElem?_cons_succ, List.getElem?_cons_zero] at c6
  have f6 := own.frozenAt 6
  have cp := own_cap own
  obtain ⟨cp1, cp2, cp3, cp4⟩ := cp
  have HCP := Lib.hid cp2
  unfold maxLen at cp2
  go_wp2_with fail
  refine (mast_any _).mono ?_
  rintro e2 w2 ⟨rfl, hb2⟩
  have own2 := own_b (own.stored 6 (.int .i64 43200201)).1 hb2
  rw [← exC3] at own2
  have B2 : Bl w w2 := Below.trans (by go_grown) (hb2.mono (by (try simp only [World.size_setCell]); omega))
  have z2 := B2.size
  clear hb2 own c6 f6
  go_wp2_with fail
  refine (ver_any exM (some ⟨g, 0, none⟩) 3 cap exE _ (el_of_own own2) (by unfold maxLen; omega) cp1 HCP.out).mono ?_
  rintro e3 w3 ⟨rfl, hb3⟩
  rw [ex_ver3]
  have own3 := own_b own2 hb3
  have B3 : Bl w w3 := B2.tr hb3
  have z3 := B3.size
  have OW := Lib.hid own3
  have c6 := own3.cellAt 6 (by omega)
  rw [show (evC exE 3)[6]? = some (.int .i64 43200201) from rfl] at c6
  have lg := ltb c6
  clear hb3 own2 own3
  go_wp2_with fail
  go_region_law (first
    | (go_simp; go_at_call 12; refine (mast_any _).mono ?_; rintro e9 v1 ⟨rfl, hb1⟩; have own1 := (by first | exact own_b OW.out.drew hb1 | exact own_b (OW.out.drew.alloc _) hb1 : v1.ownsRow (w.heap.size + 1) 38 3 (.slice (some ⟨g, 0, none⟩) 3 cap) 3 (evC exE 3)); have z1 := hb1.size; have c6 := own1.cellAt 6 (by omega); rw [show (evC exE 3)[6]? = some (.int .i64 43200201) from rfl] at c6; have BV := B3.tr (show Bl w3 v1 from Bl.tr (by go_grown) hb1); have zV := BV.size)
    | (refine step_append_lies _ (by rfl) _ _ _ (by rfl) (w.heap.size + 1) 38 i0 _ 3 24 Tryd.underlying31 HI.out.1 HI.out.2.1 HI.out.2.2.1 HI.out.2.2.2 rfl (by omega) _ 3 _ (by rfl) (own1.alloc _) ⟨v1.heap.size, 0, none⟩ 1 1 [.int .i64 43200201, .int .i64 6, .int .i64 0] (by rfl) (by rfl) (World.news_of_block (cs := #[.int .i64 43200201, .int .i64 6, .int .i64 0]) (t := 38) (fr := (0, 0)) (heap_alloc_new v1 _)) (by simp [Value.oneCell']) (by omega) (by unfold maxLen; omega) (by omega) (by have := own_cap own1; (try simp only [World.size_alloc, World.size_drew]); omega) _ rfl ?_; intro gg cap9 w9 hown1 hgrow hat hlt9; have BW9 : Bl w w9 := grown_bl (h := by go_grown) (hg := hgrow) (hrow := fun k e => by have := own_cap own1; simp only [Value.ownBlock] at e; cases e; omega); have own9 := (show w9.ownsRow (w.heap.size + 1) 38 3 (.slice (some ⟨gg, 0, none⟩) 4 cap9) 4 (evC exE 4) by rw [exC4]; exact hown1); have cp9 := own_cap own9)
    | (refine step_append_lies _ (by rfl) _ _ _ (by rfl) (w.heap.size + 1) 38 i0 _ 3 24 Tryd.underlying31 HI.out.1 HI.out.2.1 HI.out.2.2.1 HI.out.2.2.2 rfl (by omega) _ 3 _ (by rfl) own1 ⟨w3.heap.size, 0, none⟩ 1 1 [.int .i64 43200201, .int .i64 6, .int .i64 0] (by rfl) (by rfl) (World.news_of_block (cs := #[.int .i64 43200201, .int .i64 6, .int .i64 0]) (t := 38) (fr := (0, 0)) ((hb1.block _ (by simp)).trans (heap_alloc_new w3.drew _))) (by simp [Value.oneCell']) (by omega) (by unfold maxLen; omega) (by omega) (by have := own_cap own1; (try simp only [World.size_alloc, World.size_drew]); omega) _ rfl ?_; intro gg cap9 w9 hown1 hgrow hat hlt9; have BW9 : Bl w w9 := grown_bl (h := by go_grown) (hg := hgrow) (hrow := fun k e => by have := own_cap own1; simp only [Value.ownBlock] at e; cases e; omega); have own9 := (show w9.ownsRow (w.heap.size + 1) 38 3 (.slice (some ⟨gg, 0, none⟩) 4 cap9) 4 (evC exE 4) by rw [exC4]; exact hown1); have cp9 := own_cap own9)
    | (go_simp; go_at_call 13; refine (ver_any exM (some ⟨gg, 0, none⟩) 4 cap9 exE _ (el_of_own own9) (by unfold maxLen; omega) cp9.1 cp9.2.1).mono ?_; rintro e9 v9 ⟨rfl, hb9⟩; rw [ex_ver4]; have B9 := BW9.tr hb9; have z9 := B9.size))
  all_goals
    go_wp2_with fail
    refine (lag_any (some ⟨v9.heap.size, 0, none⟩) 2 2 exR _ (fun _ => ⟨v9.heap.size, 0, rfl, by simp, fun j hj => by
      rcases (show j = 0 ∨ j = 1 by omega) with rfl | rfl
      · exact ⟨by show World.cell? _ _ = some (.int .i64 20); go_cell, by show World.cell? _ _ = some (.int .i64 5); go_cell⟩
      · exact ⟨by show World.cell? _ _ = some (.int .i64 35); go_cell, by show World.cell? _ _ = some (.int .i64 10); go_cell⟩⟩) (by unfold maxLen; omega)).mono ?_
    rintro e10 w10 ⟨rfl, hb10⟩
    rw [ex_lag]
    have B10 : Bl w w10 := Below.trans (by go_grown) (hb10.mono (by (try simp only [World.size_alloc]); omega))
    have z10 := B10.size
    go_wp2_with fail
    go_ret
    exact ⟨rfl, by go_grown⟩
end Go.Proofs.YtajlfflbphbjnaaDoor
