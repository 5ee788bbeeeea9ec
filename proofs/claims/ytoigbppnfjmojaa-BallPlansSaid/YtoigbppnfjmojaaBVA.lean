/-
  Contracts of package ball and of its reference: the plan of the reference, the second log of both, two logs compared.
-/
import Derived.Test.YtoigbppnfjmojaaBP
import Derived.Deep.OwnRows
import Derived.Deep.AppendLies
import Derived.Laws.OwnMore
import Derived.Deep.RegionLaw
import Derived.Deep.DeepCutAuto
namespace Go.Proofs.Ytoigbppnfjmojaa
open Go.RowKit Go.Shelf
set_option linter.unusedSimpArgs false
set_option linter.unusedVariables false

theorem own_news {w : World} {base : Nat} {e : TypeId} {size g n cap : Nat} {xs : List Value} (h : w.ownsRow base e size (.slice (some ⟨g, 0, none⟩) n cap) n xs) (hl : xs.length = n * size) : ∀ j u, xs[j]? = some u → w.cell? ((⟨g, 0, none⟩ : Addr).add j) = some u := fun j u hu => by
  have hadd : (⟨g, 0, none⟩ : Addr).add j = ⟨g, j, none⟩ := by unfold Addr.add; split <;> simp_all
  rw [hadd, h.cellAt j (by rw [← hl]; exact (List.getElem?_eq_some_iff.1 hu).1)]
  exact hu
theorem own_monoV {w : World} {base base' : Nat} {e : TypeId} {size : Nat} {v : Value} {n : Nat} {xs : List Value} (h : w.ownsRow base e size v n xs) (hb : base' ≤ base) : w.ownsRow base' e size v n xs := own_mono h hb
theorem MastAt.far {X Y : World} {b : Nat} {M : Mst} {row : Option Nat} (h : MastAt X b M) (hg : X.grownBy Y row) (hne : some b ≠ row) : MastAt Y b M := by
  have hl := ltb h.c0
  exact ⟨(hg.cell_far ⟨b, 0, none⟩ hl hne).trans h.c0, (hg.cell_far ⟨b, 1, none⟩ hl hne).trans h.c1, (hg.cell_far ⟨b, 2, none⟩ hl hne).trans h.c2, (hg.cell_far ⟨b, 3, none⟩ hl hne).trans h.c3, (hg.cell_far ⟨b, 4, none⟩ hl hne).trans h.c4, (hg.cell_far ⟨b, 5, none⟩ hl hne).trans h.c5⟩
theorem own_ne {X : World} {b base : Nat} {e : TypeId} {size g n cap : Nat} {xs : List Value} (h : X.ownsRow base e size (.slice (some ⟨g, 0, none⟩) n cap) n xs) (hb : b < base) : some b ≠ (Value.slice (some ⟨g, 0, none⟩) n cap).ownBlock := by
  have := own_cap h
  simp only [Value.ownBlock, ne_eq, Option.some.injEq]
  omega
theorem own_row {X : World} {N base : Nat} {e : TypeId} {size g n cap : Nat} {xs : List Value} (h : X.ownsRow base e size (.slice (some ⟨g, 0, none⟩) n cap) n xs) (hb : N ≤ base) : ∀ k, (Value.slice (some ⟨g, 0, none⟩) n cap).ownBlock = some k → N ≤ k := fun k e => by
  have := own_cap h
  have e' : g = k := Option.some.inj e
  omega
/-- What Second returns. -/
def SecPost (M : Mst) (w : World) (e : Ending) (w' : World) : Prop :=
  Bl w w' ∧ ((VM M ∧ ∃ g cap, e = .returned (.tuple #[.slice (some ⟨g, 0, none⟩) 7 cap, .int .i64 0]) ∧ w'.ownsRow (w.heap.size + 1) 42 3 (.slice (some ⟨g, 0, none⟩) 7 cap) 7 (evC (secE M) 7)) ∨
    (¬ VM M ∧ e = .returned (.tuple #[.slice none 0 0, .int .i64 1])))
/-- The first k events of the second log lie where a slice says, and the mast lies as it lay. -/
def CS (w : World) (M : Mst) (k : Nat) (v : Value) (X : World) : Prop := Bl w X ∧ MastAt X w.heap.size M ∧ ∃ g cap, v = .slice (some ⟨g, 0, none⟩) k cap ∧ X.ownsRow (w.heap.size + 1) 42 3 (.slice (some ⟨g, 0, none⟩) k cap) k (evC (secE M) k)
theorem secC4 (M : Mst) : evC (secE M) 4 = [.int .i64 (M.no - M.hf), .int .i64 2, .int .i64 0, .int .i64 (M.no - M.fu), .int .i64 3, .int .i64 0] ++ [.int .i64 M.no, .int .i64 5, .int .i64 0, .int .i64 M.no, .int .i64 6, .int .i64 0] := rfl
theorem secC6 (M : Mst) : evC (secE M) 6 = evC (secE M) 4 ++ [.int .i64 (M.no + M.ag - M.hf), .int .i64 2, .int .i64 0, .int .i64 (M.no + M.ag - M.fu), .int .i64 3, .int .i64 0] := rfl
theorem secC7 (M : Mst) : evC (secE M) 7 = evC (secE M) 6 ++ [.int .i64 (M.no + M.ag), .int .i64 4, .int .i64 0] := rfl
theorem secC7' (M : Mst) : evC (secE M) 7 = ((evC (planE M) 3).set 7 (.int .i64 5) ++ [.int .i64 M.no, .int .i64 6, .int .i64 0]) ++ [.int .i64 (M.no + M.ag - M.hf), .int .i64 2, .int .i64 0, .int .i64 (M.no + M.ag - M.fu), .int .i64 3, .int .i64 0, .int .i64 (M.no + M.ag), .int .i64 4, .int .i64 0] := rfl

set_option maxRecDepth 100000 in
set_option maxHeartbeats 6400000 in
theorem second_any (M : Mst) (w : World) : Calls Try.prog 7 #[encM M] w (SecPost M w) := by
  obtain ⟨i0, hi0, hz0, hz1, hz2⟩ := info_parts event_info
  have HI := Lib.hid (And.intro hi0 (And.intro hz0 (And.intro hz1 hz2)))
  clear hi0 hz0 hz1 hz2
  by_cases hM : VM M
  · have Q := Lib.hid (show decide (VM M) = true from decide_eq_true hM)
    have HM := Lib.hid hM
    have vno0 := hM.no0
    have vno1 := hM.no1
    have vfu0 := hM.fu0
    have vhf0 := hM.hf0
    have vhf1 := hM.hf1
    have vag0 := hM.ag0
    have vag1 := hM.ag1
    clear hM
    go_enter Try.func7, Try.ntmps7
    go_wp2_with fail
    refine (validMast_any M _).mono ?_
    rintro e1 w1 ⟨rfl, hb⟩
    have m0 := kcb hb (b := w.heap.size) (o := 0) (v := .int .i64 M.no) (by go_cell)
    have m1 := kcb hb (b := w.heap.size) (o := 1) (v := .int .i64 M.hf) (by go_cell)
    have m2 := kcb hb (b := w.heap.size) (o := 2) (v := .int .i64 M.fu) (by go_cell)
    have m3 := kcb hb (b := w.heap.size) (o := 3) (v := .int .i64 M.la) (by go_cell)
    have m4 := kcb hb (b := w.heap.size) (o := 4) (v := .int .i64 M.ag) (by go_cell)
    have m5 := kcb hb (b := w.heap.size) (o := 5) (v := .int .i64 M.wi) (by go_cell)
    have B1 : Bl w w1 := Below.trans (by go_grown) (hb.mono (by (try simp only [World.size_alloc]); omega))
    have l1 := ltb m0
    have HM1 := Lib.hid (show MastAt w1 w.heap.size M from ⟨m0, m1, m2, m3, m4, m5⟩)
    clear hb
    rw [Q.out]
    go_wp2_with fail
    go_cut [4] (fun cv wx => CS w M 4 cv wx)
    case first =>
      go_region_law (first
        | (go_simp; go_at_call 19; refine (raising_any M M.no (w.heap.size + 1) _ (by omega) (by omega) (by omega) (by omega) (by simp; omega)).mono ?_; rintro e9 v1 ⟨g1, rfl, own1, hb1⟩; have z1 := hb1.size; have m0 := kcb hb1 (b := w.heap.size) (o := 0) (v := .int .i64 M.no) (by go_cell); have BV := B1.tr (show Bl w1 v1 from Bl.tr (by go_grown) hb1); have zV := BV.size; have HV1 := Lib.hid (HM1.out.below (show Bl w1 v1 from Bl.tr (by go_grown) hb1)))
        | (refine step_append_lies _ (by rfl) _ _ _ (by rfl) (w.heap.size + 1) 42 i0 _ 3 24 Try.underlying24 HI.out.1 HI.out.2.1 HI.out.2.2.1 HI.out.2.2.2 rfl (by omega) _ 2 _ (by rfl) (own1.alloc _) ⟨v1.heap.size, 0, none⟩ 2 2 [.int .i64 M.no, .int .i64 5, .int .i64 0, .int .i64 M.no, .int .i64 6, .int .i64 0] (by rfl) (by rfl) (World.news_of_block (cs := #[.int .i64 M.no, .int .i64 5, .int .i64 0, .int .i64 M.no, .int .i64 6, .int .i64 0]) (t := 42) (fr := (0, 0)) (heap_alloc_new v1 _)) (by simp [Value.oneCell']) (by omega) (by unfold maxLen; omega) (by omega) (by have := own_cap own1; (try simp only [World.size_alloc, World.size_drew]); omega) _ rfl ?_; intro gg cap w9 hown1 hgrow hat hlt9; have BW9 : Bl w w9 := grown_bl (h := by go_grown) (hg := hgrow) (hrow := fun k e => by have := own_cap own1; simp only [Value.ownBlock] at e; cases e; omega); have HM9 := Lib.hid ((HV1.out.below (show Bl v1 _ from by go_grown)).far hgrow (own_ne own1 (by omega))))
        | (refine step_append_lies _ (by rfl) _ _ _ (by rfl) (w.heap.size + 1) 42 i0 _ 3 24 Try.underlying24 HI.out.1 HI.out.2.1 HI.out.2.2.1 HI.out.2.2.2 rfl (by omega) _ 2 _ (by rfl) own1 ⟨w1.heap.size, 0, none⟩ 2 2 [.int .i64 M.no, .int .i64 5, .int .i64 0, .int .i64 M.no, .int .i64 6, .int .i64 0] (by rfl) (by rfl) (World.news_of_block (cs := #[.int .i64 M.no, .int .i64 5, .int .i64 0, .int .i64 M.no, .int .i64 6, .int .i64 0]) (t := 42) (fr := (0, 0)) ((hb1.block _ (by simp)).trans (heap_alloc_new w1.drew _))) (by simp [Value.oneCell']) (by omega) (by unfold maxLen; omega) (by omega) (by have := own_cap own1; (try simp only [World.size_alloc, World.size_drew]); omega) _ rfl ?_; intro gg cap w9 hown1 hgrow hat hlt9; have BW9 : Bl w w9 := grown_bl (h := by go_grown) (hg := hgrow) (hrow := fun k e => by have := own_cap own1; simp only [Value.ownBlock] at e; cases e; omega); have HM9 := Lib.hid (HV1.out.far hgrow (own_ne own1 (by omega)))))
      all_goals
        go_wp2_with fail
        go_meet
        exact ⟨BW9, HM9.out, gg, cap, rfl, by rw [secC4]; exact hown1⟩
    case rest =>
      obtain ⟨HB9', HM9', gg, cap, rfl, hown9⟩ := hcut
      obtain ⟨w9, hw9⟩ : ∃ w9, w9 = wc := ⟨_, rfl⟩
      subst hw9
      have HB9 := Lib.hid HB9'
      have HM9 := Lib.hid HM9'
      have OW9 := Lib.hid hown9
      have cp9 := own_cap hown9
      have HCP9 := Lib.hid cp9.2.1
      obtain ⟨cp91, _, cp93, cp94⟩ := cp9
      have zw9 := HB9'.size
      clear m0 m1 m2 m3 m4 m5
      obtain ⟨m0, m1, m2, m3, m4, m5⟩ := HM9'
      clear hown9 HB9'
      go_wp2_with fail
      go_cut [4] (fun cv wx => CS w M 6 cv wx)
      case first =>
        go_region_law (first
          | (go_simp; go_at_call 20; refine (again_any M _ (by omega) (by omega)).mono ?_; rintro e8 u1 ⟨rfl, ha1⟩; have HX1 := Lib.hid (show Bl w9 u1 from Bl.tr (by go_grown) ha1); have owna := Lib.hid (own_b OW9.out HX1.out); have za1 := HX1.out.size; obtain ⟨m0, m1, m2, m3, m4, m5⟩ := HM9.out.below HX1.out)
          | (go_simp; go_at_call 19; refine (raising_any M (M.no + M.ag) w9.heap.size _ (by omega) (by omega) (by omega) (by omega) (by (try simp only [World.size_alloc, World.size_drew]); omega)).mono ?_; rintro e7 u2 ⟨g2, rfl, own2, hb2⟩; have ownb := Lib.hid (own_b owna.out hb2); have cp2 := own_cap own2; have HX2 := Lib.hid (Bl.tr HX1.out hb2); have zb2 := hb2.size)
          | (refine step_append_lies _ (by rfl) _ _ _ (by rfl) (w.heap.size + 1) 42 i0 _ 3 24 Try.underlying24 HI.out.1 HI.out.2.1 HI.out.2.2.1 HI.out.2.2.2 rfl (by omega) _ 4 _ (by rfl) ownb.out ⟨g2, 0, none⟩ 2 2 [.int .i64 (M.no + M.ag - M.hf), .int .i64 2, .int .i64 0, .int .i64 (M.no + M.ag - M.fu), .int .i64 3, .int .i64 0] (by rfl) (by rfl) (own_news own2 rfl) (by simp [Value.oneCell']) (by omega) (by unfold maxLen; omega) (by omega) (by omega) _ rfl ?_; intro gh cap6 v9 hown6 hgrow6 hat6 hlt6; have HB6 := Lib.hid (grown_bl (h := Bl.tr HB9.out HX2.out) (hg := hgrow6) (hrow := own_row ownb.out (by omega))); have HM6 := Lib.hid ((HM9.out.below HX2.out).far hgrow6 (own_ne ownb.out (by omega)))))
        all_goals
          go_wp2_with fail
          go_meet
          exact ⟨HB6.out, HM6.out, gh, cap6, rfl, by rw [secC6]; exact hown6⟩
      case rest =>
        obtain ⟨HB6', HM6', gh, cap6, rfl, hown6⟩ := hcut
        obtain ⟨v9, hv9⟩ : ∃ v9, v9 = wc := ⟨_, rfl⟩
        subst hv9
        have HB6 := Lib.hid HB6'
        have HM6 := Lib.hid HM6'
        have OW6 := Lib.hid hown6
        have cp6 := own_cap hown6
        have HCP6 := Lib.hid cp6.2.1
        obtain ⟨cp61, _, cp63, cp64⟩ := cp6
        have zw6 := HB6'.size
        clear m0 m1 m2 m3 m4 m5
        obtain ⟨m0, m1, m2, m3, m4, m5⟩ := HM6'
        clear hown6 HB6'
        go_wp2_with fail
        refine (again_any M _ (by omega) (by omega)).mono ?_
        rintro e6 u3 ⟨rfl, hb3⟩
        have HX3 := Lib.hid hb3
        have own3 := Lib.hid (own_b OW6.out hb3)
        have zb3 := hb3.size
        clear hb3
        have hnew := Lib.hid (heap_alloc_new u3 (.cells #[.int .i64 (M.no + M.ag), .int .i64 4, .int .i64 0] 42))
        go_wp2_with (at_builtin; refine wpList_append_lies _ rfl _ _ _ rfl (w.heap.size + 1) 42 i0 _ 3 24 Try.underlying24 HI.out.1 HI.out.2.1 HI.out.2.2.1 HI.out.2.2.2 rfl (by omega) _ 6 _ rfl (own3.out.alloc _) ⟨u3.heap.size, 0, none⟩ 1 1 [.int .i64 (M.no + M.ag), .int .i64 4, .int .i64 0] rfl rfl (World.news_of_block hnew.out) (by simp [Value.oneCell']) (by omega) (by unfold maxLen; omega) (by omega) (by (try simp only [World.size_alloc]); omega) _ rfl ?_; intro gi cap7 v7 hown7 hgrow7 hat7 hlt7; have HB7 := Lib.hid (grown_bl (h := Bl.tr (Bl.tr HB6.out HX3.out) (by go_grown)) (hg := hgrow7) (hrow := own_row own3.out (by omega))))
        go_ret2
        exact ⟨HB7.out, .inl ⟨HM.out, gi, cap7, rfl, by rw [secC7]; exact hown7⟩⟩
  · have Q := Lib.hid (show decide (VM M) = false from decide_eq_false hM)
    have HM := Lib.hid hM
    clear hM
    go_enter Try.func7, Try.ntmps7
    go_wp2_with fail
    refine (validMast_any M _).mono ?_
    rintro e1 w1 ⟨rfl, hb⟩
    have B1 : Bl w w1 := Below.trans (by go_grown) (hb.mono (by (try simp only [World.size_alloc]); omega))
    clear hb
    rw [Q.out]
    go_wp2_with fail
    go_ret2
    exact ⟨B1, .inr ⟨HM.out, rfl⟩⟩
end Go.Proofs.Ytoigbppnfjmojaa
