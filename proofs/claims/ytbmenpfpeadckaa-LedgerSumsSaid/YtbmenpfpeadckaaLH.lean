/-
  Contracts of package ledger: Corrections.
-/
import Derived.Test.YtbmenpfpeadckaaLE
import Derived.Test.YtbmenpfpeadckaaLG
namespace Go.Proofs.Ytbmenpfpeadckaa
open Go.RowKit Go.Maps
set_option linter.unusedSimpArgs false
set_option linter.unusedVariables false

/-- What Corrections returns. -/
def CorPost (L : Nat → En) (n : Nat) (w : World) (e : Ending) (w' : World) : Prop :=
  Bl w w' ∧ ((vlB L n = false ∧ e = .returned (.tuple #[.slice none 0 0, .int .i64 1])) ∨ (vlB L n = true ∧ ∃ v, e = .returned (.tuple #[v, .int .i64 0]) ∧ IsL w' w.heap.size v (corF L n)))
set_option maxRecDepth 100000 in
set_option maxHeartbeats 6400000 in
theorem corrections_any (A : Option Addr) (n c : Nat) (L : Nat → En) (w : World) (hA : El w A n L) (hn : n ≤ maxLen) :
    Calls Try.prog 54 #[.slice A n c] w (CorPost L n w) := by
  obtain ⟨i0, hi0, hz0, hz1, hz2⟩ := info_parts6N int_infoN
  have HI := Lib.hid (And.intro hi0 (And.intro hz0 (And.intro hz1 hz2)))
  clear hi0 hz0 hz1 hz2
  have HV := Lib.hid (fun (X : World) (hb : Bl w X) => validE_any A n c L X (hA.below hb) hn)
  have HA := Lib.hid hA
  clear hA
  unfold maxLen at hn
  cases hv : vlB L n with
  | false =>
    have HR := Lib.hid hv
    clear hv
    go_enter Try.func54, Try.ntmps54
    go_wp2_with fail
    refine (HV.out _ (by first | exact Bl.rf _ | go_grown)).mono ?_
    rintro e1 w1 ⟨rfl, hb⟩
    rw [HR.out]
    go_wp2_with fail
    go_ret2
    exact ⟨hb, .inl ⟨HR.out, rfl⟩⟩
  | true =>
    have HR := Lib.hid hv
    have HE := Lib.hid (vl_iff.1 hv)
    have h1000 := HE.out.1
    clear hv
    have hmm := @run_makeMap Try.prog
    go_enter Try.func54, Try.ntmps54
    go_wp2_with fail
    refine (HV.out _ (by first | exact Bl.rf _ | go_grown)).mono ?_
    rintro e1 w1 ⟨rfl, hb⟩
    have HB1 := Lib.hid hb
    have zb := hb.size
    rw [HR.out]
    clear hb
    go_wp2_with fail
    obtain ⟨B, hB⟩ : ∃ B, B = w1.heap.size := ⟨_, rfl⟩
    have HM0 := Lib.hid (Rec.made w1)
    rw [← hB]
    rw [← hB] at HM0
    have HBB := Lib.hid hB
    clear hB
    have HW2 := Lib.hid (show Bl w (w1.alloc (.map #[] 0)) from HB1.out.tr (by go_grown))
    have hlB : B < (w1.alloc (.map #[] 0)).heap.size := HM0.out.lt
    have NV0 := Lib.hid (show World.ownsRow (w1.alloc (.map #[] 0)) (B + 1) 3 1 (.slice none 0 0) 0 [] from World.ownsRow_nil _ _ _ _)
    obtain ⟨w2, hw2⟩ : ∃ w2, w2 = w1.alloc (.map #[] 0) := ⟨_, rfl⟩
    rw [← hw2] at HM0 HW2 hlB NV0
    rw [← hw2]
    clear hw2
    go_loopw [4, 14] (fun v i wr => ∃ (k : Nat) (sv : Value), sv = v ∧ k ≤ n ∧ i = .int .i64 k ∧ Hid (Rec wr B k (fun d f => lst L d f k)) ∧ Hid (wr.ownsRow (B + 1) 3 1 v (corF L k).length (intL (corF L k))) ∧ Hid (Bl w wr) ∧ B < wr.heap.size) (fun _ i _ => n - (RowKit.intOf i).toNat)
    case atStart => exact ⟨0, _, rfl, Nat.zero_le _, rfl, HM0.out, NV0.out, HW2.out, hlB⟩
    case round =>
      obtain ⟨k, sv, rfl, hk, rfl, HM, HO, HB, hlr⟩ := hrel
      have zr := HB.out.size
      have len := cor_len L k
      by_cases hlt : k < n
      · obtain ⟨b', off, rfl, hbb, hc⟩ := (HA.out.below HB.out) (by omega)
        obtain ⟨c0, c1, c2⟩ := hc k hlt
        clear hc
        have HEK := Lib.hid (en_iff.1 (HE.out.2 k hlt))
        have HST := Lib.hid (lst_step L k)
        have HYE := Lib.hid (fun (q : (lst L (L k).day (L k).fo k).isSome = true) => (show corF L (k + 1) = corF L k ++ [(k : Int)] by rw [corF, if_pos q]))
        have HNO := Lib.hid (fun (q : (lst L (L k).day (L k).fo k).isSome = false) => (show corF L (k + 1) = corF L k by rw [corF, if_neg (by rw [q]; decide)]))
        obtain ⟨y, hy⟩ : ∃ y, y = L k := ⟨_, rfl⟩
        rw [← hy] at c0 c1 c2 HEK HST HYE HNO
        clear hy
        have hrd : rng y.day := by unfold rng; have := HEK.out; omega
        go_wp2_with fail
        refine (slotOf_any y _).mono ?_
        rintro e2 v2 ⟨rfl, hb⟩
        have x0 := kcb hb (b := wr.heap.size) (o := 0) (v := .int .i64 y.day) (by go_cell)
        have x1 := kcb hb (b := wr.heap.size) (o := 1) (v := .bool y.fo) (by go_cell)
        have x2 := kcb hb (b := wr.heap.size) (o := 2) (v := .int .i64 y.er) (by go_cell)
        have X1 : Bl wr v2 := Bl.tr (by go_grown) hb
        clear hb
        go_wp2_with fail
        refine (has_any B k _ y.day y.fo _ (HM.out.below X1) hrd).mono ?_
        rintro e3 v3 ⟨rfl, hb⟩
        have x0 := kcb hb x0
        have x1 := kcb hb x1
        have x2 := kcb hb x2
        have lx := ltb x0
        have X2 := Lib.hid (X1.tr hb)
        have z2 := X2.out.size
        have HM3 := Lib.hid (HM.out.below X2.out)
        have HO3 := Lib.hid (own_bN HO.out X2.out)
        have HB3 := Lib.hid (HB.out.tr X2.out)
        clear hb X1
        cases q : (lst L y.day y.fo k).isSome with
        | true =>
          have HL := Lib.hid (HYE.out q)
          clear q
          have hnew := Lib.hid (heap_alloc_new v3 (.cells #[.int .i64 (k : Int)] 3))
          go_wp2_with (at_builtin; refine wpList_append_lies _ rfl _ _ _ rfl (B + 1) 3 i0 _ 1 8 Try.underlying24 HI.out.1 HI.out.2.1 HI.out.2.2.1 HI.out.2.2.2 rfl (by omega) _ (corF L k).length (intL (corF L k)) rfl (HO3.out.alloc _) ⟨v3.heap.size, 0, none⟩ 1 1 [.int .i64 (k : Int)] rfl rfl (World.news_of_block hnew.out) (by simp [Value.oneCell']) (by omega) (by unfold maxLen; omega) (by omega) (by (try simp only [World.size_alloc]); omega) _ rfl ?_; intro gg cap w9 hown1 hgrow hat hlt9)
          have HO9 := Lib.hid (show w9.ownsRow (B + 1) 3 1 (.slice (some ⟨gg, 0, none⟩) ((corF L k).length + 1) cap) (corF L (k + 1)).length (intL (corF L (k + 1))) by
            rw [HL.out, intL_snoc, List.length_append, List.length_singleton]; exact hown1)
          have hl := HO3.out.lt
          have B9 := Lib.hid (show Bl w w9 from Below.grown (w := v3.alloc (.cells #[.int .i64 (k : Int)] 3)) (HB3.out.tr (by go_grown)) hgrow (by (try simp only [World.size_alloc]); omega) (fun j hj => by have := (hl j hj).1; have := HBB.out; have := HB1.out.size; omega))
          have HM9 := Lib.hid (show Rec w9 B k (fun d f => lst L d f k) from (HM3.out.below (w' := v3.alloc (.cells #[.int .i64 (k : Int)] 3)) (by go_grown)).kept hgrow (by intro e; have := (hl B e.symm).1; omega))
          have z9 := hgrow.size
          simp only [World.size_alloc] at z9
          have fx : ∀ o v, v3.cell? ⟨wr.heap.size, o, none⟩ = some v → w9.cell? ⟨wr.heap.size, o, none⟩ = some v := fun o v h => (hgrow.cell_far ⟨wr.heap.size, o, none⟩ (by (try simp only [World.size_alloc]); exact Nat.lt_succ_of_lt (ltb h)) (by
            intro e; exact Nat.lt_irrefl _ (HO.out.lt _ e.symm).2)).trans (cellUp h)
          have x0 := fx _ _ x0
          have x1 := fx _ _ x1
          have x2 := fx _ _ x2
          have lx := ltb x0
          clear hown1 hgrow hat fx
          go_wp2_with fail
          go_region_law (go_simp; go_at_call 94; refine (slotOf_any y _).mono ?_; rintro e9 v9 ⟨rfl, hb9⟩; have hb8 : Bl w9 v9 := Bl.tr (bl_dr _) hb9; have y2 := kcb hb8 x2; obtain ⟨w5, hrun, hown5, hg5⟩ := (HM9.out.below hb8).run_put (d := y.day) (f := y.fo) (v := y.er) (by unfold maxLen; omega) (by unfold rng; have := HEK.out; omega) (by unfold rng; have := HEK.out; omega); have HM5 := Lib.hid (hown5.congr (HST.out)); have HB8 := Lib.hid hb8; have HG5 := Lib.hid hg5; have l9 := ltb y2; clear hown5 hg5 hb8)
          all_goals
            have HB5 := Lib.hid (show Bl w w5 from Below.grown (B9.out.tr HB8.out) HG5.out (by have := HBB.out; have := HB1.out.size; omega) (fun j hj => by cases hj; have := HBB.out; have := HB1.out.size; omega))
            have z5 := HG5.out.size
            have z8 := HB8.out.size
            have HO5 := Lib.hid (show w5.ownsRow (B + 1) 3 1 (.slice (some ⟨gg, 0, none⟩) ((corF L k).length + 1) cap) (corF L (k + 1)).length (intL (corF L (k + 1))) from World.ownsRow.kept (own_bN HO9.out HB8.out) HG5.out (by
              have hl := (own_bN HO9.out HB8.out).lt
              cases hv : Value.ownBlock (.slice (some ⟨gg, 0, none⟩) ((corF L k).length + 1) cap) with
              | none => exact .inl rfl
              | some j => exact .inr (by intro q; have := (hl j hv).1; cases q; omega)))
            go_wp2_with fail
            go_roundw
            case rel => exact ⟨k + 1, _, rfl, by omega, by go_num, HM5.out, HO5.out, HB5.out, by omega⟩
            case measure => simp [RowKit.intOf]; omega
        | false =>
          have HL := Lib.hid (HNO.out q)
          clear q
          have HO4 := Lib.hid (show v3.ownsRow (B + 1) 3 1 sv (corF L (k + 1)).length (intL (corF L (k + 1))) by rw [HL.out]; exact HO3.out)
          go_wp2_with fail
          go_region_law (go_simp; go_at_call 94; refine (slotOf_any y _).mono ?_; rintro e9 v9 ⟨rfl, hb9⟩; have hb8 : Bl v3 v9 := Bl.tr (bl_dr _) hb9; have y2 := kcb hb8 x2; obtain ⟨w5, hrun, hown5, hg5⟩ := (HM3.out.below hb8).run_put (d := y.day) (f := y.fo) (v := y.er) (by unfold maxLen; omega) (by unfold rng; have := HEK.out; omega) (by unfold rng; have := HEK.out; omega); have HM5 := Lib.hid (hown5.congr (HST.out)); have HB8 := Lib.hid hb8; have HG5 := Lib.hid hg5; have l9 := ltb y2; clear hown5 hg5 hb8)
          all_goals
            have HB5 := Lib.hid (show Bl w w5 from Below.grown (HB3.out.tr HB8.out) HG5.out (by have := HBB.out; have := HB1.out.size; omega) (fun j hj => by cases hj; have := HBB.out; have := HB1.out.size; omega))
            have z5 := HG5.out.size
            have z8 := HB8.out.size
            have HO5 := Lib.hid (show w5.ownsRow (B + 1) 3 1 sv (corF L (k + 1)).length (intL (corF L (k + 1))) from World.ownsRow.kept (own_bN HO4.out HB8.out) HG5.out (by
              have hl := (own_bN HO4.out HB8.out).lt
              cases hv : Value.ownBlock sv with
              | none => exact .inl rfl
              | some j => exact .inr (by intro q; have := (hl j hv).1; cases q; omega)))
            go_wp2_with fail
            go_roundw
            case rel => exact ⟨k + 1, _, rfl, by omega, by go_num, HM5.out, HO5.out, HB5.out, by omega⟩
            case measure => simp [RowKit.intOf]; omega
      · obtain rfl : k = n := by omega
        go_wp2_with fail
        go_ret2
        exact ⟨HB.out, .inr ⟨HR.out, _, rfl, (isL_of_own rfl HO.out).mono (by have := HBB.out; have := HB1.out.size; omega)⟩⟩
end Go.Proofs.Ytbmenpfpeadckaa
