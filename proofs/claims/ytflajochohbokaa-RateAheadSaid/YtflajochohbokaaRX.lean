/-
  Leaps of package rate: the walk.
-/
import Derived.Test.YtflajochohbokaaRW
namespace Go.Proofs.Ytflajochohbokaa
open Go.RowKit Go.Shelf
set_option linter.unusedSimpArgs false
set_option linter.unusedVariables false
attribute [local go_sem] Oper.semAt_some

/-- What Leaps returns. -/
def LvPost (s : ByteArray) (n : Nat) (E : Nat → Int) (most : Int) (w : World) (e : Ending) (w' : World) : Prop :=
  Bl w w' ∧ ((vbB s n E = false ∧ LstNo 1 e) ∨ (vbB s n E = true ∧ most < 0 ∧ LstNo 7 e) ∨
    (vbB s n E = true ∧ 0 ≤ most ∧ ∃ v base, e = .returned (.tuple #[v, .int .i64 0]) ∧ w'.ownsRow base 3 1 v (lpL (stF (stF E)) most (n - 1 - 1)).length ((lpL (stF (stF E)) most (n - 1 - 1)).map (Value.int .i64))))
theorem st2_bd {E : Nat → Int} {n : Nat} (hE : dyTo E n = true) : bdI (stF (stF E)) (n - 1 - 1) := fun j hj => by
  have a := dyTo_at hE (k := j) (by omega)
  have b := dyTo_at hE (k := j + 1) (by omega)
  have c := dyTo_at hE (k := j + 1 + 1) (by omega)
  unfold stF
  omega
theorem st1_bd {E : Nat → Int} {n : Nat} (hE : dyTo E n = true) : bdI (stF E) (n - 1) := fun j hj => by
  have a := dyTo_at hE (k := j) (by omega)
  have b := dyTo_at hE (k := j + 1) (by omega)
  unfold stF
  omega
theorem kr_set {W : World} {lo hi B : Nat} (u : Value) (hB : B < lo) : KR lo hi W (W.setCell ⟨B, 0, none⟩ u) := fun b o h1 h2 =>
  World.cell?_of_block (Below.heap_setCell _ _ _ b (fun e => absurd h1 (by rw [e]; exact Nat.not_le.2 hB)))
theorem own_sr {w : World} {base : Nat} {e : TypeId} {A : Option Addr} {n cap hi : Nat} {f : Nat → Int} (h : w.ownsRow base e 1 (.slice A n cap) n (inC f n)) (hhi : w.heap.size ≤ hi) : Sr base hi w A n f := fun hn => by
  rcases h.2 with ⟨h', h0⟩ | ⟨g, cap', cur, h', hb, hg, _⟩
  · omega
  · simp only [Value.slice.injEq] at h'
    have hl := (Array.getElem?_eq_some_iff.1 hg).1
    refine ⟨g, 0, h'.1, hb, by omega, fun j hj => ?_⟩
    rw [Nat.zero_add]
    obtain ⟨A', cap'', e1, _, _, h2⟩ := sl_of_own h
    cases e1
    obtain ⟨b', off', e2, _, hc⟩ := h2 hn
    rw [h'.1] at e2
    cases e2
    have := hc j hj
    rwa [Nat.zero_add] at this

set_option maxRecDepth 100000 in
set_option maxHeartbeats 6400000 in
theorem leaps_any (s : ByteArray) (A : Option Addr) (n c : Nat) (E : Nat → Int) (most : Int) (w : World) (hs : s.size ≤ maxLen) (hA : Sl w A n E) (hn : n ≤ c) (hc : c ≤ maxLen) :
    Calls Try.prog 41 #[encB s A n c, .int .i64 most] w (LvPost s n E most w) := by
  obtain ⟨i0, hi, hz0, hz1, hz2⟩ := info_parts6 int_info
  have HA := Lib.hid hA
  have HS := Lib.hid hs
  have HC := Lib.hid hc
  have HN := Lib.hid (show n ≤ maxLen by omega)
  have HNC := Lib.hid hn
  clear hA hs
  unfold maxLen at hc
  by_cases hv : vbB s n E = true
  rotate_left
  · have HV := Lib.hid (show vbB s n E = false by simpa using hv)
    clear hv
    go_enter Try.func41, Try.ntmps41
    go_wp2_with fail
    refine (validBox_any s A n c E _ HS.out HN.out (HA.out.below (by go_grown))).mono ?_
    rintro q1 w1 ⟨rfl, hb⟩
    have x0 := kcb hb (b := w.heap.size) (o := 0) (v := .string s) (by first | assumption | (refine cellUp ?_; assumption) | go_cell)
    have x1 := kcb hb (b := w.heap.size) (o := 1) (v := .slice A n c) (by first | assumption | (refine cellUp ?_; assumption) | go_cell)
    have m0 := kcb hb (b := w.heap.size + 1) (o := 0) (v := .int .i64 most) (by first | assumption | (refine cellUp ?_; assumption) | go_cell)
    have B1 : Bl w w1 := Below.trans (by go_grown) (hb.mono (by (try simp only [World.size_alloc, World.size_setCell, World.size_drew]); omega))
    have l1 := ltb m0
    have l1_1 := ltb x1
    have zz1 := B1.size
    clear hb
    rw [HV.out]
    go_wp2_with fail
    go_ret2
    exact ⟨B1, .inl ⟨HV.out, rfl⟩⟩
  · have HV := Lib.hid hv
    obtain ⟨_, n2, n4, hE⟩ := vbB_iff.1 hv
    have HE := Lib.hid hE
    clear hv hE
    by_cases hm : most < 0
    · skip
      go_enter Try.func41, Try.ntmps41
      go_wp2_with fail
      refine (validBox_any s A n c E _ HS.out HN.out (HA.out.below (by go_grown))).mono ?_
      rintro q1 w1 ⟨rfl, hb⟩
      have x0 := kcb hb (b := w.heap.size) (o := 0) (v := .string s) (by first | assumption | (refine cellUp ?_; assumption) | go_cell)
      have x1 := kcb hb (b := w.heap.size) (o := 1) (v := .slice A n c) (by first | assumption | (refine cellUp ?_; assumption) | go_cell)
      have m0 := kcb hb (b := w.heap.size + 1) (o := 0) (v := .int .i64 most) (by first | assumption | (refine cellUp ?_; assumption) | go_cell)
      have B1 : Bl w w1 := Below.trans (by go_grown) (hb.mono (by (try simp only [World.size_alloc, World.size_setCell, World.size_drew]); omega))
      have l1 := ltb m0
      have l1_1 := ltb x1
      have zz1 := B1.size
      clear hb
      rw [HV.out]
      go_wp2_with fail
      go_ret2
      exact ⟨B1, .inr (.inl ⟨HV.out, hm, rfl⟩)⟩
    · have hm' : 0 ≤ most := by omega
      clear hm
      refine (callsIn_wide (n := 3)).1 ?_
      refine callsIn_of_wp_marks Try.func41 rfl trivial ?_ rfl
      simp only [Try.ntmps41, List.size_toArray, List.length_cons, List.length_nil, Nat.reduceAdd, Nat.reduceSub, Array.replicate_succ, Array.replicate_zero, List.push_toArray, List.append_toArray, List.nil_append, List.cons_append]
      gi_wp2_with fail
      refine ⟨trivial, ?_⟩
      refine (callsIn_wide.2 (validBox_any s A n c E _ HS.out HN.out (HA.out.below (by go_grown)))).mono ?_
      rintro q1 w1 ⟨rfl, hb⟩
      have x0 := kcb hb (b := w.heap.size) (o := 0) (v := .string s) (by first | assumption | (refine cellUp ?_; assumption) | go_cell)
      have x1 := kcb hb (b := w.heap.size) (o := 1) (v := .slice A n c) (by first | assumption | (refine cellUp ?_; assumption) | go_cell)
      have m0 := kcb hb (b := w.heap.size + 1) (o := 0) (v := .int .i64 most) (by first | assumption | (refine cellUp ?_; assumption) | go_cell)
      have B1 : Bl w w1 := Below.trans (by go_grown) (hb.mono (by (try simp only [World.size_alloc, World.size_setCell]); omega))
      have l1 := ltb m0
      have lx := ltb x1
      have zz1 := B1.size
      clear hb
      rw [HV.out]
      gi_wp2_with fail
      refine ⟨trivial, ?_⟩
      obtain ⟨V, hV⟩ : ∃ V, V = (w1.alloc (.cells #[.slice none 0 0] 22)).alloc (.cells #[.int .i64 1] 3) := ⟨_, rfl⟩
      have BV0 : Bl w1 V := by rw [hV]; go_grown
      have bD : Boxed V w1.heap.size 22 (.slice none 0 0) := by rw [hV]; exact (Boxed.new w1 _ _).alloc _
      have bY : Boxed V (w1.heap.size + 1) 3 (.int .i64 1) := by rw [hV]; have h := Boxed.new (w1.alloc (.cells #[.slice none 0 0] 22)) 3 (.int .i64 1); rwa [World.size_alloc] at h
      have zV : V.heap.size = w1.heap.size + 2 := by rw [hV]; simp
      have m0 := kcb BV0 m0
      have BV := B1.tr BV0
      rw [← hV]
      clear hV
      refine (callsIn_wide.2 (steps_any A n c E _ (HA.out.below BV) (by omega) hn HC.out (st1_bd HE.out))).mono ?_
      rintro q2 w2 ⟨hb2, gf, lb, rfl, hit⟩
      have z2 := hb2.size
      gi_wp2_with fail
      refine ⟨trivial, ?_⟩
      refine (callsIn_wide.2 (collect_any _ hit (by omega))).mono ?_
      rintro q3 w3 ⟨hb3, v3, rfl, hrow⟩
      have z3 := hb3.size
      obtain ⟨A3, c3, rfl, k3, k3', hA3⟩ := sl_of_own hrow
      have HSR := Lib.hid (own_sr (own_mono6 hrow (show w1.heap.size + 2 ≤ w2.heap.size by omega)) (Nat.le_refl w3.heap.size))
      clear hrow hA3 hit
      gi_wp2_with fail
      refine ⟨trivial, ?_⟩
      refine (callsIn_wide.2 (stepsK_any A3 (n - 1) c3 (stF E) _ (w1.heap.size + 2) HSR.out (by omega) k3 k3' (by omega) (st2_bd HE.out))).mono ?_
      rintro q4 w4 ⟨hb4, z4, rfl, hseq⟩
      have B4' : Bl V w4 := (hb2.tr hb3).tr hb4
      have m0 := kcb B4' m0
      have bD := boxed_bl bD B4'
      have bY := boxed_bl bY B4'
      have B4 : Bl w w4 := BV.tr B4'
      have z4w := B4.size
      have hM : n - 1 - 1 ≤ 400 := by omega
      obtain ⟨M, hMM⟩ : ∃ M, M = n - 1 - 1 := ⟨_, rfl⟩
      rw [← hMM] at hseq hM
      have HMM := Lib.hid hMM
      have HBD := Lib.hid (show bdI (stF (stF E)) M by rw [hMM]; exact st2_bd HE.out)
      clear hMM
      gi_wp2_with fail
      refine wpIn_rangeFunc_ownG rfl (by decide) (gf := 96) (lb := #[.pointer (some ⟨w3.heap.size, 0, none⟩), .pointer (some ⟨w3.heap.size + 1, 0, none⟩)]) rfl trivial (enters_of Try.func96 (by kernel_rfl) rfl) hseq KR.t (KR.b (w := w4) (by omega)) (Below.refl _ _) (fun _ => rfl)
        (fun pre W => ((∃ v, Boxed W w1.heap.size 22 v ∧ W.ownsRow (w3.heap.size + 2) 3 1 v (lpP most pre).length ((lpP most pre).map (Value.int .i64)) ∧ True) ∧ Boxed W (w1.heap.size + 1) 3 (.int .i64 ((pre.length : Int) + 1)) ∧ W.cell? ⟨w.heap.size + 1, 0, none⟩ = some (.int .i64 most)) ∧ (Below w.heap.size w W ∧ w4.heap.size ≤ W.heap.size))
        (fun _ _ _ => False)
        (OwnFrom.and (OwnFrom.and (Own.from (holdsRow_own (w3.heap.size + 2) w1.heap.size 22 3 1 (fun pre : List Ib => (lpP most pre).length) (fun pre => (lpP most pre).map (Value.int .i64)) (fun pre v => True)) _) (Own.from (fun s X Y row hs hg hr => ⟨boxed_own (w1.heap.size + 1) 3 (fun _ => _) s X Y row hs.1 hg hr, cell_kept hs.2 hg hr⟩) _)) (OwnFrom.and (ownFrom_below (by omega) (by omega)) (fun s X Y row hs hg hr => Nat.le_trans hs hg.size)))
        (fun _ _ _ _ _ hs _ _ => hs)
        ⟨⟨⟨_, bD, World.ownsRow_nil _ _ _ _, trivial⟩, bY, m0⟩, B4, Nat.le_refl _⟩
        (fun x => { tmps := #[encB s A n c, .int .i64 most, .pointer (some ⟨w.heap.size, 0, none⟩), .pointer (some ⟨w.heap.size + 1, 0, none⟩), .slice none 0 0, .int .i64 0, .pointer (some ⟨w1.heap.size, 0, none⟩), .pointer (some ⟨w1.heap.size + 1, 0, none⟩), .int .i64 x.1,
          .agg #[.string s, .slice A n c], .bool true, .bool false, .int .i64 most, .bool (decide (most < 0)), .pointer (some ⟨w.heap.size, 1, none⟩), .slice A n c, .func (.func gf) #[] lb, .slice A3 (n - 1) c3, .func (.func 96) #[] #[.pointer (some ⟨w3.heap.size, 0, none⟩), .pointer (some ⟨w3.heap.size + 1, 0, none⟩)],
          .int .i64 x.1, undef, undef, undef, undef, undef, undef, undef, undef, undef, undef, undef], defers := [] }) ?assign ?body ?done ?stop
      case assign =>
        intro l x W K hK
        simp only [encI]
        gi_wp2
        exact hK
      case body =>
        rintro l pre x W ⟨⟨⟨v, hv, hrow, _⟩, hy, hm⟩, hB, hW4⟩ hlt
        have c0 := hv.cell
        have c1 := hy.cell
        have fz1 := hy.frozen
        have l0 := hv.lt
        have l1' := hy.lt
        have zB := hB.size
        have xb := x.2
        obtain ⟨xb1, xb2⟩ := xb
        have hmx : Try.prog.follows .mixedOrders = true := by kernel_rfl
        have hsn := lpP_snoc most pre x
        have hpl := lpP_len most pre
        by_cases q : most < (x.1.natAbs : Int)
        · rw [if_pos q] at hsn
          have HSN := Lib.hid hsn
          clear hsn
          gi_wp2
          gi_region_with_o (refine ⟨trivial, ?_⟩; gi_at_call 67; refine (CallsIn.inRound l (callsIn_wide.2 (sizeR_any _ _ (by omega) (by omega)))).mono ?_; rintro e w' ⟨rfl, rfl⟩)
          have hlm : (lpP most pre).length ≤ 400 := by omega
          all_goals
            obtain ⟨Z, hZ⟩ : ∃ Z, Z = W.drew := ⟨_, rfl⟩
            rw [← hZ]
            have hrowd : Z.ownsRow (w3.heap.size + 2) 3 1 v (lpP most pre).length ((lpP most pre).map (Value.int .i64)) := by rw [hZ]; exact hrow.drew
            have hvd : Boxed Z w1.heap.size 22 v := by rw [hZ]; exact hv
            have hyd : Boxed Z (w1.heap.size + 1) 3 (.int .i64 ((pre.length : Int) + 1)) := by rw [hZ]; exact hy
            have hmd : Z.cell? ⟨w.heap.size + 1, 0, none⟩ = some (.int .i64 most) := by rw [hZ]; exact hm
            have kz : KeepsOthers W Z := by rw [hZ]; exact KeepsOthers.drew W
            have krz : KR (w1.heap.size + 2) (w3.heap.size + 2) W Z := by rw [hZ]; exact KR.rf _ _ _
            have hBZ : Below w.heap.size w Z := by rw [hZ]; exact hB.drew
            have z5 : w3.heap.size + 2 ≤ Z.heap.size := by rw [hZ]; simp only [World.size_drew]; omega
            clear hZ c0 c1 fz1 hv hy hm hrow
            have c0 := hvd.cell
            have c1 := hyd.cell
            have l0 := hvd.lt
            have l1' := hyd.lt
            gi_wp2_with (gi_at_builtin; refine wpListIn_append_own _ rfl _ _ 22 rfl (w3.heap.size + 2) 3 i0 (.int .i64 0) 1 8 Try.underlying22 hi hz0 hz1 hz2 rfl (by decide) _ _ _ rfl (hrowd.alloc _) ⟨Z.heap.size, 0, none⟩ 1 1 [.int .i64 ((pre.length : Int) + 1)] rfl rfl (cell_one_new _ _ _) (by simp [Value.oneCell']) (by unfold maxLen; omega) (by omega) (by (try simp only [World.size_alloc]); omega) ?_; intro v' w9 hown' hgrow _; obtain ⟨g', cap', rfl⟩ := ownsRow_succ hown'; obtain ⟨hv1, hv2, hr2, hk2, hb2'⟩ := hvd.appended (n₀ := w1.heap.size) (by decide) (own_mono6 hrowd (by omega)) (by omega) (Nat.le_refl _) (own_mono6 hown' (by omega)) hgrow; have hc9 := hv1.cell; have hf9 := hv1.frozen; have hl9 := hv1.lt; have hy9 := (hyd.alloc _).kept hgrow (fun e => by have := (hrowd.lt (w1.heap.size + 1) e.symm).1; omega); have hyc := hy9.cell; have hyf := hy9.frozen; have hyl := hy9.lt; have hm9 := (hb2'.cell (p := ⟨w.heap.size + 1, 0, none⟩) (show w.heap.size + 1 < w1.heap.size by omega)).trans hmd; have hKR := kr_app (lo := w1.heap.size + 2) (B := w1.heap.size) (u := .slice (some ⟨g', 0, none⟩) ((lpP most pre).length + 1) cap') hgrow hrowd (by omega) (by omega))
          all_goals
            refine ⟨((kz.trans hk2).trans (KeepsOthers.setCell _ _ _)).from _, (krz.t hKR).t (kr_set _ (by omega)), ⟨⟨_, hv2.other (by omega) _, ?_, trivial⟩, ?_, ?_⟩, (hBZ.trans (hb2'.mono (by omega))).setCell (p := ⟨w1.heap.size + 1, 0, none⟩) (show w.heap.size ≤ w1.heap.size + 1 by omega) _, by have := hb2'.size; simp only [World.size_setCell] at this ⊢; omega⟩
            · rw [HSN.out, List.length_append, List.length_singleton, List.map_append, List.map_singleton]
              exact own_set (own_set hown' (by omega)) (by omega)
            · rw [List.length_append, List.length_singleton, show (((pre.length + 1 : Nat) : Int) + 1) = (pre.length : Int) + 1 + 1 by omega]
              exact (hy9.other (by omega) _).set _
            · exact (World.cell?_of_block (Below.heap_setCell _ _ _ _ (show w.heap.size + 1 ≠ w1.heap.size + 1 by omega))).trans hm9
        · rw [if_neg q] at hsn
          have HSN := Lib.hid hsn
          have q' : (x.1.natAbs : Int) ≤ most := by omega
          clear hsn q
          gi_wp2
          gi_region_with_o (refine ⟨trivial, ?_⟩; gi_at_call 67; refine (CallsIn.inRound l (callsIn_wide.2 (sizeR_any _ _ (by omega) (by omega)))).mono ?_; rintro e w' ⟨rfl, rfl⟩)
          all_goals gi_wp2
          all_goals
            refine ⟨((KeepsOthers.drew W).trans (KeepsOthers.setCell _ _ _)).from _, KR.t (B := W.drew) (KR.rf _ _ _) (kr_set _ (by omega)), ⟨⟨v, (show Boxed W.drew w1.heap.size 22 v from hv).other (by omega) _, ?_, trivial⟩, ?_, ?_⟩, hB.drew.setCell (p := ⟨w1.heap.size + 1, 0, none⟩) (by simp; omega) _, by simp only [World.size_setCell, World.size_drew]; exact hW4⟩
            · rw [HSN.out]
              refine hrow.drew.kept (grown_set _ _ _ _) ?_
              cases hvo : v.ownBlock with
              | none => exact .inl rfl
              | some j => exact .inr (fun e => by have := (hrow.lt j hvo).1; cases e; omega)
            · rw [List.length_append, List.length_singleton, show (((pre.length + 1 : Nat) : Int) + 1) = (pre.length : Int) + 1 + 1 by omega]
              exact (show Boxed W.drew (w1.heap.size + 1) 3 (.int .i64 ((pre.length : Int) + 1)) from hy).set _
            · exact (World.cell?_of_block (Below.heap_setCell _ _ _ _ (by simp; omega))).trans hm
      case done =>
        rintro D ys W hD rfl ⟨⟨⟨v, hv, hrow, _⟩, hy, hm⟩, hB, hW4⟩ hK
        have hc := hv.cell
        rw [lpP_up HBD.out] at hrow
        gi_wp2
        refine ⟨by simp, .inl ⟨_, _, rfl, run_takeDeferred hK, ?_⟩⟩
        refine ⟨_, results_tmp2 rfl _ _ _, hB.trans (belowK_b (w := w) (Nat.le_refl _) W D _ _ (by omega) hK rfl rfl), .inr (.inr ⟨HV.out, hm', v, w3.heap.size + 2, rfl, ?_⟩)⟩
        rw [← HMM.out]
        exact ownsRow_putObj hrow _ hK rfl
      case stop =>
        rintro D c pre W _ _ h _
        exact h.elim
end Go.Proofs.Ytflajochohbokaa
