/-
  Package ledger: Worst.
-/
import Derived.Test.YtbmenpfpeadckaaMK
import Derived.Stop.RegionWithIn
namespace Go.Proofs.Ytbmenpfpeadckaa
open Go.RowKit Go.Maps Go.Shelf
set_option linter.unusedSimpArgs false
set_option linter.unusedVariables false

attribute [local go_sem] Oper.semAt_some

def wStep (s y : Int × Int) : Int × Int := if s.2 < absI y.2 then (y.1, absI y.2) else s
def wF (s : Int × Int) (l : List (Int × Int)) : Int × Int := l.foldl wStep s
theorem wF_snoc (s : Int × Int) (l : List (Int × Int)) (y : Int × Int) : wF s (l ++ [y]) = wStep (wF s l) y := by simp [wF, List.foldl_append]
theorem abs_nn (x : Int) : 0 ≤ absI x := by unfold absI; omega
theorem wF_nn {l : List (Int × Int)} (h : ∀ y, y ∈ l → 0 ≤ y.1) {s : Int × Int} (h1 : 0 ≤ s.1) (h2 : 0 ≤ s.2) : 0 ≤ (wF s l).1 ∧ 0 ≤ (wF s l).2 := by
  induction l generalizing s with
  | nil => exact ⟨h1, h2⟩
  | cons y l ih =>
    show 0 ≤ (wF (wStep s y) l).1 ∧ 0 ≤ (wF (wStep s y) l).2
    have := abs_nn y.2
    refine ih (fun z hz => h z (by simp [hz])) ?_ ?_ <;> (unfold wStep; split)
    · exact h y (by simp)
    · exact h1
    · exact this
    · exact h2
/-- From either start the greatest is the same, if there is one. -/
theorem wF_two {l : List (Int × Int)} (h : ∀ y, y ∈ l → 0 ≤ y.1) : (l = [] ∧ wF (0, -1) l = (0, -1) ∧ wF (-1, -1) l = (-1, -1)) ∨ (wF (0, -1) l = wF (-1, -1) l ∧ 0 ≤ (wF (-1, -1) l).1 ∧ 0 ≤ (wF (-1, -1) l).2) := by
  cases l with
  | nil => exact .inl ⟨rfl, rfl, rfl⟩
  | cons y l =>
    have ha := abs_nn y.2
    have e1 : wStep (0, -1) y = (y.1, absI y.2) := by unfold wStep; rw [if_pos (show (-1 : Int) < _ by omega)]
    have e2 : wStep (-1, -1) y = (y.1, absI y.2) := by unfold wStep; rw [if_pos (show (-1 : Int) < _ by omega)]
    refine .inr ⟨?_, ?_⟩
    · show wF (wStep (0, -1) y) l = wF (wStep (-1, -1) y) l
      rw [e1, e2]
    · show 0 ≤ (wF (wStep (-1, -1) y) l).1 ∧ 0 ≤ (wF (wStep (-1, -1) y) l).2
      rw [e2]
      exact wF_nn (fun z hz => h z (by simp [hz])) (h y (by simp)) ha
/-- The days of a ledger with their offs. -/
def dvL (L : Nat → En) (n : Nat) : List (Int × Int) := (pickF L n mallP).map fun d => (d, (offO L n d).getD 0)
def prD (x : DO) : Int × Int := x.1
theorem oL_prs {V : Int → Bool → Option Int} {l : List Int} (h : ∀ d, d ∈ l → 0 ≤ d ∧ d ≤ 182985) (hb : ∀ d o, offV V d = some o → -172800000 ≤ o ∧ o ≤ 172800000) : (oL V mallP l).map prD = (l.filter (selB V mallP)).map fun d => (d, (offV V d).getD 0) := by
  induction l with
  | nil => rfl
  | cons d l ih =>
    have hd := h d (by simp)
    rw [oL, List.map_append, ih (fun x hx => h x (by simp [hx])), List.filter_cons]
    cases q : offV V d with
    | none => simp [selD, selB, q]
    | some o =>
      have ho := hb d o q
      have : prD (toDO d o) = (d, o) := toDO_at ⟨hd.1, hd.2, ho.1, ho.2⟩
      simp [selD, selB, q, mallP, this]
theorem oL_dv {L : Nat → En} {n : Nat} (hv : vlB L n = true) : (oL (vL L n) mallP (dysOf L n)).map prD = dvL L n :=
  oL_prs (fun d hd => dys_rng hv hd) (fun d o h => off_bd (vl_iff.1 hv).2 (show offO L n d = some o from h))
theorem dv_nn {L : Nat → En} {n : Nat} (hv : vlB L n = true) : ∀ y, y ∈ dvL L n → 0 ≤ y.1 := by
  intro y hy
  obtain ⟨d, hd, e⟩ := List.mem_map.1 hy
  rw [← e]
  exact (pick_mem hv hd).1.1
/-- The worst day, and the error. -/
def worE (L : Nat → En) (n : Nat) : Int × Int := if vlB L n = true then (if (wF (-1, -1) (dvL L n)).1 < 0 then (0, 8) else ((wF (-1, -1) (dvL L n)).1, 0)) else (0, 1)
set_option maxRecDepth 100000 in
set_option maxHeartbeats 12800000 in
theorem worst_any (A : Option Addr) (n c : Nat) (L : Nat → En) (w : World) (hA : El w A n L) (hn : n ≤ maxLen) :
    Calls Try.prog 31 #[.slice A n c] w fun e w' => e = .returned (encP (worE L n)) ∧ Bl w w' := by
  have HR := Lib.hid (fun (X : World) (hb : Bl w X) => recordOf_any A n c L X (hA.below hb) hn)
  clear hA hn
  cases hv : vlB L n with
  | false =>
    have HV := Lib.hid hv
    have HC := Lib.hid (show worE L n = (0, 1) by rw [worE, if_neg (by rw [hv]; decide)])
    clear hv
    go_enter Try.func31, Try.ntmps31
    go_wp2_with fail
    refine (HR.out _ (by go_grown)).mono ?_
    rintro e1 w1 ⟨hb, ⟨-, rfl⟩ | ⟨h0, _⟩⟩
    · have B1 := Lib.hid (show Bl w w1 from Bl.tr (by go_grown) hb)
      clear hb
      go_wp2_with fail
      go_ret2
      exact ⟨by rw [HC.out]; rfl, B1.out⟩
    · rw [HV.out] at h0; cases h0
  | true =>
    have HV := Lib.hid hv
    have HTW := Lib.hid (wF_two (dv_nn hv))
    have HE := Lib.hid (show worE L n = (if (wF (-1, -1) (dvL L n)).1 < 0 then (0, 8) else ((wF (-1, -1) (dvL L n)).1, 0)) by rw [worE, if_pos hv])
    have HDV := Lib.hid (oL_dv hv)
    clear hv
    refine (callsIn_wide (n := 5)).1 ?_
    refine callsIn_of_wp_marks Try.func31 rfl trivial ?_ rfl
    simp only [Try.ntmps31, List.size_toArray, List.length_cons, List.length_nil, Nat.reduceAdd, Nat.reduceSub, Array.replicate_succ, Array.replicate_zero, List.push_toArray, List.append_toArray, List.nil_append, List.cons_append]
    gi_wp2_with fail
    refine ⟨trivial, ?_⟩
    gi_at_call 60
    refine (callsIn_wide.2 (HR.out _ (by first | exact Bl.rf _ | go_grown))).mono ?_
    rintro e1 w1 ⟨hb, ⟨h0, _⟩ | ⟨-, B, rfl, hB, hR⟩⟩
    · rw [HV.out] at h0; cases h0
    · have B1 := Lib.hid (show Bl w w1 from Bl.tr (by first | exact Bl.rf _ | go_grown) hb)
      have RR := Lib.hid hR
      have z1 := B1.out.size
      have lB := hR.lt
      clear hb hR
      gi_wp2_with fail
      obtain ⟨b, hb⟩ : ∃ b, b = w1.heap.size := ⟨_, rfl⟩
      obtain ⟨w2, hw2⟩ : ∃ w2, w2 = (w1.alloc (.cells #[.int .i64 0] 3)).alloc (.cells #[.int .i64 (-1)] 3) := ⟨_, rfl⟩
      have z2 : w2.heap.size = b + 2 := by rw [hw2, hb]; simp
      have c6 : w2.cell? ⟨b, 0, none⟩ = some (.int .i64 0) := by rw [hw2, hb]; go_cell
      have c7 : w2.cell? ⟨b + 1, 0, none⟩ = some (.int .i64 (-1)) := by rw [hw2, hb]; go_cell
      have f6 : w2.frozen? ⟨b, 0, none⟩ = false := by rw [hw2, hb]; (try simp only [frozen?_alloc_cells, World.frozen?_setCell]); first | assumption | exact fz_new (by (try simp only [World.size_alloc]); omega)
      have f7 : w2.frozen? ⟨b + 1, 0, none⟩ = false := by rw [hw2, hb]; (try simp only [frozen?_alloc_cells, World.frozen?_setCell]); first | assumption | exact fz_new (by (try simp only [World.size_alloc]); omega)
      have B2 := Lib.hid (show Bl w w2 by rw [hw2]; exact B1.out.tr (by go_grown))
      have R2 := Lib.hid (show Rec w2 B n (vL L n) by rw [hw2]; exact RR.out.below (by go_grown))
      rw [← hb, ← hw2]
      have hb1 : b ≤ w1.heap.size := by omega
      have hb2 : w1.heap.size ≤ b := by omega
      obtain ⟨t, ht⟩ : ∃ t, t = w2.heap.size := ⟨_, rfl⟩
      have t1 : t ≤ w2.heap.size := by omega
      have t2 : w2.heap.size ≤ t := by omega
      have t3 : b + 2 ≤ t := by omega
      have t4 : t ≤ b + 2 := by omega
      have HTT := Lib.hid ht
      clear hw2 hb z2 ht
      refine ⟨trivial, ?_⟩
      gi_at_call 62
      refine (callsIn_wide.2 (offsR_any B 63 #[] _)).mono ?_
      rintro e3 w3 ⟨rfl, ⟨h1, h2⟩, hb3⟩
      rw [← HTT.out] at h1 h2 ⊢
      have B3 := Lib.hid (B2.out.tr hb3)
      have z3 := hb3.size
      have R3 := Lib.hid (R2.out.below hb3)
      have l1 := ltb h1
      have l2 := ltb h2
      have HSQ := Lib.hid (offs0_seq t (t + 1) B n L w3 HV.out h1 h2 R3.out)
      have HKK := Lib.hid (show ∀ k, (k = t ∨ k = t + 1 ∨ k = B) → k < w3.heap.size by
        rintro k (rfl | rfl | rfl) <;> omega)
      have q6 := kcb hb3 c6
      have q7 := kcb hb3 c7
      have g6 := (hb3.frozen (p := ⟨b, 0, none⟩) (by show b < _; omega)).trans f6
      have g7 := (hb3.frozen (p := ⟨b + 1, 0, none⟩) (by show b + 1 < _; omega)).trans f7
      clear hb3 c6 c7 f6 f7
      gi_wp2_with fail
      have hwb : w.heap.size ≤ b := by omega
      refine loopO rfl (by omega) (gf := 101) (lb := #[.pointer (some ⟨t, 0, none⟩), .pointer (some ⟨t + 1, 0, none⟩)]) rfl trivial (enters_of Try.func101 (by kernel_rfl) rfl) HSQ.out KpS.trans (fun W l o hl _ => KpS.put HKK.out W l o (by omega)) (Bl.rf _) (fun _ => rfl)
        (fun x X Y h hk => trivial)
        (fun pre O W' => W'.cell? ⟨b, 0, none⟩ = some (.int .i64 (wF (0, -1) (pre.map prD)).1) ∧ W'.frozen? ⟨b, 0, none⟩ = false ∧ W'.cell? ⟨b + 1, 0, none⟩ = some (.int .i64 (wF (0, -1) (pre.map prD)).2) ∧ W'.frozen? ⟨b + 1, 0, none⟩ = false ∧ Bl w W')
        (fun pre O W' => False)
        (fun s O X Y h hb hO => by
          obtain ⟨a1, a2, a3, a4, a5⟩ := h
          exact ⟨(hb.cell (p := ⟨b, 0, none⟩) (by show b < _; omega)).trans a1, (hb.frozen (p := ⟨b, 0, none⟩) (by show b < _; omega)).trans a2, (hb.cell (p := ⟨b + 1, 0, none⟩) (by show b + 1 < _; omega)).trans a3, (hb.frozen (p := ⟨b + 1, 0, none⟩) (by show b + 1 < _; omega)).trans a4, a5.trans (hb.mono (by omega))⟩)
        (fun s O X Y h hb hO => h)
        ⟨q6, g6, q7, g7, B3.out⟩
        (fun x Wb a' X => a' = { tmps := #[.slice A n c, undef, .int .i64 0, .int .i64 0, .map (some B), .int .i64 0, .pointer (some ⟨b, 0, none⟩), .pointer (some ⟨b + 1, 0, none⟩), .int .i64 x.1.1, .int .i64 x.1.2, .tuple #[.map (some B), .int .i64 0], .slice A n c, .tuple #[.map (some B), .int .i64 0], .map (some B), .int .i64 0, .int .i64 0, .bool false, undef, .map (some B), .func (.func 101) #[] #[.pointer (some ⟨t, 0, none⟩), .pointer (some ⟨t + 1, 0, none⟩)], .int .i64 x.1.1, .int .i64 x.1.2, undef, undef, undef, undef, undef, undef, undef, undef, undef, undef], defers := [] } ∧ X = Wb)
        ?hA ?assign ?body ?done ?stop
      case hA => rintro x Wb a' X k o ⟨rfl, rfl⟩ _ _; exact ⟨rfl, rfl⟩
      case assign =>
        intro k x Wb K hz hK
        unfold encD
        gi_wp2
        exact hK _ _ (Below.refl _ _) ⟨rfl, rfl⟩
      case body =>
        rintro k pre x O a' Wb X hk ⟨r, hr⟩ ⟨c6, f6, c7, f7, i6⟩ hO hat hG hX ⟨rfl, rfl⟩ hlen
        have l6 := ltb c6
        have l7 := ltb c7
        have hxb := x.2
        have HS := Lib.hid (fun (W : World) => sizeL_any x.1.2 W ⟨hxb.2.2.1, hxb.2.2.2⟩)
        have HW := Lib.hid (show wF (0, -1) ((pre ++ [x]).map prD) = wStep (wF (0, -1) (pre.map prD)) (x.1.1, x.1.2) by rw [List.map_append, List.map_singleton, wF_snoc]; rfl)
        unfold wStep at HW
        have HO := Lib.hid hO
        have H6 := Lib.hid i6
        have HF6 := Lib.hid f6
        have HF7 := Lib.hid f7
        obtain ⟨d, hd⟩ : ∃ d, d = x.1.1 := ⟨_, rfl⟩
        obtain ⟨o, ho⟩ : ∃ o, o = x.1.2 := ⟨_, rfl⟩
        obtain ⟨s1, hs1⟩ : ∃ s, s = (wF (0, -1) (pre.map prD)).1 := ⟨_, rfl⟩
        obtain ⟨s2, hs2⟩ : ∃ s, s = (wF (0, -1) (pre.map prD)).2 := ⟨_, rfl⟩
        have HST := Lib.hid (show wF (0, -1) (pre.map prD) = (s1, s2) by rw [hs1, hs2])
        obtain ⟨az, haz⟩ : ∃ a, a = absI o := ⟨_, rfl⟩
        simp only [← hd, ← ho] at HW HS ⊢
        simp only [← haz] at HW HS
        rw [← hs1] at c6
        rw [← hs2] at c7 HW
        rw [HST.out] at HW
        clear hd ho hs1 hs2 haz hxb hat hO i6 HST
        by_cases hq : s2 < az
        · rw [if_pos hq] at HW
          gi_wp2_with fail
          gi_region_with (refine ⟨trivial, ?_⟩; gi_at_call 68; refine (CallsIn.inRound _ (callsIn_wide.2 (HS.out _))).mono ?_; rintro e9 w9 ⟨rfl, rfl⟩)
          all_goals
            gi_wp2_with fail
            refine ⟨trivial, ?_⟩
            gi_at_call 68
            refine (CallsIn.inRound _ (callsIn_wide.2 (HS.out _))).mono ?_
            rintro e9 w9 ⟨rfl, rfl⟩
            gi_wp2_with fail
            obtain ⟨Y, hY⟩ : ∃ Y, Y = ((X.setCell ⟨b, 0, none⟩ (.int .i64 d)).setCell ⟨b + 1, 0, none⟩ (.int .i64 az)).drew := ⟨_, rfl⟩
            have y6 : Y.cell? ⟨b, 0, none⟩ = some (.int .i64 d) := by rw [hY]; go_cell
            have y7 : Y.cell? ⟨b + 1, 0, none⟩ = some (.int .i64 az) := by rw [hY]; go_cell
            have p6 : Y.frozen? ⟨b, 0, none⟩ = false := by rw [hY]; show World.frozen? ((X.setCell _ _).setCell _ _) _ = false; simp only [World.frozen?_setCell]; exact HF6.out
            have p7 : Y.frozen? ⟨b + 1, 0, none⟩ = false := by rw [hY]; show World.frozen? ((X.setCell _ _).setCell _ _) _ = false; simp only [World.frozen?_setCell]; exact HF7.out
            have sY : ∀ g, g ≠ b → g ≠ b + 1 → Y.heap[g]? = X.heap[g]? := fun g hg hg' => by rw [hY]; exact (Below.heap_setCell _ _ _ g (by show g ≠ b + 1; omega)).trans (Below.heap_setCell _ _ _ g (by show g ≠ b; omega))
            have zY : Y.heap.size = X.heap.size := by rw [hY]; simp
            have bY : Bl w Y := by rw [hY]; exact Bl.tr ((H6.out.setCell (p := ⟨b, 0, none⟩) hwb _).setCell (p := ⟨b + 1, 0, none⟩) (by show w.heap.size ≤ b + 1; omega) _) (bl_dr _)
            rw [← hY]
            clear hY
            refine ⟨fun k => O k, fun k hk => ⟨.inl hk, by have := (HO.out k hk).2; omega⟩, ⟨by omega, fun k h1 h2 h3 => sY k (by omega) (by omega)⟩, ⟨by omega, fun k h1 => sY k (by rcases h1 with h1 | h1 | h1 <;> omega) (by rcases h1 with h1 | h1 | h1 <;> omega)⟩, ?_, p6, ?_, p7, bY⟩
            · rw [HW.out]; exact y6
            · rw [HW.out]; exact y7
        · rw [if_neg hq] at HW
          gi_wp2_with fail
          gi_region_with (refine ⟨trivial, ?_⟩; gi_at_call 68; refine (CallsIn.inRound _ (callsIn_wide.2 (HS.out _))).mono ?_; rintro e9 w9 ⟨rfl, rfl⟩)
          all_goals
            gi_wp2_with fail
            refine ⟨fun k => O k, fun k hk => ⟨.inl hk, by have := (HO.out k hk).2; exact this⟩, ⟨Nat.le_refl _, fun k h1 h2 h3 => rfl⟩, ⟨Nat.le_refl _, fun k h1 => rfl⟩, ?_, HF6.out, ?_, HF7.out, H6.out.tr (bl_dr _)⟩
            · rw [HW.out]; exact c6
            · rw [HW.out]; exact c7
      case done =>
        rintro Db xs O W' hD hnO hO hS ⟨c6, f6, c7, f7, a5⟩ hd
        have l6 := ltb c6
        have l7 := ltb c7
        have PB : Below Db W' (W'.putObj Db (.deferred none)) := below_put W' _ (Nat.le_refl _) (by have := (Array.getElem?_eq_some_iff.1 hd).1; omega)
        have B7 := Lib.hid (a5.trans (PB.mono (by omega)))
        have hS : xs = _ := hS
        rw [hS, HDV.out] at c6 c7
        obtain ⟨g, hg⟩ : ∃ g, g = wF (-1, -1) (dvL L n) := ⟨_, rfl⟩
        rw [← hg] at HE HTW
        rcases HTW.out with ⟨-, t1, t2⟩ | ⟨t1, t2, t3⟩
        · rw [t1] at c6 c7
          have HQ := Lib.hid (show worE L n = (0, 8) by rw [HE.out, t2]; rfl)
          clear a5 hg t1 t2
          gi_wp2
          refine ⟨by simp, .inl ⟨_, _, rfl, run_takeDeferred hd, ?_⟩⟩
          exact ⟨_, results_tmp2 rfl _ _ _, by rw [HQ.out]; rfl, B7.out⟩
        · rw [t1, hg] at c6 c7
          rw [← hg] at c6 c7
          obtain ⟨g1, g2⟩ := g
          have t2 : 0 ≤ g1 := t2
          have t3 : 0 ≤ g2 := t3
          have n1 : ¬ (g1 < 0) := by omega
          have n2 : ¬ (g2 < 0) := by omega
          have HQ := Lib.hid (show worE L n = (g1, 0) by rw [HE.out]; show (if g1 < 0 then _ else _) = _; rw [if_neg n1])
          clear a5 hg t1
          gi_wp2
          refine ⟨by simp, .inl ⟨_, _, rfl, run_takeDeferred hd, ?_⟩⟩
          exact ⟨_, results_tmp2 rfl _ _ _, by rw [HQ.out]; rfl, B7.out⟩
      case stop =>
        rintro Db pre O W' hD hnO hO hS h hd
        exact h.elim
end Go.Proofs.Ytbmenpfpeadckaa
