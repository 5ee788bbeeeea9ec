/-
  Package ledger: Streak.
-/
import Derived.Test.YtbmenpfpeadckaaMMR
import Derived.Test.YtbmenpfpeadckaaMB1
import Derived.Stop.RegionWithIn
import Derived.RegionIn
namespace Go.Proofs.Ytbmenpfpeadckaa
open Go.RowKit Go.Maps Go.Shelf
set_option linter.unusedSimpArgs false
set_option linter.unusedVariables false

attribute [local go_sem] Oper.semAt_some

set_option maxRecDepth 100000 in
set_option maxHeartbeats 12800000 in
theorem streak_any (A : Option Addr) (n c : Nat) (L : Nat → En) (q : Int) (w : World) (hA : El w A n L) (hn : n ≤ maxLen) :
    Calls Try.prog 30 #[.slice A n c, .int .i64 q] w fun e w' => e = .returned (encT (strE L n q)) ∧ Bl w w' := by
  have HR := Lib.hid (fun (X : World) (hb : Bl w X) => recordOf_any A n c L X (hA.below hb) hn)
  clear hA hn
  obtain ⟨p, hp⟩ : ∃ p, p = w.heap.size := ⟨_, rfl⟩
  have HP := Lib.hid hp
  cases hv : vlB L n with
  | false =>
    have HV := Lib.hid hv
    have HC := Lib.hid (show strE L n q = (0, 0, 1) by rw [strE, lC_1 hv]; rfl)
    clear hv hp
    go_enter Try.func30, Try.ntmps30
    go_wp2_with fail
    refine (HR.out _ (by go_grown)).mono ?_
    rintro e1 w1 ⟨hb, ⟨-, rfl⟩ | ⟨h0, _⟩⟩
    · have B1 := Lib.hid (show Bl w w1 from Bl.tr (by go_grown) hb)
      have x1 := kcb hb (b := w.heap.size + 1) (o := 0) (v := .int .i64 0) (by go_cell)
      have x2 := kcb hb (b := w.heap.size + 1 + 1) (o := 0) (v := .int .i64 0) (by go_cell)
      have f1 := (hb.frozen (p := ⟨w.heap.size + 1, 0, none⟩) (by (try simp only [World.size_alloc]); show w.heap.size + 1 < _; omega)).trans (by (try simp only [frozen?_alloc_cells, World.frozen?_setCell]); first | assumption | exact fz_new (by (try simp only [World.size_alloc]); omega))
      have f2 := (hb.frozen (p := ⟨w.heap.size + 1 + 1, 0, none⟩) (by (try simp only [World.size_alloc]); show w.heap.size + 1 + 1 < _; omega)).trans (by (try simp only [frozen?_alloc_cells, World.frozen?_setCell]); first | assumption | exact fz_new (by (try simp only [World.size_alloc]); omega))
      have l2 := ltb x2
      clear hb
      go_wp2_with fail
      refine bodyPost_ret (strk_res _ _ (w.heap.size + 1) (w.heap.size + 1 + 1) 0 0 1 rfl rfl rfl (by go_cell) (by go_cell)) rfl ?_
      exact ⟨by rw [HC.out], (B1.out.setCell (p := ⟨w.heap.size + 1, 0, none⟩) (by show w.heap.size ≤ w.heap.size + 1; omega) _).setCell (p := ⟨w.heap.size + 1 + 1, 0, none⟩) (by show w.heap.size ≤ w.heap.size + 1 + 1; omega) _⟩
    · rw [HV.out] at h0; cases h0
  | true =>
    have HV := Lib.hid hv
    have HC0 := Lib.hid (fun (h : bndB q = true) => lC_0 hv h)
    have HC7 := Lib.hid (fun (h : bndB q = false) => lC_7 hv h)
    have HPK := Lib.hid (oL_pick hv (mstreakP q))
    clear hv
    cases hbb : bndB q with
    | false =>
      have HC := Lib.hid (show strE L n q = (0, 0, 7) by rw [strE, HC7.out hbb]; rfl)
      have HBB := Lib.hid hbb
      clear hbb hp
      go_enter Try.func30, Try.ntmps30
      go_wp2_with fail
      refine (HR.out _ (by go_grown)).mono ?_
      rintro e1 w1 ⟨hb, ⟨h0, _⟩ | ⟨-, B, rfl, hB, hR⟩⟩
      · rw [HV.out] at h0; cases h0
      · have B1 := Lib.hid (show Bl w w1 from Bl.tr (by go_grown) hb)
        have x0 := kcb hb (b := w.heap.size) (o := 0) (v := .int .i64 q) (by go_cell)
        have x1 := kcb hb (b := w.heap.size + 1) (o := 0) (v := .int .i64 0) (by go_cell)
        have x2 := kcb hb (b := w.heap.size + 1 + 1) (o := 0) (v := .int .i64 0) (by go_cell)
        have f1 := (hb.frozen (p := ⟨w.heap.size + 1, 0, none⟩) (by (try simp only [World.size_alloc]); show w.heap.size + 1 < _; omega)).trans (by (try simp only [frozen?_alloc_cells, World.frozen?_setCell]); first | assumption | exact fz_new (by (try simp only [World.size_alloc]); omega))
        have f2 := (hb.frozen (p := ⟨w.heap.size + 1 + 1, 0, none⟩) (by (try simp only [World.size_alloc]); show w.heap.size + 1 + 1 < _; omega)).trans (by (try simp only [frozen?_alloc_cells, World.frozen?_setCell]); first | assumption | exact fz_new (by (try simp only [World.size_alloc]); omega))
        have l2 := ltb x2
        clear hb hR
        go_wp2_with fail
        refine (isBound_any q _).mono ?_
        rintro e4 w4 ⟨rfl, rfl⟩
        rw [HBB.out]
        go_wp2_with fail
        refine bodyPost_ret (strk_res _ _ (w.heap.size + 1) (w.heap.size + 1 + 1) 0 0 7 rfl rfl rfl (by go_cell) (by go_cell)) rfl ?_
        exact ⟨by rw [HC.out], (B1.out.setCell (p := ⟨w.heap.size + 1, 0, none⟩) (by show w.heap.size ≤ w.heap.size + 1; omega) _).setCell (p := ⟨w.heap.size + 1 + 1, 0, none⟩) (by show w.heap.size ≤ w.heap.size + 1 + 1; omega) _⟩
    | true =>
     have HBB := Lib.hid hbb
     have hpp1 : p ≤ w.heap.size := by omega
     have hpp2 : w.heap.size ≤ p := by omega
     clear hp
     refine (callsIn_wide (n := 5)).1 ?_
     refine callsIn_of_wp_marks Try.func30 rfl trivial ?_ rfl
     simp only [Try.ntmps30, List.size_toArray, List.length_cons, List.length_nil, Nat.reduceAdd, Nat.reduceSub, Array.replicate_succ, Array.replicate_zero, List.push_toArray, List.append_toArray, List.nil_append, List.cons_append]
     gi_wp2_with fail
     obtain ⟨w0, hw0⟩ : ∃ w0, w0 = ((w.alloc (.cells #[.int .i64 q] 3)).alloc (.cells #[.int .i64 0] 3)).alloc (.cells #[.int .i64 0] 3) := ⟨_, rfl⟩
     have z0 : p + 3 ≤ w0.heap.size := by rw [hw0, HP.out]; simp
     have x0 : w0.cell? ⟨p, 0, none⟩ = some (.int .i64 q) := by rw [hw0, HP.out]; go_cell
     have x1 : w0.cell? ⟨p + 1, 0, none⟩ = some (.int .i64 0) := by rw [hw0, HP.out]; go_cell
     have x2 : w0.cell? ⟨p + 2, 0, none⟩ = some (.int .i64 0) := by rw [hw0, HP.out]; go_cell
     have y1 : w0.frozen? ⟨p + 1, 0, none⟩ = false := by rw [hw0, HP.out]; (try simp only [frozen?_alloc_cells, World.frozen?_setCell]); first | assumption | exact fz_new (by (try simp only [World.size_alloc]); omega)
     have y2 : w0.frozen? ⟨p + 2, 0, none⟩ = false := by rw [hw0, HP.out]; (try simp only [frozen?_alloc_cells, World.frozen?_setCell]); first | assumption | exact fz_new (by (try simp only [World.size_alloc]); omega)
     have B0 := Lib.hid (show Bl w w0 by rw [hw0]; go_grown)
     rw [← HP.out, ← hw0]
     clear hw0
     refine ⟨trivial, ?_⟩
     gi_at_call 60
     refine (callsIn_wide.2 (HR.out _ B0.out)).mono ?_
     rintro e1 w1 ⟨hb, ⟨h0, _⟩ | ⟨-, B, rfl, hB, hR⟩⟩
     · rw [HV.out] at h0; cases h0
     · have B1 := Lib.hid (B0.out.tr hb)
       have RR := Lib.hid hR
       have z1 := hb.size
       have lB := hR.lt
       have x0 := kcb hb x0
       have x1 := kcb hb x1
       have x2 := kcb hb x2
       have y1 := (hb.frozen (p := ⟨p + 1, 0, none⟩) (by show p + 1 < _; omega)).trans y1
       have y2 := (hb.frozen (p := ⟨p + 2, 0, none⟩) (by show p + 2 < _; omega)).trans y2
       clear hb hR
       gi_wp2_with fail
       refine ⟨trivial, ?_⟩
       gi_at_call 66
       refine (callsIn_wide.2 (isBound_any q _)).mono ?_
       rintro e4 w4 ⟨rfl, rfl⟩
       rw [HBB.out]
       have hbb := HBB.out
       · have HC := Lib.hid (show strE L n q = (if (sF (pickF L n (mstreakP q))).2.2.2 = 0 then (0, 0, 8) else ((sF (pickF L n (mstreakP q))).2.2.1, (sF (pickF L n (mstreakP q))).2.2.2, 0)) by rw [strE, if_pos (HC0.out hbb)])
         clear hbb
         gi_wp2_with fail
         obtain ⟨b, hb⟩ : ∃ b, b = w1.heap.size := ⟨_, rfl⟩
         obtain ⟨w2, hw2⟩ : ∃ w2, w2 = (w1.alloc (.cells #[.int .i64 0] 3)).alloc (.cells #[.int .i64 (-1)] 3) := ⟨_, rfl⟩
         have z2 : w2.heap.size = b + 2 := by rw [hw2, hb]; simp
         have c6 : w2.cell? ⟨b, 0, none⟩ = some (.int .i64 0) := by rw [hw2, hb]; go_cell
         have c7 : w2.cell? ⟨b + 1, 0, none⟩ = some (.int .i64 (-1)) := by rw [hw2, hb]; go_cell
         have f6 : w2.frozen? ⟨b, 0, none⟩ = false := by rw [hw2, hb]; (try simp only [frozen?_alloc_cells, World.frozen?_setCell]); first | assumption | exact fz_new (by (try simp only [World.size_alloc]); omega)
         have f7 : w2.frozen? ⟨b + 1, 0, none⟩ = false := by rw [hw2, hb]; (try simp only [frozen?_alloc_cells, World.frozen?_setCell]); first | assumption | exact fz_new (by (try simp only [World.size_alloc]); omega)
         have B12 := Lib.hid (show Bl w1 w2 by rw [hw2]; go_grown)
         have B2 := Lib.hid (B1.out.tr B12.out)
         have R2 := Lib.hid (RR.out.below B12.out)
         have x0 := kcb B12.out x0
         have x1 := kcb B12.out x1
         have x2 := kcb B12.out x2
         have y1 := (B12.out.frozen (p := ⟨p + 1, 0, none⟩) (by show p + 1 < _; omega)).trans y1
         have y2 := (B12.out.frozen (p := ⟨p + 2, 0, none⟩) (by show p + 2 < _; omega)).trans y2
         rw [← hb, ← hw2]
         have hb1 : b ≤ w1.heap.size := by omega
         have hb2 : w1.heap.size ≤ b := by omega
         obtain ⟨t, ht⟩ : ∃ t, t = w2.heap.size := ⟨_, rfl⟩
         have t1 : t ≤ w2.heap.size := by omega
         have t2 : w2.heap.size ≤ t := by omega
         have t3 : b + 2 ≤ t := by omega
         have t4 : t ≤ b + 2 := by omega
         have HTT := Lib.hid ht
         clear hw2 hb z2 ht
         refine ⟨trivial, ?_⟩
         gi_at_call 62
         refine (callsIn_wide.2 (offsR_any B 69 #[.pointer (some ⟨p, 0, none⟩)] _)).mono ?_
         rintro e3 w3 ⟨rfl, ⟨h1, h2⟩, hb3⟩
         rw [← HTT.out] at h1 h2 ⊢
         have B3 := Lib.hid (B2.out.tr hb3)
         have z3 := hb3.size
         have R3 := Lib.hid (R2.out.below hb3)
         have l1 := ltb h1
         have l2 := ltb h2
         have x0 := kcb hb3 x0
         have HSQ := Lib.hid (offs1_seq t (t + 1) B n p q L w3 HV.out h1 h2 R3.out x0)
         have HKK := Lib.hid (show ∀ k, (k = t ∨ k = t + 1 ∨ k = B ∨ k = p) → k < w3.heap.size by
           rintro k (rfl | rfl | rfl | rfl) <;> omega)
         have q6 := kcb hb3 c6
         have q7 := kcb hb3 c7
         have q1 := kcb hb3 x1
         have q2 := kcb hb3 x2
         have g6 := (hb3.frozen (p := ⟨b, 0, none⟩) (by show b < _; omega)).trans f6
         have g7 := (hb3.frozen (p := ⟨b + 1, 0, none⟩) (by show b + 1 < _; omega)).trans f7
         have g1 := (hb3.frozen (p := ⟨p + 1, 0, none⟩) (by show p + 1 < _; omega)).trans y1
         have g2 := (hb3.frozen (p := ⟨p + 2, 0, none⟩) (by show p + 2 < _; omega)).trans y2
         clear hb3 c6 c7 f6 f7 x1 x2 y1 y2
         gi_wp2_with fail
         have hBp : B < b := by omega
         have hBn : B ≠ p + 1 ∧ B ≠ p + 2 := by omega
         refine loopO rfl (by omega) (gf := 101) (lb := #[.pointer (some ⟨t, 0, none⟩), .pointer (some ⟨t + 1, 0, none⟩)]) rfl trivial (enters_of Try.func101 (by kernel_rfl) rfl) HSQ.out KpS.trans (fun W l o hl _ => KpS.put HKK.out W l o (by omega)) (Bl.rf _) (fun _ => rfl)
           (fun x X Y h hk => trivial)
           (fun pre O W' => W'.cell? ⟨p + 1, 0, none⟩ = some (.int .i64 (sF (pre.map dayD)).2.2.1) ∧ W'.frozen? ⟨p + 1, 0, none⟩ = false ∧ W'.cell? ⟨p + 2, 0, none⟩ = some (.int .i64 (sF (pre.map dayD)).2.2.2) ∧ W'.frozen? ⟨p + 2, 0, none⟩ = false ∧ W'.cell? ⟨b, 0, none⟩ = some (.int .i64 (sF (pre.map dayD)).1) ∧ W'.frozen? ⟨b, 0, none⟩ = false ∧ W'.cell? ⟨b + 1, 0, none⟩ = some (.int .i64 (sF (pre.map dayD)).2.1) ∧ W'.frozen? ⟨b + 1, 0, none⟩ = false ∧ (0 ≤ (sF (pre.map dayD)).1 ∧ (sF (pre.map dayD)).1 ≤ 182985) ∧ Bl w W')
           (fun pre O W' => False)
           (fun s O X Y h hb hO => by
             obtain ⟨a1, a2, a3, a4, a5, a6, a7, a8, a9, a10⟩ := h
             exact ⟨(hb.cell (p := ⟨p + 1, 0, none⟩) (by show p + 1 < _; omega)).trans a1, (hb.frozen (p := ⟨p + 1, 0, none⟩) (by show p + 1 < _; omega)).trans a2, (hb.cell (p := ⟨p + 2, 0, none⟩) (by show p + 2 < _; omega)).trans a3, (hb.frozen (p := ⟨p + 2, 0, none⟩) (by show p + 2 < _; omega)).trans a4, (hb.cell (p := ⟨b, 0, none⟩) (by show b < _; omega)).trans a5, (hb.frozen (p := ⟨b, 0, none⟩) (by show b < _; omega)).trans a6, (hb.cell (p := ⟨b + 1, 0, none⟩) (by show b + 1 < _; omega)).trans a7, (hb.frozen (p := ⟨b + 1, 0, none⟩) (by show b + 1 < _; omega)).trans a8, a9, a10.trans (hb.mono (by omega))⟩)
           (fun s O X Y h hb hO => h)
           ⟨q1, g1, q2, g2, q6, g6, q7, g7, ⟨by decide, by decide⟩, B3.out⟩
           (fun x Wb a' X => a' = { tmps := #[.slice A n c, .int .i64 q, undef, .pointer (some ⟨p, 0, none⟩), .pointer (some ⟨p + 1, 0, none⟩), .pointer (some ⟨p + 2, 0, none⟩), .int .i64 0, .map (some B), .pointer (some ⟨b, 0, none⟩), .pointer (some ⟨b + 1, 0, none⟩), .int .i64 x.1.1, .tuple #[.map (some B), .int .i64 0], .slice A n c, .tuple #[.map (some B), .int .i64 0], .map (some B), .int .i64 0, .int .i64 0, .bool false, undef, .int .i64 q, .bool true, .bool false, .map (some B), .func (.func 69) #[] #[.pointer (some ⟨p, 0, none⟩)], .func (.func 101) #[] #[.pointer (some ⟨t, 0, none⟩), .pointer (some ⟨t + 1, 0, none⟩)], .int .i64 x.1.1, .int .i64 x.1.2, undef, undef, undef, undef, undef, undef, undef, undef, undef, undef, undef, undef, undef, undef, undef, undef, undef, undef, undef], defers := [] } ∧ X = Wb)
           ?hA ?assign ?body ?done ?stop
         case hA => rintro x Wb a' X k o ⟨rfl, rfl⟩ _ _; exact ⟨rfl, rfl⟩
         case assign =>
           intro k x Wb K hz hK
           unfold encD
           gi_wp2
           exact hK _ _ (Below.refl _ _) ⟨rfl, rfl⟩
         case body =>
           rintro k pre x O a' Wb X hk ⟨r, hr⟩ ⟨c1, f1, c2, f2, c6, f6, c7, f7, hs, i6⟩ hO hat hG hX ⟨rfl, rfl⟩ hlen
           have l1' := ltb c1
           have l2' := ltb c2
           have l6 := ltb c6
           have l7 := ltb c7
           have hxb := x.2
           have HW := Lib.hid (show sF ((pre ++ [x]).map dayD) = sStep (sF (pre.map dayD)) x.1.1 by rw [List.map_append, List.map_singleton, sF_snoc]; rfl)
           unfold sStep fst9 at HW
           have HO := Lib.hid hO
           have H6 := Lib.hid i6
           have F1 := Lib.hid f1
           have F2 := Lib.hid f2
           have F6 := Lib.hid f6
           have F7 := Lib.hid f7
           obtain ⟨d, hd⟩ : ∃ d, d = x.1.1 := ⟨_, rfl⟩
           have hd1 : 0 ≤ d := by rw [hd]; exact hxb.1
           have hd2 : d ≤ 182985 := by rw [hd]; exact hxb.2.1
           rw [← hd] at HW
           simp only [← hd]
           obtain ⟨s, hss⟩ : ∃ s, s = sF (pre.map dayD) := ⟨_, rfl⟩
           rw [← hss] at c1 c2 c6 c7 hs HW
           clear hd hxb hat hO i6 hss
           obtain ⟨s1, s2, s3, s4⟩ := s
           have hs1 : 0 ≤ s1 := hs.1
           have hs2 : s1 ≤ 182985 := hs.2
           clear hs
           simp only at c1 c2 c6 c7 HW
           have e1 : wrap64 (d + 1) = d + 1 := IntWalk.wrap64_in _ (by omega)
           have e2 : IntKind.i64.wrap (d + 1) = d + 1 := IntWalk.i64_in _ (by omega)
           have e3 : wrap64 (d + 1 - s1) = d + 1 - s1 := IntWalk.wrap64_in _ (by omega)
           have e4 : IntKind.i64.wrap (d + 1 - s1) = d + 1 - s1 := IntWalk.i64_in _ (by omega)
           have e5 : wrap64 (d + 1 - d) = d + 1 - d := IntWalk.wrap64_in _ (by omega)
           have e6 : IntKind.i64.wrap (d + 1 - d) = d + 1 - d := IntWalk.i64_in _ (by omega)
           by_cases hq : d = s2
           · subst hq
             have hqq : (d == d) = true := by simp
             rw [if_pos rfl] at HW
             by_cases hr : s4 < d + 1 - s1
             · rw [if_pos hr] at HW
               gi_wp2_with fail
               obtain ⟨V, hV⟩ : ∃ V, V = (X.setCell ⟨b + 1, 0, none⟩ (.int .i64 (d + 1))) := ⟨_, rfl⟩
               rw [← hV]
               have k1 : V.cell? ⟨p + 1, 0, none⟩ = some (.int .i64 (s3)) := by rw [hV]; go_cell
               have r1 : V.frozen? ⟨p + 1, 0, none⟩ = false := by rw [hV]; simp only [World.frozen?_setCell]; exact F1.out
               have k2 : V.cell? ⟨p + 2, 0, none⟩ = some (.int .i64 (s4)) := by rw [hV]; go_cell
               have r2 : V.frozen? ⟨p + 2, 0, none⟩ = false := by rw [hV]; simp only [World.frozen?_setCell]; exact F2.out
               have k6 : V.cell? ⟨b, 0, none⟩ = some (.int .i64 (s1)) := by rw [hV]; go_cell
               have r6 : V.frozen? ⟨b, 0, none⟩ = false := by rw [hV]; simp only [World.frozen?_setCell]; exact F6.out
               have k7 : V.cell? ⟨b + 1, 0, none⟩ = some (.int .i64 (d + 1)) := by rw [hV]; go_cell
               have r7 : V.frozen? ⟨b + 1, 0, none⟩ = false := by rw [hV]; simp only [World.frozen?_setCell]; exact F7.out
               have SX := Lib.hid (show ∀ g, g ≠ b → g ≠ b + 1 → V.heap[g]? = X.heap[g]? from fun g h1 h2 => by rw [hV]; exact Below.heap_setCell _ _ _ g (by show g ≠ b + 1; omega))
               have ZX := Lib.hid (show V.heap.size = X.heap.size by rw [hV]; simp)
               have BX := Lib.hid (show Bl w V by rw [hV]; exact (Below.setCell H6.out (p := ⟨b + 1, 0, none⟩) (by show w.heap.size ≤ b + 1; omega) _))
               have m1 := ltb k1
               have m2 := ltb k2
               have m6 := ltb k6
               have m7 := ltb k7
               clear hV c1 c2 c6 c7
               gi_region_with (fail)
               all_goals
                 first
                   | (obtain ⟨Y, hY⟩ : ∃ Y, Y = ((V.setCell ⟨p + 1, 0, none⟩ (.int .i64 (s1))).setCell ⟨p + 2, 0, none⟩ (.int .i64 (d + 1 - s1))).drew := ⟨_, rfl⟩
                      rw [← hY]
                      have y1 : Y.cell? ⟨p + 1, 0, none⟩ = some (.int .i64 (s1)) := by rw [hY]; go_cell
                      have u1 : Y.frozen? ⟨p + 1, 0, none⟩ = false := by rw [hY]; show World.frozen? ((V.setCell ⟨p + 1, 0, none⟩ (.int .i64 (s1))).setCell ⟨p + 2, 0, none⟩ (.int .i64 (d + 1 - s1))) _ = false; simp only [World.frozen?_setCell]; exact r1
                      have y2 : Y.cell? ⟨p + 2, 0, none⟩ = some (.int .i64 (d + 1 - s1)) := by rw [hY]; go_cell
                      have u2 : Y.frozen? ⟨p + 2, 0, none⟩ = false := by rw [hY]; show World.frozen? ((V.setCell ⟨p + 1, 0, none⟩ (.int .i64 (s1))).setCell ⟨p + 2, 0, none⟩ (.int .i64 (d + 1 - s1))) _ = false; simp only [World.frozen?_setCell]; exact r2
                      have y6 : Y.cell? ⟨b, 0, none⟩ = some (.int .i64 (s1)) := by rw [hY]; go_cell
                      have u6 : Y.frozen? ⟨b, 0, none⟩ = false := by rw [hY]; show World.frozen? ((V.setCell ⟨p + 1, 0, none⟩ (.int .i64 (s1))).setCell ⟨p + 2, 0, none⟩ (.int .i64 (d + 1 - s1))) _ = false; simp only [World.frozen?_setCell]; exact r6
                      have y7 : Y.cell? ⟨b + 1, 0, none⟩ = some (.int .i64 (d + 1)) := by rw [hY]; go_cell
                      have u7 : Y.frozen? ⟨b + 1, 0, none⟩ = false := by rw [hY]; show World.frozen? ((V.setCell ⟨p + 1, 0, none⟩ (.int .i64 (s1))).setCell ⟨p + 2, 0, none⟩ (.int .i64 (d + 1 - s1))) _ = false; simp only [World.frozen?_setCell]; exact r7
                      have sY : ∀ g, g ≠ b → g ≠ b + 1 → g ≠ p + 1 → g ≠ p + 2 → Y.heap[g]? = X.heap[g]? := fun g h1 h2 h3 h4 => by rw [hY]; exact ((Below.heap_setCell _ _ _ g (by show g ≠ p + 2; omega)).trans (Below.heap_setCell _ _ _ g (by show g ≠ p + 1; omega))).trans (SX.out g h1 h2)
                      have zY : Y.heap.size = X.heap.size := by rw [hY]; simp; exact ZX.out
                      have bY : Bl w Y := by rw [hY]; exact Bl.tr (Below.setCell (Below.setCell BX.out (p := ⟨p + 1, 0, none⟩) (by show w.heap.size ≤ p + 1; omega) _) (p := ⟨p + 2, 0, none⟩) (by show w.heap.size ≤ p + 2; omega) _) (bl_dr _)
                      clear hY
                      refine ⟨fun k => O k, fun k hk => ⟨.inl hk, by have := (HO.out k hk).2; omega⟩, ⟨by omega, fun k h1 h2 h3 => sY k (by omega) (by omega) (by omega) (by omega)⟩, ⟨by omega, fun k h1 => sY k (by rcases h1 with h1 | h1 | h1 | h1 <;> omega) (by rcases h1 with h1 | h1 | h1 | h1 <;> omega) (by rcases h1 with h1 | h1 | h1 | h1 <;> omega) (by rcases h1 with h1 | h1 | h1 | h1 <;> omega)⟩, ?_, u1, ?_, u2, ?_, u6, ?_, u7, ?_, bY⟩
                      · rw [HW.out]; exact y1
                      · rw [HW.out]; exact y2
                      · rw [HW.out]; exact y6
                      · rw [HW.out]; exact y7
                      · rw [HW.out]; exact ⟨by first | exact hs1 | exact hd1, by first | exact hs2 | exact hd2⟩)
                   | (obtain ⟨Y, hY⟩ : ∃ Y, Y = ((V.setCell ⟨p + 2, 0, none⟩ (.int .i64 (d + 1 - s1))).setCell ⟨p + 1, 0, none⟩ (.int .i64 (s1))).drew := ⟨_, rfl⟩
                      rw [← hY]
                      have y1 : Y.cell? ⟨p + 1, 0, none⟩ = some (.int .i64 (s1)) := by rw [hY]; go_cell
                      have u1 : Y.frozen? ⟨p + 1, 0, none⟩ = false := by rw [hY]; show World.frozen? ((V.setCell ⟨p + 2, 0, none⟩ (.int .i64 (d + 1 - s1))).setCell ⟨p + 1, 0, none⟩ (.int .i64 (s1))) _ = false; simp only [World.frozen?_setCell]; exact r1
                      have y2 : Y.cell? ⟨p + 2, 0, none⟩ = some (.int .i64 (d + 1 - s1)) := by rw [hY]; go_cell
                      have u2 : Y.frozen? ⟨p + 2, 0, none⟩ = false := by rw [hY]; show World.frozen? ((V.setCell ⟨p + 2, 0, none⟩ (.int .i64 (d + 1 - s1))).setCell ⟨p + 1, 0, none⟩ (.int .i64 (s1))) _ = false; simp only [World.frozen?_setCell]; exact r2
                      have y6 : Y.cell? ⟨b, 0, none⟩ = some (.int .i64 (s1)) := by rw [hY]; go_cell
                      have u6 : Y.frozen? ⟨b, 0, none⟩ = false := by rw [hY]; show World.frozen? ((V.setCell ⟨p + 2, 0, none⟩ (.int .i64 (d + 1 - s1))).setCell ⟨p + 1, 0, none⟩ (.int .i64 (s1))) _ = false; simp only [World.frozen?_setCell]; exact r6
                      have y7 : Y.cell? ⟨b + 1, 0, none⟩ = some (.int .i64 (d + 1)) := by rw [hY]; go_cell
                      have u7 : Y.frozen? ⟨b + 1, 0, none⟩ = false := by rw [hY]; show World.frozen? ((V.setCell ⟨p + 2, 0, none⟩ (.int .i64 (d + 1 - s1))).setCell ⟨p + 1, 0, none⟩ (.int .i64 (s1))) _ = false; simp only [World.frozen?_setCell]; exact r7
                      have sY : ∀ g, g ≠ b → g ≠ b + 1 → g ≠ p + 1 → g ≠ p + 2 → Y.heap[g]? = X.heap[g]? := fun g h1 h2 h3 h4 => by rw [hY]; exact ((Below.heap_setCell _ _ _ g (by show g ≠ p + 1; omega)).trans (Below.heap_setCell _ _ _ g (by show g ≠ p + 2; omega))).trans (SX.out g h1 h2)
                      have zY : Y.heap.size = X.heap.size := by rw [hY]; simp; exact ZX.out
                      have bY : Bl w Y := by rw [hY]; exact Bl.tr (Below.setCell (Below.setCell BX.out (p := ⟨p + 2, 0, none⟩) (by show w.heap.size ≤ p + 2; omega) _) (p := ⟨p + 1, 0, none⟩) (by show w.heap.size ≤ p + 1; omega) _) (bl_dr _)
                      clear hY
                      refine ⟨fun k => O k, fun k hk => ⟨.inl hk, by have := (HO.out k hk).2; omega⟩, ⟨by omega, fun k h1 h2 h3 => sY k (by omega) (by omega) (by omega) (by omega)⟩, ⟨by omega, fun k h1 => sY k (by rcases h1 with h1 | h1 | h1 | h1 <;> omega) (by rcases h1 with h1 | h1 | h1 | h1 <;> omega) (by rcases h1 with h1 | h1 | h1 | h1 <;> omega) (by rcases h1 with h1 | h1 | h1 | h1 <;> omega)⟩, ?_, u1, ?_, u2, ?_, u6, ?_, u7, ?_, bY⟩
                      · rw [HW.out]; exact y1
                      · rw [HW.out]; exact y2
                      · rw [HW.out]; exact y6
                      · rw [HW.out]; exact y7
                      · rw [HW.out]; exact ⟨by first | exact hs1 | exact hd1, by first | exact hs2 | exact hd2⟩)
             · rw [if_neg hr] at HW
               gi_wp2_with fail
               obtain ⟨Y, hY⟩ : ∃ Y, Y = (X.setCell ⟨b + 1, 0, none⟩ (.int .i64 (d + 1))) := ⟨_, rfl⟩
               rw [← hY]
               have y1 : Y.cell? ⟨p + 1, 0, none⟩ = some (.int .i64 (s3)) := by rw [hY]; go_cell
               have u1 : Y.frozen? ⟨p + 1, 0, none⟩ = false := by rw [hY]; simp only [World.frozen?_setCell]; exact F1.out
               have y2 : Y.cell? ⟨p + 2, 0, none⟩ = some (.int .i64 (s4)) := by rw [hY]; go_cell
               have u2 : Y.frozen? ⟨p + 2, 0, none⟩ = false := by rw [hY]; simp only [World.frozen?_setCell]; exact F2.out
               have y6 : Y.cell? ⟨b, 0, none⟩ = some (.int .i64 (s1)) := by rw [hY]; go_cell
               have u6 : Y.frozen? ⟨b, 0, none⟩ = false := by rw [hY]; simp only [World.frozen?_setCell]; exact F6.out
               have y7 : Y.cell? ⟨b + 1, 0, none⟩ = some (.int .i64 (d + 1)) := by rw [hY]; go_cell
               have u7 : Y.frozen? ⟨b + 1, 0, none⟩ = false := by rw [hY]; simp only [World.frozen?_setCell]; exact F7.out
               have sY : ∀ g, g ≠ b → g ≠ b + 1 → g ≠ p + 1 → g ≠ p + 2 → Y.heap[g]? = X.heap[g]? := fun g h1 h2 h3 h4 => by rw [hY]; exact Below.heap_setCell _ _ _ g (by show g ≠ b + 1; omega)
               have zY : Y.heap.size = X.heap.size := by rw [hY]; simp
               have bY : Bl w Y := by rw [hY]; exact (Below.setCell H6.out (p := ⟨b + 1, 0, none⟩) (by show w.heap.size ≤ b + 1; omega) _)
               clear hY
               refine ⟨fun k => O k, fun k hk => ⟨.inl hk, by have := (HO.out k hk).2; omega⟩, ⟨by omega, fun k h1 h2 h3 => sY k (by omega) (by omega) (by omega) (by omega)⟩, ⟨by omega, fun k h1 => sY k (by rcases h1 with h1 | h1 | h1 | h1 <;> omega) (by rcases h1 with h1 | h1 | h1 | h1 <;> omega) (by rcases h1 with h1 | h1 | h1 | h1 <;> omega) (by rcases h1 with h1 | h1 | h1 | h1 <;> omega)⟩, ?_, u1, ?_, u2, ?_, u6, ?_, u7, ?_, bY⟩
               · rw [HW.out]; exact y1
               · rw [HW.out]; exact y2
               · rw [HW.out]; exact y6
               · rw [HW.out]; exact y7
               · rw [HW.out]; exact ⟨by first | exact hs1 | exact hd1, by first | exact hs2 | exact hd2⟩
           · have hqq : (d == s2) = false := by simpa using hq
             rw [if_neg hq] at HW
             by_cases hr : s4 < d + 1 - d
             · rw [if_pos hr] at HW
               gi_wp2_with fail
               obtain ⟨V, hV⟩ : ∃ V, V = ((X.setCell ⟨b, 0, none⟩ (.int .i64 (d))).setCell ⟨b + 1, 0, none⟩ (.int .i64 (d + 1))) := ⟨_, rfl⟩
               rw [← hV]
               have k1 : V.cell? ⟨p + 1, 0, none⟩ = some (.int .i64 (s3)) := by rw [hV]; go_cell
               have r1 : V.frozen? ⟨p + 1, 0, none⟩ = false := by rw [hV]; simp only [World.frozen?_setCell]; exact F1.out
               have k2 : V.cell? ⟨p + 2, 0, none⟩ = some (.int .i64 (s4)) := by rw [hV]; go_cell
               have r2 : V.frozen? ⟨p + 2, 0, none⟩ = false := by rw [hV]; simp only [World.frozen?_setCell]; exact F2.out
               have k6 : V.cell? ⟨b, 0, none⟩ = some (.int .i64 (d)) := by rw [hV]; go_cell
               have r6 : V.frozen? ⟨b, 0, none⟩ = false := by rw [hV]; simp only [World.frozen?_setCell]; exact F6.out
               have k7 : V.cell? ⟨b + 1, 0, none⟩ = some (.int .i64 (d + 1)) := by rw [hV]; go_cell
               have r7 : V.frozen? ⟨b + 1, 0, none⟩ = false := by rw [hV]; simp only [World.frozen?_setCell]; exact F7.out
               have SX := Lib.hid (show ∀ g, g ≠ b → g ≠ b + 1 → V.heap[g]? = X.heap[g]? from fun g h1 h2 => by rw [hV]; exact (Below.heap_setCell _ _ _ g (by show g ≠ b + 1; omega)).trans (Below.heap_setCell _ _ _ g (by show g ≠ b; omega)))
               have ZX := Lib.hid (show V.heap.size = X.heap.size by rw [hV]; simp)
               have BX := Lib.hid (show Bl w V by rw [hV]; exact (Below.setCell (Below.setCell H6.out (p := ⟨b, 0, none⟩) (by show w.heap.size ≤ b; omega) _) (p := ⟨b + 1, 0, none⟩) (by show w.heap.size ≤ b + 1; omega) _))
               have m1 := ltb k1
               have m2 := ltb k2
               have m6 := ltb k6
               have m7 := ltb k7
               clear hV c1 c2 c6 c7
               gi_region_with (fail)
               all_goals
                 first
                   | (obtain ⟨Y, hY⟩ : ∃ Y, Y = ((V.setCell ⟨p + 1, 0, none⟩ (.int .i64 (d))).setCell ⟨p + 2, 0, none⟩ (.int .i64 (d + 1 - d))).drew := ⟨_, rfl⟩
                      rw [← hY]
                      have y1 : Y.cell? ⟨p + 1, 0, none⟩ = some (.int .i64 (d)) := by rw [hY]; go_cell
                      have u1 : Y.frozen? ⟨p + 1, 0, none⟩ = false := by rw [hY]; show World.frozen? ((V.setCell ⟨p + 1, 0, none⟩ (.int .i64 (d))).setCell ⟨p + 2, 0, none⟩ (.int .i64 (d + 1 - d))) _ = false; simp only [World.frozen?_setCell]; exact r1
                      have y2 : Y.cell? ⟨p + 2, 0, none⟩ = some (.int .i64 (d + 1 - d)) := by rw [hY]; go_cell
                      have u2 : Y.frozen? ⟨p + 2, 0, none⟩ = false := by rw [hY]; show World.frozen? ((V.setCell ⟨p + 1, 0, none⟩ (.int .i64 (d))).setCell ⟨p + 2, 0, none⟩ (.int .i64 (d + 1 - d))) _ = false; simp only [World.frozen?_setCell]; exact r2
                      have y6 : Y.cell? ⟨b, 0, none⟩ = some (.int .i64 (d)) := by rw [hY]; go_cell
                      have u6 : Y.frozen? ⟨b, 0, none⟩ = false := by rw [hY]; show World.frozen? ((V.setCell ⟨p + 1, 0, none⟩ (.int .i64 (d))).setCell ⟨p + 2, 0, none⟩ (.int .i64 (d + 1 - d))) _ = false; simp only [World.frozen?_setCell]; exact r6
                      have y7 : Y.cell? ⟨b + 1, 0, none⟩ = some (.int .i64 (d + 1)) := by rw [hY]; go_cell
                      have u7 : Y.frozen? ⟨b + 1, 0, none⟩ = false := by rw [hY]; show World.frozen? ((V.setCell ⟨p + 1, 0, none⟩ (.int .i64 (d))).setCell ⟨p + 2, 0, none⟩ (.int .i64 (d + 1 - d))) _ = false; simp only [World.frozen?_setCell]; exact r7
                      have sY : ∀ g, g ≠ b → g ≠ b + 1 → g ≠ p + 1 → g ≠ p + 2 → Y.heap[g]? = X.heap[g]? := fun g h1 h2 h3 h4 => by rw [hY]; exact ((Below.heap_setCell _ _ _ g (by show g ≠ p + 2; omega)).trans (Below.heap_setCell _ _ _ g (by show g ≠ p + 1; omega))).trans (SX.out g h1 h2)
                      have zY : Y.heap.size = X.heap.size := by rw [hY]; simp; exact ZX.out
                      have bY : Bl w Y := by rw [hY]; exact Bl.tr (Below.setCell (Below.setCell BX.out (p := ⟨p + 1, 0, none⟩) (by show w.heap.size ≤ p + 1; omega) _) (p := ⟨p + 2, 0, none⟩) (by show w.heap.size ≤ p + 2; omega) _) (bl_dr _)
                      clear hY
                      refine ⟨fun k => O k, fun k hk => ⟨.inl hk, by have := (HO.out k hk).2; omega⟩, ⟨by omega, fun k h1 h2 h3 => sY k (by omega) (by omega) (by omega) (by omega)⟩, ⟨by omega, fun k h1 => sY k (by rcases h1 with h1 | h1 | h1 | h1 <;> omega) (by rcases h1 with h1 | h1 | h1 | h1 <;> omega) (by rcases h1 with h1 | h1 | h1 | h1 <;> omega) (by rcases h1 with h1 | h1 | h1 | h1 <;> omega)⟩, ?_, u1, ?_, u2, ?_, u6, ?_, u7, ?_, bY⟩
                      · rw [HW.out]; exact y1
                      · rw [HW.out]; exact y2
                      · rw [HW.out]; exact y6
                      · rw [HW.out]; exact y7
                      · rw [HW.out]; exact ⟨by first | exact hs1 | exact hd1, by first | exact hs2 | exact hd2⟩)
                   | (obtain ⟨Y, hY⟩ : ∃ Y, Y = ((V.setCell ⟨p + 2, 0, none⟩ (.int .i64 (d + 1 - d))).setCell ⟨p + 1, 0, none⟩ (.int .i64 (d))).drew := ⟨_, rfl⟩
                      rw [← hY]
                      have y1 : Y.cell? ⟨p + 1, 0, none⟩ = some (.int .i64 (d)) := by rw [hY]; go_cell
                      have u1 : Y.frozen? ⟨p + 1, 0, none⟩ = false := by rw [hY]; show World.frozen? ((V.setCell ⟨p + 2, 0, none⟩ (.int .i64 (d + 1 - d))).setCell ⟨p + 1, 0, none⟩ (.int .i64 (d))) _ = false; simp only [World.frozen?_setCell]; exact r1
                      have y2 : Y.cell? ⟨p + 2, 0, none⟩ = some (.int .i64 (d + 1 - d)) := by rw [hY]; go_cell
                      have u2 : Y.frozen? ⟨p + 2, 0, none⟩ = false := by rw [hY]; show World.frozen? ((V.setCell ⟨p + 2, 0, none⟩ (.int .i64 (d + 1 - d))).setCell ⟨p + 1, 0, none⟩ (.int .i64 (d))) _ = false; simp only [World.frozen?_setCell]; exact r2
                      have y6 : Y.cell? ⟨b, 0, none⟩ = some (.int .i64 (d)) := by rw [hY]; go_cell
                      have u6 : Y.frozen? ⟨b, 0, none⟩ = false := by rw [hY]; show World.frozen? ((V.setCell ⟨p + 2, 0, none⟩ (.int .i64 (d + 1 - d))).setCell ⟨p + 1, 0, none⟩ (.int .i64 (d))) _ = false; simp only [World.frozen?_setCell]; exact r6
                      have y7 : Y.cell? ⟨b + 1, 0, none⟩ = some (.int .i64 (d + 1)) := by rw [hY]; go_cell
                      have u7 : Y.frozen? ⟨b + 1, 0, none⟩ = false := by rw [hY]; show World.frozen? ((V.setCell ⟨p + 2, 0, none⟩ (.int .i64 (d + 1 - d))).setCell ⟨p + 1, 0, none⟩ (.int .i64 (d))) _ = false; simp only [World.frozen?_setCell]; exact r7
                      have sY : ∀ g, g ≠ b → g ≠ b + 1 → g ≠ p + 1 → g ≠ p + 2 → Y.heap[g]? = X.heap[g]? := fun g h1 h2 h3 h4 => by rw [hY]; exact ((Below.heap_setCell _ _ _ g (by show g ≠ p + 1; omega)).trans (Below.heap_setCell _ _ _ g (by show g ≠ p + 2; omega))).trans (SX.out g h1 h2)
                      have zY : Y.heap.size = X.heap.size := by rw [hY]; simp; exact ZX.out
                      have bY : Bl w Y := by rw [hY]; exact Bl.tr (Below.setCell (Below.setCell BX.out (p := ⟨p + 2, 0, none⟩) (by show w.heap.size ≤ p + 2; omega) _) (p := ⟨p + 1, 0, none⟩) (by show w.heap.size ≤ p + 1; omega) _) (bl_dr _)
                      clear hY
                      refine ⟨fun k => O k, fun k hk => ⟨.inl hk, by have := (HO.out k hk).2; omega⟩, ⟨by omega, fun k h1 h2 h3 => sY k (by omega) (by omega) (by omega) (by omega)⟩, ⟨by omega, fun k h1 => sY k (by rcases h1 with h1 | h1 | h1 | h1 <;> omega) (by rcases h1 with h1 | h1 | h1 | h1 <;> omega) (by rcases h1 with h1 | h1 | h1 | h1 <;> omega) (by rcases h1 with h1 | h1 | h1 | h1 <;> omega)⟩, ?_, u1, ?_, u2, ?_, u6, ?_, u7, ?_, bY⟩
                      · rw [HW.out]; exact y1
                      · rw [HW.out]; exact y2
                      · rw [HW.out]; exact y6
                      · rw [HW.out]; exact y7
                      · rw [HW.out]; exact ⟨by first | exact hs1 | exact hd1, by first | exact hs2 | exact hd2⟩)
             · rw [if_neg hr] at HW
               gi_wp2_with fail
               obtain ⟨Y, hY⟩ : ∃ Y, Y = ((X.setCell ⟨b, 0, none⟩ (.int .i64 (d))).setCell ⟨b + 1, 0, none⟩ (.int .i64 (d + 1))) := ⟨_, rfl⟩
               rw [← hY]
               have y1 : Y.cell? ⟨p + 1, 0, none⟩ = some (.int .i64 (s3)) := by rw [hY]; go_cell
               have u1 : Y.frozen? ⟨p + 1, 0, none⟩ = false := by rw [hY]; simp only [World.frozen?_setCell]; exact F1.out
               have y2 : Y.cell? ⟨p + 2, 0, none⟩ = some (.int .i64 (s4)) := by rw [hY]; go_cell
               have u2 : Y.frozen? ⟨p + 2, 0, none⟩ = false := by rw [hY]; simp only [World.frozen?_setCell]; exact F2.out
               have y6 : Y.cell? ⟨b, 0, none⟩ = some (.int .i64 (d)) := by rw [hY]; go_cell
               have u6 : Y.frozen? ⟨b, 0, none⟩ = false := by rw [hY]; simp only [World.frozen?_setCell]; exact F6.out
               have y7 : Y.cell? ⟨b + 1, 0, none⟩ = some (.int .i64 (d + 1)) := by rw [hY]; go_cell
               have u7 : Y.frozen? ⟨b + 1, 0, none⟩ = false := by rw [hY]; simp only [World.frozen?_setCell]; exact F7.out
               have sY : ∀ g, g ≠ b → g ≠ b + 1 → g ≠ p + 1 → g ≠ p + 2 → Y.heap[g]? = X.heap[g]? := fun g h1 h2 h3 h4 => by rw [hY]; exact (Below.heap_setCell _ _ _ g (by show g ≠ b + 1; omega)).trans (Below.heap_setCell _ _ _ g (by show g ≠ b; omega))
               have zY : Y.heap.size = X.heap.size := by rw [hY]; simp
               have bY : Bl w Y := by rw [hY]; exact (Below.setCell (Below.setCell H6.out (p := ⟨b, 0, none⟩) (by show w.heap.size ≤ b; omega) _) (p := ⟨b + 1, 0, none⟩) (by show w.heap.size ≤ b + 1; omega) _)
               clear hY
               refine ⟨fun k => O k, fun k hk => ⟨.inl hk, by have := (HO.out k hk).2; omega⟩, ⟨by omega, fun k h1 h2 h3 => sY k (by omega) (by omega) (by omega) (by omega)⟩, ⟨by omega, fun k h1 => sY k (by rcases h1 with h1 | h1 | h1 | h1 <;> omega) (by rcases h1 with h1 | h1 | h1 | h1 <;> omega) (by rcases h1 with h1 | h1 | h1 | h1 <;> omega) (by rcases h1 with h1 | h1 | h1 | h1 <;> omega)⟩, ?_, u1, ?_, u2, ?_, u6, ?_, u7, ?_, bY⟩
               · rw [HW.out]; exact y1
               · rw [HW.out]; exact y2
               · rw [HW.out]; exact y6
               · rw [HW.out]; exact y7
               · rw [HW.out]; exact ⟨by first | exact hs1 | exact hd1, by first | exact hs2 | exact hd2⟩
         case done =>
           rintro Db xs O W' hD hnO hO hS ⟨c1, f1, c2, f2, c6, f6, c7, f7, -, a5⟩ hd
           have l1' := ltb c1
           have l2' := ltb c2
           have hS : xs = _ := hS
           rw [hS, HPK.out] at c1 c2
           clear c6 c7 f6 f7
           have lDb := (Array.getElem?_eq_some_iff.1 hd).1
           have B5 := Lib.hid a5
           obtain ⟨s, hss⟩ : ∃ s, s = sF (pickF L n (mstreakP q)) := ⟨_, rfl⟩
           rw [← hss] at c1 c2 HC
           clear hss a5
           obtain ⟨s1, s2, s3, s4⟩ := s
           simp only at c1 c2
           by_cases hq : s4 = 0
           · have HQ := Lib.hid (show strE L n q = (0, 0, 8) by rw [HC.out]; exact if_pos hq)
             have hqq : (s4 == 0) = true := by simpa using hq
             clear HC
             gi_wp2
             have hd2 : ((W'.setCell ⟨p + 1, 0, none⟩ (.int .i64 0)).setCell ⟨p + 2, 0, none⟩ (.int .i64 0)).heap[Db]? = some (.deferred (some [])) := ((Below.heap_setCell _ _ _ Db (by show Db ≠ p + 2; omega)).trans (Below.heap_setCell _ _ _ Db (by show Db ≠ p + 1; omega))).trans hd
             refine ⟨by simp, .inl ⟨_, _, rfl, run_takeDeferred hd2, ?_⟩⟩
             exact ⟨_, strk_res _ _ (p + 1) (p + 2) 0 0 8 rfl rfl rfl (cell_put (by omega) (by go_cell)) (cell_put (by omega) (by go_cell)), by rw [HQ.out], (Below.setCell (Below.setCell B5.out (p := ⟨p + 1, 0, none⟩) (by show w.heap.size ≤ p + 1; omega) _) (p := ⟨p + 2, 0, none⟩) (by show w.heap.size ≤ p + 2; omega) _).trans ((below_put _ _ (Nat.le_refl Db) (by (try simp only [World.size_setCell]); omega)).mono (by omega))⟩
           · have HQ := Lib.hid (show strE L n q = (s3, s4, 0) by rw [HC.out]; exact if_neg hq)
             have hqq : (s4 == 0) = false := by simpa using hq
             have F1 := Lib.hid f1
             have F2 := Lib.hid f2
             clear HC
             gi_wp2_with fail
             gi_region
             all_goals
               gi_wp2_with fail
               first
                 | (have hd2 : (((W'.setCell ⟨p + 1, 0, none⟩ (.int .i64 s3)).setCell ⟨p + 2, 0, none⟩ (.int .i64 s4)).drew).heap[Db]? = some (.deferred (some [])) := ((Below.heap_setCell _ _ _ Db (by show Db ≠ p + 2; omega)).trans (Below.heap_setCell _ _ _ Db (by show Db ≠ p + 1; omega))).trans hd
                    refine ⟨by simp, .inl ⟨_, _, rfl, run_takeDeferred hd2, ?_⟩⟩
                    exact ⟨_, strk_res _ _ (p + 1) (p + 2) s3 s4 0 rfl rfl rfl (cell_put (by omega) (by go_cell)) (cell_put (by omega) (by go_cell)), by rw [HQ.out], (Bl.tr (Below.setCell (Below.setCell B5.out (p := ⟨p + 1, 0, none⟩) (by show w.heap.size ≤ p + 1; omega) _) (p := ⟨p + 2, 0, none⟩) (by show w.heap.size ≤ p + 2; omega) _) (bl_dr _)).trans ((below_put _ _ (Nat.le_refl Db) (by (try simp only [World.size_drew, World.size_setCell]); omega)).mono (by omega))⟩)
                 | (have hd2 : (((W'.setCell ⟨p + 2, 0, none⟩ (.int .i64 s4)).setCell ⟨p + 1, 0, none⟩ (.int .i64 s3)).drew).heap[Db]? = some (.deferred (some [])) := ((Below.heap_setCell _ _ _ Db (by show Db ≠ p + 1; omega)).trans (Below.heap_setCell _ _ _ Db (by show Db ≠ p + 2; omega))).trans hd
                    refine ⟨by simp, .inl ⟨_, _, rfl, run_takeDeferred hd2, ?_⟩⟩
                    exact ⟨_, strk_res _ _ (p + 1) (p + 2) s3 s4 0 rfl rfl rfl (cell_put (by omega) (by go_cell)) (cell_put (by omega) (by go_cell)), by rw [HQ.out], (Bl.tr (Below.setCell (Below.setCell B5.out (p := ⟨p + 2, 0, none⟩) (by show w.heap.size ≤ p + 2; omega) _) (p := ⟨p + 1, 0, none⟩) (by show w.heap.size ≤ p + 1; omega) _) (bl_dr _)).trans ((below_put _ _ (Nat.le_refl Db) (by (try simp only [World.size_drew, World.size_setCell]); omega)).mono (by omega))⟩)
         case stop =>
           rintro Db pre O W' hD hnO hO hS h hd
           exact h.elim
end Go.Proofs.Ytbmenpfpeadckaa
