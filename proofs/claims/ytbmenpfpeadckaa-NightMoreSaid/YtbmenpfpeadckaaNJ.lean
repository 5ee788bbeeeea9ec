/-
  Contracts of package night: the first one of the lists.
-/
import Derived.Test.YtbmenpfpeadckaaNI
namespace Go.Proofs.Ytbmenpfpeadckaa
open Go.RowKit Go.Maps
set_option linter.unusedSimpArgs false
set_option linter.unusedVariables false

def SH (w : World) (b2 oa ob : Nat) (y x : Ch) (W' : World) : Prop := Bl w W' ∧ W'.cell? ⟨b2, oa, none⟩ = some (.string y.nm) ∧ W'.cell? ⟨b2, oa + 1, none⟩ = some (.int .i64 y.fr) ∧ W'.cell? ⟨b2, oa + 2, none⟩ = some (.int .i64 y.to) ∧ W'.cell? ⟨b2, oa + 3, none⟩ = some (.int .i64 y.tl) ∧ W'.cell? ⟨b2, oa + 4, none⟩ = some (.int .i64 y.wo) ∧ W'.cell? ⟨b2, ob, none⟩ = some (.string x.nm) ∧ W'.cell? ⟨b2, ob + 1, none⟩ = some (.int .i64 x.fr) ∧ W'.cell? ⟨b2, ob + 2, none⟩ = some (.int .i64 x.to) ∧ W'.cell? ⟨b2, ob + 3, none⟩ = some (.int .i64 x.tl) ∧ W'.cell? ⟨b2, ob + 4, none⟩ = some (.int .i64 x.wo) ∧ b2 < W'.heap.size
theorem SH.t {w : World} {b2 oa ob : Nat} {y x : Ch} {W W' : World} (h : SH w b2 oa ob y x W) (hb : Bl W W') : SH w b2 oa ob y x W' := by
  obtain ⟨h0, a0, a1, a2, a3, a4, b0, b1, b2', b3, b4, l⟩ := h
  exact ⟨h0.tr hb, kcb hb a0, kcb hb a1, kcb hb a2, kcb hb a3, kcb hb a4, kcb hb b0, kcb hb b1, kcb hb b2', kcb hb b3, kcb hb b4, Nat.lt_of_lt_of_le l hb.size⟩
/-- The map of what the first lists are. -/
def FM (w : World) (B k : Nat) (E : Int → List Int) : Prop := ∃ V, MapV w B k V ∧ ∀ j, IsL w (B + 1) (V j) (E j)
theorem FM.below {w w' : World} {B k : Nat} {E : Int → List Int} (h : FM w B k E) (hb : Bl w w') : FM w' B k E := by
  obtain ⟨V, h1, h2⟩ := h
  exact ⟨V, h1.below hb, fun j => (h2 j).below hb⟩
set_option maxRecDepth 100000 in
set_option maxHeartbeats 3200000 in
theorem firstN_any (A : Option Addr) (n c : Nat) (L : Nat → Ch) (av : Value) (gl : List Int) (per : Int) (w : World) (lo : Nat) (hA : Chl w A n L) (hn : n ≤ 20) (hV : ∀ j, j < n → vcB (L j) = true) (hp : 0 ≤ per ∧ per ≤ 10000) (hg : IsL w lo av gl) (hi : inx n gl) (hm : gl.length ≤ 20) :
    Calls Try.prog 35 #[.slice A n c, av, .int .i64 per, .func (.func 37) #[.agg #[.slice A n c]] #[]] w fun e w' => Bl w w' ∧ ∃ v, e = .returned v ∧ IsL w' w.heap.size v (stF (fun j i => flw (L j.toNat) (L i.toNat) per) (cmpL L) (fun k => gl.getD k 0) gl.length).b := by
  obtain ⟨i0, hi0, hz0, hz1, hz2⟩ := info_parts6N int_infoN
  have HI := Lib.hid (And.intro hi0 (And.intro hz0 (And.intro hz1 hz2)))
  clear hi0 hz0 hz1 hz2
  obtain ⟨B1, d1, rfl, q1, q2, hsl, hlo⟩ := hg
  obtain ⟨fol, hfol⟩ : ∃ fol : Int → Int → Bool, fol = (fun j i => flw (L j.toNat) (L i.toNat) per) := ⟨_, rfl⟩
  obtain ⟨G, hG⟩ : ∃ G : Nat → Int, G = (fun k => gl.getD k 0) := ⟨_, rfl⟩
  have HIX := Lib.hid (fun k (hk : k < gl.length) => (show 0 ≤ G k ∧ G k < (n : Int) by rw [hG]; exact inx_at hi hk))
  have HFOL := Lib.hid (fun (a b : Nat) => (show fol (a : Int) (b : Int) = flw (L a) (L b) per by rw [hfol]; rfl))
  have HSL := Lib.hid (show Sl w B1 gl.length G by rw [hG]; exact hsl)
  rw [← hfol, ← hG]
  obtain ⟨m, em⟩ : ∃ m, m = gl.length := ⟨_, rfl⟩
  rw [← em] at HIX HSL hm q1 ⊢
  have HST := Lib.hid (fun k (hk : k ≤ m) => st_ok (fol := fol) (cmp := cmpL L) HIX.out k hk)
  have HA := Lib.hid hA
  have HVC := Lib.hid hV
  have HWO := Lib.hid (fun j (hj : j < n) => (show 0 ≤ (L j).wo ∧ (L j).wo ≤ 1000000 from (vc_iff.1 (hV j hj)).2.2.2.2.2.2))
  have HP := Lib.hid hp
  unfold maxLen at q2
  clear hA hV hsl hi hfol hG em hlo hp
  have hmm := @run_makeMap Try.prog
  go_enter Try.func35, Try.ntmps35
  go_wp2_with fail
  go_loopw [9, 20] (fun bv i wr => ∃ k : Nat, k ≤ m ∧ i = .int .i64 k ∧ Hid (FM wr w.heap.size k (stF fol (cmpL L) G k).E) ∧ Hid (IsL wr (w.heap.size + 1) bv (stF fol (cmpL L) G k).b) ∧ Bl w wr ∧ w.heap.size < wr.heap.size) (fun _ i _ => m - (RowKit.intOf i).toNat)
  case atStart => exact ⟨0, Nat.zero_le _, rfl, ⟨_, MapV.made w, fun j => isL_nil _ _⟩, isL_nil _ _, by go_grown, by simp⟩
  case round =>
    obtain ⟨k, hk, rfl, HFM, HBV, hB, hlB⟩ := hrel
    have zB := hB.size
    have HB := Lib.hid hB
    by_cases hlt : k < m
    · obtain ⟨b, off, rfl, hbb, hc⟩ := (HSL.out.below hB) (by omega)
      have c0 := hc k hlt
      have hik := HIX.out k hlt
      obtain ⟨ib, hib⟩ : ∃ ib : Nat, (ib : Int) = G k := ⟨(G k).toNat, by omega⟩
      have hibn : ib < n := by omega
      obtain ⟨s1, s2, s3⟩ := HST.out k hk
      have HS1 := Lib.hid s1
      have HS2 := Lib.hid s2
      have HS3 := Lib.hid s3
      have HOK := Lib.hid (fun j => end_ok (fol := fol) (cmp := cmpL L) (G := G) (i := (ib : Int)) (by omega) s1 j)
      have HE1 := Lib.hid (show (stF fol (cmpL L) G (k + 1)).E = fun j => if j = (ib : Int) then endF fol (cmpL L) (stF fol (cmpL L) G k).E G (ib : Int) k else (stF fol (cmpL L) G k).E j by rw [hib]; rfl)
      have HE2 := Lib.hid (show (stF fol (cmpL L) G (k + 1)).b = if cmpL L (endF fol (cmpL L) (stF fol (cmpL L) G k).E G (ib : Int) k) (stF fol (cmpL L) G k).b < 0 then endF fol (cmpL L) (stF fol (cmpL L) G k).E G (ib : Int) k else (stF fol (cmpL L) G k).b by rw [hib]; rfl)
      obtain ⟨E, hE⟩ : ∃ E, E = (stF fol (cmpL L) G k).E := ⟨_, rfl⟩
      obtain ⟨bst, hbst⟩ : ∃ b, b = (stF fol (cmpL L) G k).b := ⟨_, rfl⟩
      rw [← hE] at HFM HS1 HS3 HOK HE1 HE2
      rw [← hbst] at HBV HS2 HE2
      rw [← hib] at c0
      clear hc s1 s2 s3 hE hbst hik hib hB
      have HCK := Lib.hid (show k ≤ d1 by omega)
      go_wp2_with fail
      obtain ⟨Wo, hWo⟩ : ∃ Wo, Wo = wr.alloc (.cells #[.int .i64 (ib : Int)] 3) := ⟨_, rfl⟩
      have BWo : Bl wr Wo := by rw [hWo]; go_grown
      have zWo : Wo.heap.size = wr.heap.size + 1 := by rw [hWo]; simp
      have HO1 := Lib.hid (show IsL Wo (w.heap.size + 1) (.slice (some ⟨wr.heap.size, 0, none⟩) 1 1) [(ib : Int)] by rw [hWo]; exact isL_one (by simp) (by omega))
      have HFM := Lib.hid (HFM.out.below BWo)
      have HBV := Lib.hid (HBV.out.below BWo)
      have HB := Lib.hid (HB.out.tr BWo)
      rw [← hWo]
      clear hWo BWo
      go_loopw [13, 31] (fun ev i wz => ∃ j : Nat, j ≤ k ∧ i = .int .i64 j ∧ Hid (IsL wz (w.heap.size + 1) ev (endF fol (cmpL L) E G (ib : Int) j)) ∧ Bl Wo wz) (fun _ i _ => k - (RowKit.intOf i).toNat)
      case atStart => exact ⟨0, Nat.zero_le _, rfl, HO1.out, Bl.rf _⟩
      case round =>
        obtain ⟨j, hj, rfl, HEV, hZ⟩ := hrel
        have zZ := hZ.size
        have HZ := Lib.hid hZ
        by_cases hjk : j < k
        · obtain ⟨b', off', eA, hbb', hcc⟩ := (HSL.out.below (HB.out.tr hZ)) (by omega)
          obtain ⟨rfl, rfl⟩ : b = b' ∧ off = off' := by cases eA; exact ⟨rfl, rfl⟩
          clear eA
          have d0 := hcc j (by omega)
          clear hcc
          have hij := HIX.out j (by omega)
          obtain ⟨ja, hja⟩ : ∃ ja : Nat, (ja : Int) = G j := ⟨(G j).toNat, by omega⟩
          have hjan : ja < n := by omega
          have hne := HS3.out j hjk
          have HSTEP := Lib.hid (show endF fol (cmpL L) E G (ib : Int) (j + 1) = if fol (ja : Int) (ib : Int) = true ∧ cmpL L (E (ja : Int) ++ [(ib : Int)]) (endF fol (cmpL L) E G (ib : Int) j) < 0 then E (ja : Int) ++ [(ib : Int)] else endF fol (cmpL L) E G (ib : Int) j by rw [endF, hja])
          have HEJ := Lib.hid (show okL n k (E (ja : Int)) ∧ E (ja : Int) ≠ [] from ⟨HS1.out _, by rw [hja]; exact hne⟩)
          rw [← hja] at d0
          clear hja hij hne
          obtain ⟨b2, off2, rfl, hbb2, hc2⟩ := (HA.out.below (HB.out.tr hZ)) (by omega)
          have y5 := hc2 ja hjan
          have x5 := hc2 ib hibn
          have hvy := HVC.out ja hjan
          have hvx := HVC.out ib hibn
          have hfo := HFOL.out ja ib
          obtain ⟨y, hy⟩ : ∃ y, y = L ja := ⟨_, rfl⟩
          obtain ⟨x, hx⟩ : ∃ x, x = L ib := ⟨_, rfl⟩
          rw [← hy] at y5 hvy hfo
          rw [← hx] at x5 hvx hfo
          have HVY := Lib.hid hvy
          have HVX := Lib.hid hvx
          have HFO := Lib.hid hfo
          obtain ⟨y0, y1, y2, y3, y4⟩ := y5
          obtain ⟨x0, x1, x2, x3, x4⟩ := x5
          have S0 : SH wr b2 (off2 + ja * 5) (off2 + ib * 5) y x wr := ⟨Bl.rf _, y0, y1, y2, y3, y4, x0, x1, x2, x3, x4, hbb2⟩
          clear hc2 hvy hvx hfo hy hx hZ
          cases q : flw y x per with
          | false =>
            have HQ := Lib.hid q
            have HN := Lib.hid (show endF fol (cmpL L) E G (ib : Int) (j + 1) = endF fol (cmpL L) E G (ib : Int) j by rw [HSTEP.out, if_neg (fun h => by rw [HFO.out, q] at h; exact absurd h.1 (by decide))])
            clear q
            go_wp2_with fail
            go_region_held3 (fun W' => Bl wr W' ∧ W'.cell? ⟨b2, off2 + ja * 5, none⟩ = some (.string y.nm) ∧ W'.cell? ⟨b2, off2 + ja * 5 + 1, none⟩ = some (.int .i64 y.fr) ∧ W'.cell? ⟨b2, off2 + ja * 5 + 2, none⟩ = some (.int .i64 y.to) ∧ W'.cell? ⟨b2, off2 + ja * 5 + 3, none⟩ = some (.int .i64 y.tl) ∧ W'.cell? ⟨b2, off2 + ja * 5 + 4, none⟩ = some (.int .i64 y.wo) ∧ W'.cell? ⟨b2, off2 + ib * 5, none⟩ = some (.string x.nm) ∧ W'.cell? ⟨b2, off2 + ib * 5 + 1, none⟩ = some (.int .i64 x.fr) ∧ W'.cell? ⟨b2, off2 + ib * 5 + 2, none⟩ = some (.int .i64 x.to) ∧ W'.cell? ⟨b2, off2 + ib * 5 + 3, none⟩ = some (.int .i64 x.tl) ∧ W'.cell? ⟨b2, off2 + ib * 5 + 4, none⟩ = some (.int .i64 x.wo) ∧ b2 < W'.heap.size) (first | exact SH.t S0 (bl_drN _) | exact SH.t (by assumption) hh0) (first | (go_at_call 52; refine (followsN_any y x per _ HVY.out HVX.out HP.out).mono ?_; rintro e v0 ⟨rfl, hh0⟩; rw [HQ.out]))
            all_goals
              rename_i hHeld
              have HH := Lib.hid hHeld.1
              clear hHeld
              go_wp2_with fail
              go_roundw
              case rel => exact ⟨j + 1, by omega, by go_num, by rw [HN.out]; exact HEV.out.below HH.out, HZ.out.tr HH.out⟩
              case measure => simp [RowKit.intOf]; omega
          | true =>
            have HQ := Lib.hid q
            clear q
            go_wp2_with fail
            go_region_held3 (fun W' => Bl wr W' ∧ W'.cell? ⟨b2, off2 + ja * 5, none⟩ = some (.string y.nm) ∧ W'.cell? ⟨b2, off2 + ja * 5 + 1, none⟩ = some (.int .i64 y.fr) ∧ W'.cell? ⟨b2, off2 + ja * 5 + 2, none⟩ = some (.int .i64 y.to) ∧ W'.cell? ⟨b2, off2 + ja * 5 + 3, none⟩ = some (.int .i64 y.tl) ∧ W'.cell? ⟨b2, off2 + ja * 5 + 4, none⟩ = some (.int .i64 y.wo) ∧ W'.cell? ⟨b2, off2 + ib * 5, none⟩ = some (.string x.nm) ∧ W'.cell? ⟨b2, off2 + ib * 5 + 1, none⟩ = some (.int .i64 x.fr) ∧ W'.cell? ⟨b2, off2 + ib * 5 + 2, none⟩ = some (.int .i64 x.to) ∧ W'.cell? ⟨b2, off2 + ib * 5 + 3, none⟩ = some (.int .i64 x.tl) ∧ W'.cell? ⟨b2, off2 + ib * 5 + 4, none⟩ = some (.int .i64 x.wo) ∧ b2 < W'.heap.size) (first | exact SH.t S0 (bl_drN _) | exact SH.t (by assumption) hh0) (first | (go_at_call 52; refine (followsN_any y x per _ HVY.out HVX.out HP.out).mono ?_; rintro e v0 ⟨rfl, hh0⟩; rw [HQ.out]))
            all_goals
              rename_i hHeld
              have HH := Lib.hid hHeld.1
              clear hHeld
              obtain ⟨W2, hW2⟩ : ∃ W2, W2 = v0 := ⟨_, rfl⟩
              rw [← hW2] at HH ⊢
              clear hW2 hh0 y0 y1 y2 y3 y4 x0 x1 x2 x3 x4 S0 d0
              obtain ⟨V, hmv, hisl⟩ := HFM.out.below (HZ.out.tr HH.out)
              have HMV := Lib.hid hmv
              obtain ⟨A3, c3, hve, r1, r2, hs3, _⟩ := hisl (ja : Int)
              obtain ⟨hok, hnn⟩ := HEJ.out
              have HVE := Lib.hid hve
              have HS3' := Lib.hid hs3
              have HOK3 := Lib.hid (hok.snoc (i := (ib : Int)) (by omega))
              have hlen : (E (ja : Int)).length ≤ k := hok.2
              have hpos : 1 ≤ (E (ja : Int)).length := by
                rcases h : E (ja : Int) with _ | ⟨a, t⟩
                · exact absurd h hnn
                · simp
              obtain ⟨le, hle⟩ : ∃ le, le = E (ja : Int) := ⟨_, rfl⟩
              rw [← hle] at HVE HS3' HOK3 hlen hpos HSTEP r1
              clear hmv hisl hve hs3 hok hnn hle
              have zW2 := HH.out.size
              go_wp2_with (first | (at_lookup; refine wpList_lookup_heldN rfl _ _ 95 rfl Try.underlying95 w.heap.size k V rfl HMV.out (ja : Int) rfl (by omega) _ HVE.out ?_))
              refine (clone6_anyN A3 le.length c3 (fun j => le.getD j 0) _ HS3'.out hpos (by omega)).mono ?_
              rintro e3 w3 ⟨g3, cap3, rfl, own3, hb3⟩
              rw [inC_intL] at own3
              have HO3 := Lib.hid own3
              have X3 := Lib.hid (HH.out.tr hb3)
              have z3 := hb3.size
              have hnew := Lib.hid (heap_alloc_new w3 (.cells #[.int .i64 (ib : Int)] 3))
              clear own3 hb3
              go_wp2_with (at_builtin; refine wpList_append_lies _ rfl _ _ _ rfl W2.heap.size 3 i0 _ 1 8 Try.underlying24 HI.out.1 HI.out.2.1 HI.out.2.2.1 HI.out.2.2.2 rfl (by omega) _ le.length (intL le) rfl (HO3.out.alloc _) ⟨w3.heap.size, 0, none⟩ 1 1 [.int .i64 (ib : Int)] rfl rfl (World.news_of_block hnew.out) (by simp [Value.oneCell']) (by omega) (by unfold maxLen; omega) (by omega) (by (try simp only [World.size_alloc]); omega) _ rfl ?_; intro gg cap9 w9 hown9 hgrow9 hat9 hlt9; have HO9 := Lib.hid (show IsL w9 (w.heap.size + 1) (.slice (some ⟨gg, 0, none⟩) (le.length + 1) cap9) (le ++ [(ib : Int)]) from (isL_of_own (n := le.length + 1) (l := le ++ [(ib : Int)]) (by simp) (by rw [intL_snoc]; exact hown9)).mono (by omega)); have hl9 := HO3.out.lt; have X9 := Lib.hid (show Bl wr w9 from Below.grown (w := w3.alloc (.cells #[.int .i64 (ib : Int)] 3)) (X3.out.tr (by go_grown)) hgrow9 (by (try simp only [World.size_alloc]); omega) (fun j hj => by have := (hl9 j hj).1; omega)); clear hown9 hgrow9 hat9 hl9)
              have HEV9 := Lib.hid (HEV.out.below X9.out)
              obtain ⟨oke, _⟩ := HOK.out j
              refine (scale_any _ n c L _ _ (le ++ [(ib : Int)]) (endF fol (cmpL L) E G (ib : Int) j) _ (w.heap.size + 1) (w.heap.size + 1) (HA.out.below (HB.out.tr (HZ.out.tr X9.out))) hn HWO.out HO9.out HEV9.out HOK3.out.1 oke.1 (by have := HOK3.out.2; omega) (by have := oke.2; omega)).mono ?_
              rintro e5 w5 ⟨rfl, hb5⟩
              have X5 := Lib.hid (X9.out.tr hb5)
              have HO5 := Lib.hid (HO9.out.below hb5)
              have HEV5 := Lib.hid (HEV9.out.below hb5)
              clear hb5 oke
              obtain ⟨cv, hcv⟩ : ∃ cv, cv = cmpL L (le ++ [(ib : Int)]) (endF fol (cmpL L) E G (ib : Int) j) := ⟨_, rfl⟩
              rw [← hcv] at HSTEP ⊢
              clear hcv
              by_cases hneg : cv < 0
              · have HN := Lib.hid (show endF fol (cmpL L) E G (ib : Int) (j + 1) = le ++ [(ib : Int)] by rw [HSTEP.out, if_pos ⟨by rw [HFO.out]; exact HQ.out, hneg⟩])
                go_wp2_with fail
                go_roundw
                case rel => exact ⟨j + 1, by omega, by go_num, by rw [HN.out]; exact HO5.out, HZ.out.tr X5.out⟩
                case measure => simp [RowKit.intOf]; omega
              · have HN := Lib.hid (show endF fol (cmpL L) E G (ib : Int) (j + 1) = endF fol (cmpL L) E G (ib : Int) j by rw [HSTEP.out, if_neg (fun h => hneg h.2)])
                go_wp2_with fail
                go_roundw
                case rel => exact ⟨j + 1, by omega, by go_num, by rw [HN.out]; exact HEV5.out, HZ.out.tr X5.out⟩
                case measure => simp [RowKit.intOf]; omega
        · obtain rfl : j = k := by omega
          obtain ⟨oke, _⟩ := HOK.out j
          have HOKE := Lib.hid oke
          have FMZ := Lib.hid (HFM.out.below hZ)
          have BVZ := Lib.hid (HBV.out.below hZ)
          have BZ := Lib.hid (HB.out.tr hZ)
          have hBz : w.heap.size < wr.heap.size := by omega
          obtain ⟨ee, hee⟩ : ∃ ee, ee = endF fol (cmpL L) E G (ib : Int) j := ⟨_, rfl⟩
          rw [← hee] at HEV HOKE HE1 HE2
          clear hee oke hZ
          obtain ⟨V, hmv, hisl⟩ := FMZ.out
          have HMV := Lib.hid hmv
          have HISL := Lib.hid hisl
          clear hmv hisl
          go_wp2_with (first | (at_mapUpdate; refine wpList_update_heldN rfl _ _ _ 95 rfl Try.underlying95 w.heap.size j V rfl HMV.out (by unfold maxLen; omega) (ib : Int) rfl (by omega) _ rfl ?_; intro w5 hmap5 hgrow5; have HMP := Lib.hid hmap5; have HG5 := Lib.hid hgrow5; have zg5 := hgrow5.size; clear hmap5 hgrow5))
          have B5 := Lib.hid (show Bl w w5 from Below.grown BZ.out HG5.out (by omega) (fun q e => by have : w.heap.size = q := Option.some.inj e; omega))
          have HEV5 := Lib.hid (HEV.out.kept HG5.out (by omega))
          have BV5 := Lib.hid (BVZ.out.kept HG5.out (by omega))
          have FM5 := Lib.hid (show FM w5 w.heap.size (j + 1) (stF fol (cmpL L) G (j + 1)).E from ⟨_, HMP.out, fun i => by
            rw [HE1.out]
            by_cases e : i = (ib : Int)
            · simp only [if_pos e]; exact HEV5.out
            · simp only [if_neg e]; exact (HISL.out i).kept HG5.out (by omega)⟩)
          refine (scale_any _ n c L _ _ ee bst _ (w.heap.size + 1) (w.heap.size + 1) (HA.out.below B5.out) hn HWO.out HEV5.out BV5.out HOKE.out.1 HS2.out.1 (by have := HOKE.out.2; omega) (by have := HS2.out.2; omega)).mono ?_
          rintro e6 w6 ⟨rfl, hb6⟩
          have B6 := Lib.hid (B5.out.tr hb6)
          have HEV6 := Lib.hid (HEV5.out.below hb6)
          have BV6 := Lib.hid (BV5.out.below hb6)
          have FM6 := Lib.hid (FM5.out.below hb6)
          have z6 := hb6.size
          clear hb6
          obtain ⟨cv, hcv⟩ : ∃ cv, cv = cmpL L ee bst := ⟨_, rfl⟩
          rw [← hcv] at HE2 ⊢
          clear hcv
          by_cases hneg : cv < 0
          · have HN := Lib.hid (show (stF fol (cmpL L) G (j + 1)).b = ee by rw [HE2.out, if_pos hneg])
            go_wp2_with fail
            go_roundw
            case rel => exact ⟨j + 1, by omega, by go_num, FM6.out, by rw [HN.out]; exact HEV6.out, B6.out, by omega⟩
            case measure => simp [RowKit.intOf]; omega
          · have HN := Lib.hid (show (stF fol (cmpL L) G (j + 1)).b = bst by rw [HE2.out, if_neg hneg])
            go_wp2_with fail
            go_roundw
            case rel => exact ⟨j + 1, by omega, by go_num, FM6.out, by rw [HN.out]; exact BV6.out, B6.out, by omega⟩
            case measure => simp [RowKit.intOf]; omega
    · obtain rfl : k = m := by omega
      go_wp2_with fail
      go_ret
      exact ⟨hB, _, rfl, HBV.out.mono (by omega)⟩
end Go.Proofs.Ytbmenpfpeadckaa
