/-
  The reference's Can.
-/
import Derived.Test.YtdikflklkmfcfaaJI
import Derived.Test.YtdikflklkmfcfaaJE
import Derived.Test.YtdikflklkmfcfaaFX
import Derived.Deep.OwnRows
namespace Go.Proofs.Ytdikflklkmfcfaa
open Go.RowKit
set_option linter.unusedSimpArgs false
set_option linter.unusedVariables false

theorem rng0_ext (c : List Nat → Nat → Bool) (f : Nat) : ((List.range (f + 1)).flatMap fun f => if c [] f then [[f]] else []) = ((List.range f).flatMap fun f => if c [] f then [[f]] else []) ++ (if c [] f then [[f]] else []) := rngG_ext c [] f
theorem rng0_max (c : List Nat → Nat → Bool) : ∀ k, ((List.range k).flatMap fun f => if c [] f then [[f]] else []).length ≤ k := rngG_max c []
theorem bool_info7 : (Try.prog.info? 4).map (fun i => (i.zero, i.size, i.bytes)) = some (some (.bool false), 1, 1) := by kernel_rfl
set_option maxRecDepth 100000 in
set_option maxHeartbeats 32000000 in
/-- The three loops: all hoists; then the numbers that are met. -/
theorem rcan_yes (n L : Nat) (w : World) (hn1 : 1 ≤ n) (hn4 : n ≤ 4) (hL : L < 8192) :
    Calls Try.prog 18 #[.int .i64 (n : Int), .int .i64 (L : Int)] w fun e w' => e = .returned (.tuple #[.int .i64 ((canL n L).length : Int), .int .i64 0]) ∧ Bl w w' := by
  obtain ⟨i0, hi0, hz0, hz1, hz2⟩ := info_parts7 int_info7
  have HI := Lib.hid (And.intro hi0 (And.intro hz0 (And.intro hz1 hz2)))
  clear hi0 hz0 hz1 hz2
  obtain ⟨j0, hj0, hy0, hy1, hy2⟩ := info_parts7 row_info7
  have HJ := Lib.hid (And.intro hj0 (And.intro hy0 (And.intro hy1 hy2)))
  clear hj0 hy0 hy1 hy2
  have HIS := Lib.hid (show inB (L : Int) 0 8191 = true from inB_iff.2 (by omega))
  have HCL := Lib.hid (can_itr (L := L) hn4)
  have hmk : ∀ W : World, (Instr.makeSlice 50 (.int .i64 10000) (.int .i64 10000)).run Try.prog W = .ok (.slice (some ⟨W.heap.size, 0, none⟩) 10000 10000) (W.alloc (.cells (madeCells #[.bool false] 10000) 4)) :=
    fun W => run_make_row' 50 4 (.bool false) 1 Try.underlying50 bool_info7 rfl .i64 .i64 10000 (by decide) (by decide) W
  have HMK := Lib.hid hmk
  clear hmk
  have n1 : (1 : Int) ≤ n := by omega
  have n4 : (n : Int) ≤ 4 := by omega
  go_enter Try.func18, Try.ntmps18
  go_wp2_with fail
  refine (rset7_any (L : Int) _).mono ?_
  rintro e w1 ⟨rfl, rfl⟩
  rw [HIS.out]
  go_wp2_with fail
  obtain ⟨Wa, hWa⟩ : ∃ Wa, Wa = w.alloc (.cells #[.slice none 0 0] 22) := ⟨_, rfl⟩
  have BA := Lib.hid (show Bl w Wa by rw [hWa]; go_grown)
  have HR0 := Lib.hid (show RR w.heap.size [(.slice none 0 0, [])] (.slice (some ⟨w.heap.size, 0, none⟩) 1 1) Wa from ⟨by rw [hWa]; exact row_lit7 w, fun el he => by
    obtain rfl := List.mem_singleton.1 he
    exact ⟨World.ownsRow_nil _ _ _ _, fun g hg => by cases hg⟩⟩)
  rw [← hWa]
  clear hWa
  go_loopw [6, 30] (fun v i wr => ∃ k : Nat, k ≤ n ∧ i = .int .i64 k ∧ (∃ els, (k = 0 → els = [(.slice none 0 0, [])]) ∧ els.map Prod.snd = itrG (cC L) k [[]] ∧ RR w.heap.size els v wr) ∧ Bl w wr) (fun _ i _ => n - (RowKit.intOf i).toNat)
  case atStart => exact ⟨0, Nat.zero_le _, rfl, ⟨_, fun _ => rfl, rfl, HR0.out⟩, BA.out⟩
  case round =>
    obtain ⟨i, hi, rfl, ⟨els, hels0, hels, hrr⟩, hb⟩ := hrel
    have HELS0 := Lib.hid hels0
    have HE2 := Lib.hid hels
    have HRR := Lib.hid hrr
    have HB := Lib.hid hb
    have zb := HB.out.size
    have hmax : els.length ≤ 28561 := by
      have h1 := congrArg List.length HE2.out
      rw [List.length_map] at h1
      have h2 := itrG_max (cC L) i
      have h3 : 13 ^ i ≤ 13 ^ 4 := Nat.pow_le_pow_right (by decide) (by omega)
      have h4 : (13 : Nat) ^ 4 = 28561 := by decide
      omega
    clear hels hrr hb hels0
    obtain ⟨A5, c5, rfl, hc51, hc52, hrow⟩ := row_shape HRR.out.1
    have HROW := Lib.hid hrow
    unfold maxLen at hc52
    clear hrow
    by_cases hlt : i < n
    · go_wp2_with fail
      obtain ⟨Wo, hWo⟩ : ∃ Wo, Wo = wr := ⟨_, rfl⟩
      subst hWo
      go_loopw [7, 34] (fun v iv wr => ∃ k : Nat, k ≤ els.length ∧ iv = .int .i64 k ∧ (∃ els2, els2.map Prod.snd = ((itrG (cC L) i [[]]).take k).flatMap (extG (cC L)) ∧ RR Wo.heap.size els2 v wr) ∧ Bl Wo wr) (fun _ iv _ => els.length - (RowKit.intOf iv).toNat)
      case atStart => exact ⟨0, Nat.zero_le _, rfl, ⟨[], by simp, RR.nil _ _⟩, Below.refl _ _⟩
      case round =>
        obtain ⟨k, hk, rfl, ⟨els2, hels2, hrr2⟩, hb2⟩ := hrel
        have HELS2 := Lib.hid hels2
        have HRR2 := Lib.hid hrr2
        have HB2 := Lib.hid hb2
        clear hels2 hrr2 hb2
        by_cases hkl : k < els.length
        · obtain ⟨g5, rfl, hg5, hcell⟩ := HROW.out k hkl
          have hkl2 : k < (itrG (cC L) i [[]]).length := by rw [← HE2.out, List.length_map]; exact hkl
          by_cases hi0 : i = 0
          · have HI0 := Lib.hid hi0
            have hk0 : k = 0 := by have h := HELS0.out hi0; rw [h] at hkl; simpa using hkl
            have hcc : Wo.cell? ⟨g5, k, none⟩ = some (.slice none 0 0) := by rw [hcell, HELS0.out hi0, hk0]; rfl
            have HH := Lib.hid (show (itrG (cC L) i [[]])[k] = [] from List.length_eq_zero_iff.1 (by rw [lenG _ _ _ (List.getElem_mem hkl2), hi0]))
            have c5k := (HB2.out.cell (p := ⟨g5, k, none⟩) hg5).trans hcc
            clear hcell hcc hi0 hk0
            go_wp2_with fail
            obtain ⟨Wm, hWm⟩ : ∃ Wm, Wm = wr := ⟨_, rfl⟩
            subst hWm
            go_loopw [7, 38] (fun v iv wr => ∃ f : Nat, f ≤ 13 ∧ iv = .int .i64 f ∧ (∃ els3, els3.map Prod.snd = ((itrG (cC L) i [[]]).take k).flatMap (extG (cC L)) ++ (List.range f).flatMap (fun f => if cC L [] f then [[f]] else []) ∧ RR Wo.heap.size els3 v wr) ∧ Bl Wo wr) (fun _ iv _ => 13 - (RowKit.intOf iv).toNat)
            case atStart => exact ⟨0, Nat.zero_le _, rfl, ⟨els2, by simpa using HELS2.out, HRR2.out⟩, HB2.out⟩
            case round =>
              obtain ⟨f, hf, rfl, ⟨els3, hels3, hrr3⟩, hb3⟩ := hrel
              obtain ⟨An, cn, rfl, -, -, -⟩ := row_shape hrr3.1
              have HELS3 := Lib.hid hels3
              have HRR3 := Lib.hid hrr3
              have HB3 := Lib.hid hb3
              have zb3 := hb3.size
              have hmax3 : els3.length ≤ 371319 := by
                have h1 := congrArg List.length HELS3.out
                rw [List.length_map, List.length_append] at h1
                have h2 := extG_max (cC L) ((itrG (cC L) i [[]]).take k)
                have h3 := rng0_max (cC L) f
                have h4 := itrG_max (cC L) i
                have h5 : 13 ^ i ≤ 13 ^ 4 := Nat.pow_le_pow_right (by decide) (by omega)
                have h6 : (13 : Nat) ^ 4 = 28561 := by decide
                have h7 : ((itrG (cC L) i [[]]).take k).length ≤ 28561 := by rw [List.length_take]; omega
                omega
              clear hels3 hrr3 hb3
              by_cases hlf : f < 13
              · have HO0 := Lib.hid (lit_nil7 wr)
                have HHB := Lib.hid (has_val3 (f := f) hL)
                cases hB : hasB L f with
                | false =>
                  have HBF := Lib.hid (show cC L [] f = false from by rw [cC, hB]; rfl)
                  have hband : bits BinOp.and IntKind.i64 ((L : Int) / 2 ^ f) 1 = 0 := by rw [HHB.out, hB]; rfl
                  clear hB
                  go_wp2_with (first | (at_builtin; refine wpList_append_own _ rfl _ _ _ rfl wr.heap.size 3 i0 _ 1 8 Try.underlying22 HI.out.1 HI.out.2.1 HI.out.2.2.1 HI.out.2.2.2 rfl (by decide) _ _ _ rfl (HO0.out.alloc _) _ 1 1 [.int .i64 (f : Int)] rfl rfl (by first | exact cell_one_new _ _ _ | exact ap_news7 (alloc2_new7 _ _ _)) (by simp [Value.oneCell']) (by unfold maxLen; omega) (by omega) (by (try simp only [World.size_alloc]); omega) ?_; intro v3 w10 hown3 hgrow3 _; obtain ⟨g3, c3, rfl⟩ := ownsRow_succ hown3; have B10 := Lib.hid (show Bl wr w10 from Below.grown ((show Bl wr (wr.alloc (.cells #[] 3)) from by go_grown).trans (by go_grown)) hgrow3 (by (try simp only [World.size_alloc]); omega) (fun j hj => (HO0.out.lt j hj).1)); have HO10 := Lib.hid hown3; clear hown3 hgrow3))
                  go_wp2_with fail
                  go_roundw
                  case rel => exact ⟨f + 1, by omega, by go_num, ⟨els3, by rw [rng0_ext, HBF.out, HELS3.out]; simp, HRR3.out.keep B10.out⟩, Bl.tr HB3.out B10.out⟩
                  case measure => simp [RowKit.intOf]; omega
                | true =>
                  have hband : bits BinOp.and IntKind.i64 ((L : Int) / 2 ^ f) 1 = 1 := by rw [HHB.out, hB]; rfl
                  have HBT := Lib.hid hB
                  clear hB
                  go_wp2_with (first | (at_builtin; refine wpList_append_own _ rfl _ _ _ rfl wr.heap.size 3 i0 _ 1 8 Try.underlying22 HI.out.1 HI.out.2.1 HI.out.2.2.1 HI.out.2.2.2 rfl (by decide) _ _ _ rfl (HO0.out.alloc _) _ 1 1 [.int .i64 (f : Int)] rfl rfl (by first | exact cell_one_new _ _ _ | exact ap_news7 (alloc2_new7 _ _ _)) (by simp [Value.oneCell']) (by unfold maxLen; omega) (by omega) (by (try simp only [World.size_alloc]); omega) ?_; intro v3 w10 hown3 hgrow3 _; obtain ⟨g3, c3, rfl⟩ := ownsRow_succ hown3; have B10 := Lib.hid (show Bl wr w10 from Below.grown ((show Bl wr (wr.alloc (.cells #[] 3)) from by go_grown).trans (by go_grown)) hgrow3 (by (try simp only [World.size_alloc]); omega) (fun j hj => (HO0.out.lt j hj).1)); have HO10 := Lib.hid hown3; clear hown3 hgrow3))
                  have HX := Lib.hid (show w10.ownsRow wr.heap.size 3 1 (.slice (some ⟨g3, 0, none⟩) 1 c3) 1 (inN ([f])) from by have h2 := HO10.out; (try simp only [Nat.zero_add, List.nil_append, List.length_nil] at h2); rw [show inN ([f]) = inN [] ++ [.int .i64 (f : Int)] by simp [inN]]; exact h2)
                  obtain ⟨-, A5, c5, e5, hn5, hm5, hs5⟩ := own_sl7 HX.out
                  injection e5 with e51 _ e52
                  subst e51 e52
                  have HS5 := Lib.hid hs5
                  have hg3 := (HX.out.lt g3 rfl).1
                  have z10 := B10.out.size
                  clear hs5
                  (try simp only [Nat.zero_add])
                  go_wp2_with fail
                  cases hok : okH ([f]) with
                  | false =>
                    have HOK := Lib.hid (show vhB 1 (gI ([f])) = false from by have h2 := hok; unfold okH at h2;  exact h2)
                    have HBF := Lib.hid (show cC L [] f = false from by simp [cC, hok])
                    clear hok
                    refine (rvalidHoist_any _ 1 c3 (gI ([f])) _ ⟨hn5, hm5⟩ HS5.out).mono ?_
                    rintro e w11 ⟨rfl, rfl⟩
                    rw [HOK.out]
                    go_wp2_with fail
                    go_roundw
                    case rel => exact ⟨f + 1, by omega, by go_num, ⟨els3, by rw [rng0_ext, HBF.out, HELS3.out]; simp, HRR3.out.keep B10.out⟩, Bl.tr HB3.out B10.out⟩
                    case measure => simp [RowKit.intOf]; omega
                  | true =>
                    have HOK := Lib.hid (show vhB 1 (gI ([f])) = true from by have h2 := hok; unfold okH at h2;  exact h2)
                    have HBF := Lib.hid (show cC L [] f = true from by simp [cC, hok, HBT.out])
                    clear hok
                    refine (rvalidHoist_any _ 1 c3 (gI ([f])) _ ⟨hn5, hm5⟩ HS5.out).mono ?_
                    rintro e w11 ⟨rfl, rfl⟩
                    rw [HOK.out]
                    have HXW := Lib.hid (show w10.ownsRow Wo.heap.size 3 1 (.slice (some ⟨g3, 0, none⟩) 1 c3) ([f]).length (inN ([f])) from by  exact own_base HX.out (fun g hg => Nat.le_trans zb3 (HX.out.lt g hg).1))
                    have HNE := Lib.hid (show ∀ g, (Value.slice (some ⟨g3, 0, none⟩) 1 c3).ownBlock = some g → (Value.slice An els3.length cn).ownBlock ≠ some g from fun g hg e => by
                      have hg : g3 = g := Option.some.inj hg
                      have := (HRR3.out.1.lt g e).2
                      omega)
                    go_wp2_with (at_builtin; refine wpList_append_own_at _ rfl _ _ _ rfl Wo.heap.size 22 j0 _ 1 24 Try.underlying24 HJ.out.1 HJ.out.2.1 HJ.out.2.2.1 HJ.out.2.2.2 rfl (by decide) _ _ _ rfl ((HRR3.out.keep B10.out).1.alloc _) _ 1 1 [.slice (some ⟨g3, 0, none⟩) 1 c3] rfl rfl (by first | exact cell_one_new _ _ _ | exact ap_news7 (alloc2_new7 _ _ _)) (by simp [Value.oneCell']) (by unfold maxLen; omega) (by omega) (by (try simp only [World.size_alloc]); omega) ?_; intro v4 w14 hown4 hgrow4 _ hat4; have B14 := Lib.hid (show Bl Wo w14 from Below.grown ((Bl.tr HB3.out B10.out).trans (by go_grown)) hgrow4 (by (try simp only [World.size_alloc]); omega) (fun j hj => (HRR3.out.1.lt j hj).1)); have HRR4 := Lib.hid (RR.snoc (l := [f]) (HRR3.out.keep B10.out) HXW.out HNE.out hgrow4 hown4 hat4); clear hown4 hgrow4 hat4)
                    go_roundw
                    case rel => exact ⟨f + 1, by omega, by go_num, ⟨els3 ++ [(.slice (some ⟨g3, 0, none⟩) 1 c3, [f])], by rw [rng0_ext, HBF.out]; simp [HELS3.out], HRR4.out⟩, B14.out⟩
                    case measure => simp [RowKit.intOf]; omega
              · obtain rfl : f = 13 := by omega
                go_wp2_with fail
                go_roundw
                case rel => exact ⟨k + 1, by omega, by go_num, ⟨els3, by rw [takeG_ext hkl2, HH.out]; exact HELS3.out, HRR3.out⟩, HB3.out⟩
                case measure => simp [RowKit.intOf]; omega
          · have hel := HRR.out.2 els[k] (List.getElem_mem hkl)
            obtain ⟨⟨hv, h⟩, hee⟩ : ∃ e, e = els[k] := ⟨_, rfl⟩
            have HH := Lib.hid (show (itrG (cC L) i [[]])[k] = h from by have h2 : (els.map Prod.snd)[k]'(by simpa using hkl) = (itrG (cC L) i [[]])[k] := by simp only [HE2.out]
                                                                         rw [← h2]; simp [← hee])
            rw [← hee] at hel
            dsimp only at hel
            have hcc : Wo.cell? ⟨g5, k, none⟩ = some hv := by rw [hcell, List.getElem?_map, List.getElem?_eq_getElem hkl, ← hee]; rfl
            have hhl : h.length = i := by rw [← HH.out]; exact lenG _ _ _ (List.getElem_mem hkl2)
            obtain ⟨-, Ah, hcap2, rfl, hcap21, hcap22, hslh⟩ := own_sl7 hel.1
            obtain ⟨hb2, hoff2, rfl, -, -⟩ := hslh (by omega)
            have HSLH := Lib.hid hslh
            have HHL := Lib.hid hhl
            have h1 : 1 ≤ h.length := by omega
            have h3 : h.length ≤ 3 := by omega
            have c5k := (HB2.out.cell (p := ⟨g5, k, none⟩) hg5).trans hcc
            unfold maxLen at hcap22
            clear hel hcell hee hcc hslh hhl
            go_wp2_with fail
            obtain ⟨Wm, hWm⟩ : ∃ Wm, Wm = wr := ⟨_, rfl⟩
            subst hWm
            go_loopw [7, 38] (fun v iv wr => ∃ f : Nat, f ≤ 13 ∧ iv = .int .i64 f ∧ (∃ els3, els3.map Prod.snd = ((itrG (cC L) i [[]]).take k).flatMap (extG (cC L)) ++ (List.range f).flatMap (fun f => if cC L h f then [h ++ [f]] else []) ∧ RR Wo.heap.size els3 v wr) ∧ Bl Wo wr) (fun _ iv _ => 13 - (RowKit.intOf iv).toNat)
            case atStart => exact ⟨0, Nat.zero_le _, rfl, ⟨els2, by simpa using HELS2.out, HRR2.out⟩, HB2.out⟩
            case round =>
              obtain ⟨f, hf, rfl, ⟨els3, hels3, hrr3⟩, hb3⟩ := hrel
              obtain ⟨An, cn, rfl, -, -, -⟩ := row_shape hrr3.1
              have HELS3 := Lib.hid hels3
              have HRR3 := Lib.hid hrr3
              have HB3 := Lib.hid hb3
              have zb3 := hb3.size
              have hmax3 : els3.length ≤ 371319 := by
                have h1 := congrArg List.length HELS3.out
                rw [List.length_map, List.length_append] at h1
                have h2 := extG_max (cC L) ((itrG (cC L) i [[]]).take k)
                have h3 := rngG_max (cC L) h f
                have h4 := itrG_max (cC L) i
                have h5 : 13 ^ i ≤ 13 ^ 4 := Nat.pow_le_pow_right (by decide) (by omega)
                have h6 : (13 : Nat) ^ 4 = 28561 := by decide
                have h7 : ((itrG (cC L) i [[]]).take k).length ≤ 28561 := by rw [List.length_take]; omega
                omega
              clear hels3 hrr3 hb3
              by_cases hlf : f < 13
              · have HO0 := Lib.hid (lit_nil7 wr)
                have HSH := Lib.hid (show Sl wr (some ⟨hb2, hoff2, none⟩) h.length (gI h) from HSLH.out.below HB3.out)
                have HHB := Lib.hid (has_val3 (f := f) hL)
                cases hB : hasB L f with
                | false =>
                  have HBF := Lib.hid (show cC L h f = false from by rw [cC, hB]; rfl)
                  have hband : bits BinOp.and IntKind.i64 ((L : Int) / 2 ^ f) 1 = 0 := by rw [HHB.out, hB]; rfl
                  clear hB
                  go_wp2_with (first | (at_builtin; refine wpList_append_lies _ rfl _ _ _ rfl wr.heap.size 3 i0 _ 1 8 Try.underlying22 HI.out.1 HI.out.2.1 HI.out.2.2.1 HI.out.2.2.2 rfl (by omega) _ 0 [] rfl HO0.out ⟨hb2, hoff2, none⟩ h.length hcap2 (inN h) rfl (by rw [inN_len]; omega) (in_news7 rfl (HSH.out.below (by go_grown))) (inN_one _) (by omega) (by unfold maxLen; omega) (by omega) (by (try simp only [World.size_alloc]); omega) _ rfl ?_; intro gg cp w9 hown1 hgrow9 hat hlt9; have hown2 : w9.ownsRow wr.heap.size 3 1 (.slice (some ⟨gg, 0, none⟩) h.length cp) h.length (inN h) := (by have h := hown1; simp only [Nat.zero_add, List.nil_append] at h; exact h); have HO9 := Lib.hid hown2; have B9 := Lib.hid (show Bl wr w9 from Below.grown (by go_grown) hgrow9 (by (try simp only [World.size_alloc]); omega) (fun j hj => by have hj : wr.heap.size = j := Option.some.inj hj; omega)); have z9 := B9.out.size; (try simp only [Nat.zero_add]); clear hown1 hown2 hgrow9 hat) | (at_builtin; refine wpList_append_own _ rfl _ _ _ rfl wr.heap.size 3 i0 _ 1 8 Try.underlying22 HI.out.1 HI.out.2.1 HI.out.2.2.1 HI.out.2.2.2 rfl (by decide) _ _ _ rfl (HO9.out.alloc _) _ 1 1 [.int .i64 (f : Int)] rfl rfl (by first | exact cell_one_new _ _ _ | exact ap_news7 (alloc2_new7 _ _ _)) (by simp [Value.oneCell']) (by unfold maxLen; omega) (by omega) (by (try simp only [World.size_alloc]); omega) ?_; intro v3 w10 hown3 hgrow3 _; obtain ⟨g3, c3, rfl⟩ := ownsRow_succ hown3; have B10 := Lib.hid (show Bl wr w10 from Below.grown (B9.out.trans (by go_grown)) hgrow3 (by (try simp only [World.size_alloc]); omega) (fun j hj => (HO9.out.lt j hj).1)); have HO10 := Lib.hid hown3; clear hown3 hgrow3))
                  go_wp2_with fail
                  go_roundw
                  case rel => exact ⟨f + 1, by omega, by go_num, ⟨els3, by rw [rngG_ext, HBF.out, HELS3.out]; simp, HRR3.out.keep B10.out⟩, Bl.tr HB3.out B10.out⟩
                  case measure => simp [RowKit.intOf]; omega
                | true =>
                  have hband : bits BinOp.and IntKind.i64 ((L : Int) / 2 ^ f) 1 = 1 := by rw [HHB.out, hB]; rfl
                  have HBT := Lib.hid hB
                  clear hB
                  go_wp2_with (first | (at_builtin; refine wpList_append_lies _ rfl _ _ _ rfl wr.heap.size 3 i0 _ 1 8 Try.underlying22 HI.out.1 HI.out.2.1 HI.out.2.2.1 HI.out.2.2.2 rfl (by omega) _ 0 [] rfl HO0.out ⟨hb2, hoff2, none⟩ h.length hcap2 (inN h) rfl (by rw [inN_len]; omega) (in_news7 rfl (HSH.out.below (by go_grown))) (inN_one _) (by omega) (by unfold maxLen; omega) (by omega) (by (try simp only [World.size_alloc]); omega) _ rfl ?_; intro gg cp w9 hown1 hgrow9 hat hlt9; have hown2 : w9.ownsRow wr.heap.size 3 1 (.slice (some ⟨gg, 0, none⟩) h.length cp) h.length (inN h) := (by have h := hown1; simp only [Nat.zero_add, List.nil_append] at h; exact h); have HO9 := Lib.hid hown2; have B9 := Lib.hid (show Bl wr w9 from Below.grown (by go_grown) hgrow9 (by (try simp only [World.size_alloc]); omega) (fun j hj => by have hj : wr.heap.size = j := Option.some.inj hj; omega)); have z9 := B9.out.size; (try simp only [Nat.zero_add]); clear hown1 hown2 hgrow9 hat) | (at_builtin; refine wpList_append_own _ rfl _ _ _ rfl wr.heap.size 3 i0 _ 1 8 Try.underlying22 HI.out.1 HI.out.2.1 HI.out.2.2.1 HI.out.2.2.2 rfl (by decide) _ _ _ rfl (HO9.out.alloc _) _ 1 1 [.int .i64 (f : Int)] rfl rfl (by first | exact cell_one_new _ _ _ | exact ap_news7 (alloc2_new7 _ _ _)) (by simp [Value.oneCell']) (by unfold maxLen; omega) (by omega) (by (try simp only [World.size_alloc]); omega) ?_; intro v3 w10 hown3 hgrow3 _; obtain ⟨g3, c3, rfl⟩ := ownsRow_succ hown3; have B10 := Lib.hid (show Bl wr w10 from Below.grown (B9.out.trans (by go_grown)) hgrow3 (by (try simp only [World.size_alloc]); omega) (fun j hj => (HO9.out.lt j hj).1)); have HO10 := Lib.hid hown3; clear hown3 hgrow3))
                  have HX := Lib.hid (show w10.ownsRow wr.heap.size 3 1 (.slice (some ⟨g3, 0, none⟩) (h.length + 1) c3) (h.length + 1) (inN (h ++ [f])) from by have h2 := HO10.out; (try simp only [Nat.zero_add, List.nil_append, List.length_nil] at h2); rw [show inN (h ++ [f]) = inN h ++ [.int .i64 (f : Int)] by simp [inN]]; exact h2)
                  obtain ⟨-, A5, c5, e5, hn5, hm5, hs5⟩ := own_sl7 HX.out
                  injection e5 with e51 _ e52
                  subst e51 e52
                  have HS5 := Lib.hid hs5
                  have hg3 := (HX.out.lt g3 rfl).1
                  have z10 := B10.out.size
                  clear hs5
                  (try simp only [Nat.zero_add])
                  go_wp2_with fail
                  cases hok : okH (h ++ [f]) with
                  | false =>
                    have HOK := Lib.hid (show vhB (h.length + 1) (gI (h ++ [f])) = false from by have h2 := hok; unfold okH at h2; rw [List.length_append, List.length_singleton] at h2; exact h2)
                    have HBF := Lib.hid (show cC L h f = false from by simp [cC, hok])
                    clear hok
                    refine (rvalidHoist_any _ (h.length + 1) c3 (gI (h ++ [f])) _ ⟨hn5, hm5⟩ HS5.out).mono ?_
                    rintro e w11 ⟨rfl, rfl⟩
                    rw [HOK.out]
                    go_wp2_with fail
                    go_roundw
                    case rel => exact ⟨f + 1, by omega, by go_num, ⟨els3, by rw [rngG_ext, HBF.out, HELS3.out]; simp, HRR3.out.keep B10.out⟩, Bl.tr HB3.out B10.out⟩
                    case measure => simp [RowKit.intOf]; omega
                  | true =>
                    have HOK := Lib.hid (show vhB (h.length + 1) (gI (h ++ [f])) = true from by have h2 := hok; unfold okH at h2; rw [List.length_append, List.length_singleton] at h2; exact h2)
                    have HBF := Lib.hid (show cC L h f = true from by simp [cC, hok, HBT.out])
                    clear hok
                    refine (rvalidHoist_any _ (h.length + 1) c3 (gI (h ++ [f])) _ ⟨hn5, hm5⟩ HS5.out).mono ?_
                    rintro e w11 ⟨rfl, rfl⟩
                    rw [HOK.out]
                    have HXW := Lib.hid (show w10.ownsRow Wo.heap.size 3 1 (.slice (some ⟨g3, 0, none⟩) (h.length + 1) c3) (h ++ [f]).length (inN (h ++ [f])) from by rw [List.length_append, List.length_singleton]; exact own_base HX.out (fun g hg => Nat.le_trans zb3 (HX.out.lt g hg).1))
                    have HNE := Lib.hid (show ∀ g, (Value.slice (some ⟨g3, 0, none⟩) (h.length + 1) c3).ownBlock = some g → (Value.slice An els3.length cn).ownBlock ≠ some g from fun g hg e => by
                      have hg : g3 = g := Option.some.inj hg
                      have := (HRR3.out.1.lt g e).2
                      omega)
                    go_wp2_with (at_builtin; refine wpList_append_own_at _ rfl _ _ _ rfl Wo.heap.size 22 j0 _ 1 24 Try.underlying24 HJ.out.1 HJ.out.2.1 HJ.out.2.2.1 HJ.out.2.2.2 rfl (by decide) _ _ _ rfl ((HRR3.out.keep B10.out).1.alloc _) _ 1 1 [.slice (some ⟨g3, 0, none⟩) (h.length + 1) c3] rfl rfl (by first | exact cell_one_new _ _ _ | exact ap_news7 (alloc2_new7 _ _ _)) (by simp [Value.oneCell']) (by unfold maxLen; omega) (by omega) (by (try simp only [World.size_alloc]); omega) ?_; intro v4 w14 hown4 hgrow4 _ hat4; have B14 := Lib.hid (show Bl Wo w14 from Below.grown ((Bl.tr HB3.out B10.out).trans (by go_grown)) hgrow4 (by (try simp only [World.size_alloc]); omega) (fun j hj => (HRR3.out.1.lt j hj).1)); have HRR4 := Lib.hid (RR.snoc (l := h ++ [f]) (HRR3.out.keep B10.out) HXW.out HNE.out hgrow4 hown4 hat4); clear hown4 hgrow4 hat4)
                    go_roundw
                    case rel => exact ⟨f + 1, by omega, by go_num, ⟨els3 ++ [(.slice (some ⟨g3, 0, none⟩) (h.length + 1) c3, h ++ [f])], by rw [rngG_ext, HBF.out]; simp [HELS3.out], HRR4.out⟩, B14.out⟩
                    case measure => simp [RowKit.intOf]; omega
              · obtain rfl : f = 13 := by omega
                go_wp2_with fail
                go_roundw
                case rel => exact ⟨k + 1, by omega, by go_num, ⟨els3, by rw [takeG_ext hkl2, HH.out]; exact HELS3.out, HRR3.out⟩, HB3.out⟩
                case measure => simp [RowKit.intOf]; omega
        · obtain rfl : k = els.length := by omega
          go_wp2_with fail
          go_roundw
          case rel => exact ⟨i + 1, by omega, by go_num, ⟨els2, by omega, by
            rw [HELS2.out, itrG_snoc, List.take_of_length_le (by rw [← HE2.out, List.length_map]; omega)], HRR2.out.base zb⟩, Bl.tr HB.out HB2.out⟩
          case measure => simp [RowKit.intOf]; omega
    · obtain rfl : i = n := by omega
      obtain ⟨Wo, hWo⟩ : ∃ Wo, Wo = wr := ⟨_, rfl⟩
      subst hWo
      have hmk := HMK.out Wo
      go_wp2_with fail
      obtain ⟨S, hS⟩ : ∃ S, S = Wo.heap.size := ⟨_, rfl⟩
      obtain ⟨Wb, hWb⟩ : ∃ Wb, Wb = Wo.alloc (.cells (madeCells #[.bool false] 10000) 4) := ⟨_, rfl⟩
      have hrow : Wb.rowIs S 4 10000 (fun _ => .bool false) := by rw [hWb, hS]; exact World.rowIs_made Wo (.bool false) 10000 4
      have HBb := Lib.hid (show Bl Wo Wb by rw [hWb]; go_grown)
      have zS : Wo.heap.size ≤ S := by omega
      rw [← hWb, ← hS]
      have HSN := Lib.hid (fun j => snB_succ (l := itrG (cC L) i [[]]) (k := j))
      have HNW := Lib.hid (show ∀ k (hk : k < (itrG (cC L) i [[]]).length), snB (itrG (cC L) i [[]]) k (nmH (itrG (cC L) i [[]])[k]) = false from by
        obtain ⟨m, rfl⟩ : ∃ m, i = m + 1 := ⟨i - 1, by omega⟩
        exact fun k hk => snB_new hk)
      obtain ⟨l, hl⟩ : ∃ l, l = itrG (cC L) i [[]] := ⟨_, rfl⟩
      have HOKS := Lib.hid (show ∀ x, x ∈ l → okH x = true ∧ x.length = i from fun x hx => by
        rw [hl] at hx
        refine ⟨?_, lenG _ _ _ hx⟩
        obtain ⟨m, rfl⟩ : ∃ m, i = m + 1 := ⟨i - 1, by omega⟩
        exact okG hx)
      rw [← hl] at HE2 HCL HSN HNW
      have hcl : (canL i L).length = els.length := by rw [HCL.out, ← HE2.out, List.length_map]
      have HEL := Lib.hid (show els.length = l.length from by rw [← HE2.out, List.length_map])
      have HCQ := Lib.hid hcl
      clear hcl
      clear hWb hS hmk hl
      go_loopw [13, 67] (fun v iv wr => ∃ k : Nat, k ≤ els.length ∧ iv = .int .i64 k ∧ v = .int .i64 k ∧ wr.rowIs S 4 10000 (fun j => .bool (snB l k j)) ∧ Bl Wo wr) (fun _ iv _ => els.length - (RowKit.intOf iv).toNat)
      case atStart => exact ⟨0, Nat.zero_le _, rfl, rfl, hrow.congr (fun j _ => by simp [snB]), HBb.out⟩
      case round =>
        obtain ⟨k, hk, rfl, rfl, hrw, hbk⟩ := hrel
        have HRW := Lib.hid hrw
        have HBK := Lib.hid hbk
        have zk := hbk.size
        have lS := hrw.lt
        clear hrw hbk
        by_cases hkl : k < els.length
        · obtain ⟨g5, rfl, hg5, hcell⟩ := HROW.out k hkl
          have hkl2 : k < l.length := by rw [← HEL.out]; exact hkl
          have hel2 := HRR.out.2 els[k] (List.getElem_mem hkl)
          obtain ⟨⟨hv, h⟩, hee⟩ : ∃ e, e = els[k] := ⟨_, rfl⟩
          have hlk : l[k] = h := by have h2 : (els.map Prod.snd)[k]'(by simpa using hkl) = l[k] := by simp only [HE2.out]
                                    rw [← h2]; simp [← hee]
          have HSN1 := Lib.hid (show ∀ j, snB l (k + 1) j = if j = nmH h then true else snB l k j from fun j => by rw [HSN.out k hkl2 j, hlk])
          have hnew : snB l k (nmH h) = false := by rw [← hlk]; exact HNW.out k hkl2
          obtain ⟨hok, hhl⟩ := HOKS.out h (by rw [← hlk]; exact List.getElem_mem hkl2)
          have hnm := nmH_lt hok
          rw [← hee] at hel2
          dsimp only at hel2
          have hcc : Wo.cell? ⟨g5, k, none⟩ = some hv := by rw [hcell, List.getElem?_map, List.getElem?_eq_getElem hkl, ← hee]; rfl
          obtain ⟨-, Ah, hcap2, rfl, hcap21, hcap22, hslh⟩ := own_sl7 hel2.1
          have c5k := (HBK.out.cell (p := ⟨g5, k, none⟩) hg5).trans hcc
          have g5k := Nat.lt_of_lt_of_le hg5 zk
          have HSLH := Lib.hid (hslh.below HBK.out)
          have HDG := Lib.hid (mn_dg hok)
          have HNUM := Lib.hid (show numF (gI (mnH h)) h.length = (nmH h : Nat) from by have := numF_bd (mn_dg hok) (Nat.le_refl _); unfold nmH; omega)
          have HVH := Lib.hid (show vhB h.length (gI h) = true from hok)
          have hcS := HRW.out.cell hnm
          rw [hnew] at hcS
          have hl4 : h.length ≤ 4 := by omega
          clear hel2 hcell hee hcc hslh hlk hnew hok hhl
          unfold maxLen at hcap22
          go_wp2_with fail
          refine (rmns_any _ h.length hcap2 (gI h) _ HSLH.out HVH.out).mono ?_
          rintro e w11 ⟨v6, rfl, ho6, hb6⟩
          rw [show dgs (gI h) h.length = mnH h from rfl] at ho6
          obtain ⟨-, A6, c6, rfl, -, hm6, hs6⟩ := own_sl7 ho6
          have HS6 := Lib.hid hs6
          have hcS2 := kcb hb6 hcS
          have lS2 := Nat.lt_of_lt_of_le lS hb6.size
          have HRW2 := Lib.hid (HRW.out.of_block (hb6.block S lS))
          have HB6 := Lib.hid (Bl.tr HBK.out hb6)
          clear ho6 hb6 hs6 hcS HRW HSLH
          go_wp2_with fail
          refine (rnum_any A6 h.length c6 (gI (mnH h)) _ (by omega) HS6.out HDG.out).mono ?_
          rintro e w12 ⟨rfl, rfl⟩
          rw [HNUM.out]
          obtain ⟨q, hq⟩ : ∃ q, q = nmH h := ⟨_, rfl⟩
          rw [← hq] at hnm hcS2 HSN1 ⊢
          have hq0 : (q : Int) < 10000 := by omega
          have hfz := HRW2.out.frozen q
          have hst := HRW2.out.set q (.bool true)
          have HST := Lib.hid (show (w11.setCell ⟨S, q, none⟩ (.bool true)).rowIs S 4 10000 (fun j => .bool (snB l (k + 1) j)) from hst.congr (fun j _ => by rw [HSN1.out j]; split <;> rfl))
          clear hst HNUM hq
          go_wp2_with fail
          go_roundw
          case rel => exact ⟨k + 1, by omega, by go_num, by go_num, HST.out, Below.setCell HB6.out (p := ⟨S, q, none⟩) zS _⟩
          case measure => simp [RowKit.intOf]; omega
        · obtain rfl : k = els.length := by omega
          go_wp2_with fail
          go_ret2
          exact ⟨by rw [HCQ.out]; rfl, Bl.tr HB.out HBK.out⟩
theorem rcan_no (n L : Int) (w : World) (h : ¬ (inB n 1 4 = true ∧ inB L 0 8191 = true)) :
    Calls Try.prog 18 #[.int .i64 n, .int .i64 L] w fun e w' => e = .returned (.tuple #[.int .i64 0, .int .i64 7]) ∧ Bl w w' := by
  by_cases h0 : n < 1
  · go_enter Try.func18, Try.ntmps18
    go_wp2_with fail
    go_ret2
    exact ⟨rfl, Bl.rf _⟩
  · by_cases h4 : 4 < n
    · go_enter Try.func18, Try.ntmps18
      go_wp2_with fail
      go_ret2
      exact ⟨rfl, Bl.rf _⟩
    · have hn : inB n 1 4 = true := inB_iff.2 (by omega)
      have hl : inB L 0 8191 = false := by
        cases hl : inB L 0 8191 with
        | false => rfl
        | true => exact absurd ⟨hn, hl⟩ h
      have HI2 := Lib.hid hl
      have h0' : 1 ≤ n := by omega
      have h4' : n ≤ 4 := by omega
      clear hn hl h h0 h4
      go_enter Try.func18, Try.ntmps18
      go_wp2_with fail
      refine (rset7_any L _).mono ?_
      rintro e w1 ⟨rfl, rfl⟩
      rw [HI2.out]
      go_wp2_with fail
      go_ret2
      exact ⟨rfl, Bl.rf _⟩
theorem rcan_any (n L : Int) (w : World) : Calls Try.prog 18 #[.int .i64 n, .int .i64 L] w fun e w' => e = .returned (canV n L) ∧ Bl w w' := by
  by_cases h : inB n 1 4 = true ∧ inB L 0 8191 = true
  · have h1 := inB_iff.1 h.1
    have h2 := inB_iff.1 h.2
    obtain ⟨a, rfl⟩ := Int.eq_ofNat_of_zero_le (show 0 ≤ n by omega)
    obtain ⟨b, rfl⟩ := Int.eq_ofNat_of_zero_le h2.1
    rw [canV, if_pos h]
    exact rcan_yes a b w (by omega) (by omega) (by omega)
  · rw [canV, if_neg h]
    exact rcan_no n L w h
theorem canV_shape (n L : Int) : ∃ a g : Int, canV n L = .tuple #[.int .i64 a, .int .i64 g] := by
  unfold canV
  split
  · exact ⟨_, _, rfl⟩
  · exact ⟨_, _, rfl⟩
def pw10 : Nat → Int
  | 0 => 1
  | k + 1 => pw10 k * 10
theorem pw10_pow (k : Nat) : pw10 k = 10 ^ k := by
  induction k with
  | zero => rfl
  | succ k ih => rw [pw10, ih, Int.pow_succ]
theorem pw10_bd {k n : Nat} (hk : k < n) (hn : n ≤ 4) : 0 ≤ pw10 k ∧ pw10 k ≤ 1000 := by
  have : k = 0 ∨ k = 1 ∨ k = 2 ∨ k = 3 := by omega
  rcases this with rfl | rfl | rfl | rfl <;> decide
set_option maxHeartbeats 4000000 in
theorem can_walk (n L : Int) (w : World) : Calls Try.prog 4 #[.int .i64 n, .int .i64 L] w fun e w' => e = .returned (.bool true) ∧ Bl w w' := by
  obtain ⟨a, g, hag⟩ := canV_shape n L
  have HAG := Lib.hid hag
  have aa : (a != a) = false := by simp
  have gg : (g != g) = false := by simp
  by_cases hn : inB n 1 4 = true
  · have h1 := inB_iff.1 hn
    obtain ⟨k, rfl⟩ := Int.eq_ofNat_of_zero_le (show 0 ≤ n by omega)
    have k1 : 1 ≤ k := by omega
    have k4 : k ≤ 4 := by omega
    have HAL := Lib.hid (show canV k 8191 = .tuple #[.int .i64 (pw10 k), .int .i64 0] from by
      rw [canV, if_pos ⟨hn, by decide⟩, pw10_pow, ← cnt_all (by omega)]; rfl)
    clear hn hag
    go_enter Try.func4, Try.ntmps4
    go_wp2_with fail
    refine (can7_any (k : Int) L _).mono ?_
    rintro e w1 ⟨rfl, hb1⟩
    rw [HAG.out]
    have B1 := Lib.hid hb1
    clear hb1
    go_wp2_with fail
    refine (rcan_any (k : Int) L _).mono ?_
    rintro e w2 ⟨rfl, hb2⟩
    rw [HAG.out]
    have B2 := Lib.hid (Bl.tr B1.out hb2)
    clear hb2
    go_wp2_with fail
    refine (can7_any (k : Int) 8191 _).mono ?_
    rintro e w3 ⟨rfl, hb3⟩
    rw [HAL.out]
    have B3 := Lib.hid (Bl.tr B2.out hb3)
    clear hb3
    go_wp2_with fail
    go_loopw [11, 49] (fun v i wr => ∃ j : Nat, j ≤ k ∧ i = .int .i64 j ∧ v = .int .i64 (pw10 j) ∧ wr = w3) (fun _ i _ => k - (RowKit.intOf i).toNat)
    case atStart => exact ⟨0, Nat.zero_le _, rfl, rfl, rfl⟩
    case round =>
      obtain ⟨j, hj, rfl, rfl, rfl⟩ := hrel
      by_cases hlt : j < k
      · have hp := pw10_bd hlt k4
        have HS := Lib.hid (show pw10 (j + 1) = pw10 j * 10 from rfl)
        obtain ⟨x, hx⟩ : ∃ x, x = pw10 j := ⟨_, rfl⟩
        rw [← hx] at hp HS ⊢
        have e2 : IntKind.i64.wrap (x * 10) = x * 10 := IntWalk.i64_in _ (by omega)
        clear hx
        go_wp2_with fail
        go_roundw
        case rel => exact ⟨j + 1, by omega, by go_num, by rw [HS.out], trivial⟩
        case measure => simp [RowKit.intOf]; omega
      · obtain rfl : j = k := by omega
        obtain ⟨x, hx⟩ : ∃ x, x = pw10 j := ⟨_, rfl⟩
        rw [← hx]
        clear hx
        go_wp2_with fail
        refine (awake7_any _).mono ?_
        rintro e9 w9 ⟨rfl, hb9⟩
        go_wp2_with fail
        go_ret
        exact ⟨rfl, Bl.tr B3.out hb9⟩
  · have HV := Lib.hid (show canV n L = .tuple #[.int .i64 0, .int .i64 7] from by rw [canV, if_neg (fun h => hn h.1)])
    have hn' : n < 1 ∨ 4 < n := by
      by_cases h : 1 ≤ n ∧ n ≤ 4
      · exact absurd (inB_iff.2 h) hn
      · omega
    clear hn hag HAG aa gg
    rcases hn' with h | h
    · go_enter Try.func4, Try.ntmps4
      go_wp2_with fail
      refine (can7_any n L _).mono ?_
      rintro e w1 ⟨rfl, hb1⟩
      rw [HV.out]
      have B1 := Lib.hid hb1
      clear hb1
      go_wp2_with fail
      refine (rcan_any n L _).mono ?_
      rintro e w2 ⟨rfl, hb2⟩
      rw [HV.out]
      have B2 := Lib.hid (Bl.tr B1.out hb2)
      clear hb2
      go_wp2_with fail
      refine (awake7_any _).mono ?_
      rintro e9 w9 ⟨rfl, hb9⟩
      go_wp2_with fail
      go_ret
      exact ⟨rfl, Bl.tr B2.out hb9⟩
    · go_enter Try.func4, Try.ntmps4
      go_wp2_with fail
      refine (can7_any n L _).mono ?_
      rintro e w1 ⟨rfl, hb1⟩
      rw [HV.out]
      have B1 := Lib.hid hb1
      clear hb1
      go_wp2_with fail
      refine (rcan_any n L _).mono ?_
      rintro e w2 ⟨rfl, hb2⟩
      rw [HV.out]
      have B2 := Lib.hid (Bl.tr B1.out hb2)
      clear hb2
      go_wp2_with fail
      refine (awake7_any _).mono ?_
      rintro e9 w9 ⟨rfl, hb9⟩
      go_wp2_with fail
      go_ret
      exact ⟨rfl, Bl.tr B2.out hb9⟩
end Go.Proofs.Ytdikflklkmfcfaa
