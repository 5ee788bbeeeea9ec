/-
  Package ledger: stretch and Sum of the reference.
-/
import Derived.Test.YtbmenpfpeadckaaMU
import Derived.Test.YtbmenpfpeadckaaMF
import Derived.Test.YtbmenpfpeadckaaMMR
namespace Go.Proofs.Ytbmenpfpeadckaa
open Go.RowKit Go.Maps Go.Shelf
set_option linter.unusedSimpArgs false
set_option linter.unusedVariables false

/-- What stretch returns: the sum, how many days there are, the error. -/
def strS (L : Nat → En) (n : Nat) (fa fb : Int) : Int × Int × Int := (sumL (numL (stC L n fa fb) (offF L n fa fb)), ((numL (stC L n fa fb) (offF L n fa fb)).length : Int), stC L n fa fb)
theorem strS_no {L : Nat → En} {n : Nat} {fa fb : Int} (h : stC L n fa fb ≠ 0) : strS L n fa fb = (0, 0, stC L n fa fb) := by
  unfold strS numL
  rw [if_neg h]; rfl
theorem encT3 (a b c : Int) : encT (a, b, c) = .tuple #[.int .i64 a, .int .i64 b, .int .i64 c] := rfl
set_option maxRecDepth 100000 in
set_option maxHeartbeats 6400000 in
theorem stretch_any (A : Option Addr) (n c : Nat) (L : Nat → En) (fa fb : Int) (w : World) (hA : El w A n L) (hn : n ≤ maxLen) :
    Calls Try.prog 58 #[.slice A n c, .int .i64 fa, .int .i64 fb] w fun e w' => e = .returned (encT (strS L n fa fb)) ∧ Bl w w' := by
  have HR := Lib.hid (fun (X : World) (hb : Bl w X) => rvalidE_any A n c L X (hA.below hb) hn)
  unfold encT
  cases hv : vlB L n with
  | false =>
    have HV := Lib.hid hv
    have HC := Lib.hid (show strS L n fa fb = (0, 0, 1) by rw [strS_no (by rw [stC_1 hv]; decide), stC_1 hv])
    clear hv hA hn
    go_enter Try.func58, Try.ntmps58
    go_wp2_with fail
    refine (HR.out _ (by first | exact Bl.rf _ | go_grown)).mono ?_
    rintro e1 w1 ⟨rfl, hb⟩
    rw [HV.out]
    go_wp2_with fail
    go_ret3
    exact ⟨by rw [HC.out]; rfl, hb⟩
  | true =>
    by_cases hr : dayB fa = true ∧ dayB fb = true ∧ ¬ fb < fa
    · have HV := Lib.hid hv
      have HC := Lib.hid (show strS L n fa fb = (sumL (stL (vL L n) fa fb (pickF L n mallP)), ((stL (vL L n) fa fb (pickF L n mallP)).length : Int), 0) by
        unfold strS numL
        rw [stC_0 hv hr, if_pos rfl, offF_st hv])
      obtain ⟨h1, h2, h3⟩ := hr
      have HD := Lib.hid h1
      have HE := Lib.hid h2
      have HN := Lib.hid (vl_iff.1 hv).1
      have HOF := Lib.hid (fun (d : Int) (X : World) (hX : Bl w X) => roff_any A n c L d X (hA.below hX) hn (fun f x h => lst_bd (vl_iff.1 hv).2 h))
      have HAA := Lib.hid hA
      have HBD := Lib.hid (fun l (hl : ∀ d, d ∈ l → d ∈ pickF L n mallP) => stL_bd (fa := fa) (fb := fb) hv hl)
      clear h1 h2 hv hA hn
      go_enter Try.func58, Try.ntmps58
      go_wp2_with fail
      refine (HR.out _ (by first | exact Bl.rf _ | go_grown)).mono ?_
      rintro e1 w0 ⟨rfl, hb⟩
      rw [HV.out]
      have B0 := Lib.hid hb
      clear hb
      go_wp2_with fail
      refine (rday_any fa _).mono ?_
      rintro e4 w4 ⟨rfl, rfl⟩
      rw [HD.out]
      go_wp2_with fail
      refine (rday_any fb _).mono ?_
      rintro e5 w5 ⟨rfl, rfl⟩
      rw [HE.out]
      go_wp2_with fail
      refine (rdays_any A n c L _ (HAA.out.below B0.out) HV.out).mono ?_
      rintro e1 w1 ⟨⟨v, rfl, hown⟩, hb⟩
      have B1 := Lib.hid (B0.out.tr hb)
      obtain ⟨l, hl⟩ : ∃ l, l = pickF L n mallP := ⟨_, rfl⟩
      have HRNG := Lib.hid (fun d (hd : d ∈ l) => pick_mem HV.out (show d ∈ pickF L n mallP by rw [← hl]; exact hd))
      have hml : l.length ≤ 1000 := by rw [hl]; exact Nat.le_trans (pick_len L n mallP) HN.out
      rw [← hl] at hown HC HBD
      obtain ⟨A2, c2, rfl, -, -, -, -⟩ := isL_of_own rfl hown
      obtain ⟨m, hm⟩ : ∃ m, m = l.length := ⟨_, rfl⟩
      have HM := Lib.hid hm
      rw [← hm] at hown hml
      rw [← hm]
      have HOWN := Lib.hid hown
      clear hb hown hl hm
      go_wp2_with fail
      go_loopw [6, 7, 32] (fun a b i wr => ∃ (k nk : Nat) (s : Int), k ≤ m ∧ i = .int .i64 k ∧ a = .int .i64 s ∧ b = .int .i64 nk ∧ nk ≤ k ∧ Hid (s = sumL (stL (vL L n) fa fb (l.take k))) ∧ Hid (nk = (stL (vL L n) fa fb (l.take k)).length) ∧ Hid (Bl w1 wr)) (fun _ _ i _ => m - (RowKit.intOf i).toNat)
      case atStart => exact ⟨0, 0, 0, Nat.zero_le _, rfl, rfl, rfl, Nat.le_refl _, rfl, rfl, Bl.rf _⟩
      case round =>
        obtain ⟨k, nk, s, hk, rfl, rfl, rfl, hnk, HS, HNK, HZ⟩ := hrel
        by_cases hlt : k < m
        · have hll : k < l.length := by rw [← HM.out]; exact hlt
          obtain ⟨A3, c3, e3, -, -, hs, -⟩ := isL_of_own (l := l) HM.out (own_bN HOWN.out HZ.out)
          obtain ⟨rfl, -, rfl⟩ : A2 = A3 ∧ m = l.length ∧ c2 = c3 := by simpa using e3
          obtain ⟨b', off, rfl, hbb, c0⟩ := asg_at (l := l) (k := k) hs hll
          have hT := take_succ_getD l (k := k) hll
          have hdm : l.getD k 0 ∈ l := by simp [List.getD, hll]
          obtain ⟨hdr, x, hx, hxb⟩ := HRNG.out _ hdm
          obtain ⟨d, hd⟩ : ∃ d, d = l.getD k 0 := ⟨_, rfl⟩
          rw [← hd] at c0 hT hdr hx
          have hsb := sumL_bd (M := 172800000) (l := stL (vL L n) fa fb (l.take k)) (by decide) (HBD.out _ (fun d h => List.mem_of_mem_take h)) _ (Nat.le_refl _)
          rw [List.take_length, ← HS.out, ← HNK.out] at hsb
          have HG := Lib.hid (show offG (vL L n) d = x by unfold offG; rw [show offV (vL L n) d = some x from hx]; rfl)
          have HX := Lib.hid hx
          have e1 : wrap64 (s + x) = s + x := IntWalk.wrap64_in _ (by omega)
          have e2 : IntKind.i64.wrap (s + x) = s + x := IntWalk.i64_in _ (by omega)
          clear hd e3 hs hdm hsb hxb hx
          by_cases q1 : fa ≤ d
          · by_cases q2 : d ≤ fb
            · have HF := Lib.hid (show stL (vL L n) fa fb (l.take (k + 1)) = stL (vL L n) fa fb (l.take k) ++ [x] by
                rw [hT]; unfold stL
                rw [List.filter_append, List.map_append]
                have : btw fa fb d = true := by unfold btw; rw [decide_eq_true q1, decide_eq_true q2]; rfl
                simp [this, HG.out])
              clear hT
              go_wp2_with fail
              refine (HOF.out d _ (B1.out.tr HZ.out)).mono ?_
              rintro e2' X ⟨⟨z, rfl, hz⟩, hb⟩
              obtain rfl := hz x HX.out
              have HZ2 := Lib.hid (HZ.out.tr hb)
              clear hb hz
              go_wp2_with fail
              go_roundw
              case rel => exact ⟨k + 1, nk + 1, s + z, by omega, by go_num, by go_num, by go_num, by omega, (by rw [HF.out, sumL_snoc, ← HS.out]; exact rfl), (by rw [HF.out, List.length_append, List.length_singleton, ← HNK.out]; exact rfl), HZ2.out⟩
              case measure => simp [RowKit.intOf]; omega
            · have HF := Lib.hid (show stL (vL L n) fa fb (l.take (k + 1)) = stL (vL L n) fa fb (l.take k) by
                rw [hT]; unfold stL
                rw [List.filter_append]
                have : btw fa fb d = false := by unfold btw; rw [decide_eq_false q2, Bool.and_false]
                simp [this])
              clear hT
              go_wp2_with fail
              go_roundw
              case rel => exact ⟨k + 1, nk, s, by omega, by go_num, rfl, rfl, by omega, (by rw [HF.out]; exact HS.out), (by rw [HF.out]; exact HNK.out), HZ.out⟩
              case measure => simp [RowKit.intOf]; omega
          · have HF := Lib.hid (show stL (vL L n) fa fb (l.take (k + 1)) = stL (vL L n) fa fb (l.take k) by
              rw [hT]; unfold stL
              rw [List.filter_append]
              have : btw fa fb d = false := by unfold btw; rw [decide_eq_false q1]; rfl
              simp [this])
            clear hT
            go_wp2_with fail
            go_roundw
            case rel => exact ⟨k + 1, nk, s, by omega, by go_num, rfl, rfl, by omega, (by rw [HF.out]; exact HS.out), (by rw [HF.out]; exact HNK.out), HZ.out⟩
            case measure => simp [RowKit.intOf]; omega
        · obtain rfl : k = m := by omega
          have HQ := Lib.hid (show strS L n fa fb = (s, (nk : Int), 0) by rw [HC.out, HS.out, HNK.out, HM.out, List.take_length])
          go_wp2_with fail
          go_ret3
          exact ⟨by rw [HQ.out]; rfl, B1.out.tr HZ.out⟩
    · have HV := Lib.hid hv
      have HC := Lib.hid (show strS L n fa fb = (0, 0, 7) by rw [strS_no (by rw [stC_7 hv hr]; decide), stC_7 hv hr])
      clear hv hA hn
      cases h1 : dayB fa with
      | false =>
        have HD := Lib.hid h1
        clear h1 hr
        go_enter Try.func58, Try.ntmps58
        go_wp2_with fail
        refine (HR.out _ (by first | exact Bl.rf _ | go_grown)).mono ?_
        rintro e1 w1 ⟨rfl, hb⟩
        rw [HV.out]
        go_wp2_with fail
        refine (rday_any fa _).mono ?_
        rintro e4 w4 ⟨rfl, rfl⟩
        rw [HD.out]
        go_wp2_with fail
        go_ret3
        exact ⟨by rw [HC.out]; rfl, hb⟩
      | true =>
        have HD := Lib.hid h1
        cases h2 : dayB fb with
        | false =>
          have HE := Lib.hid h2
          clear h1 h2 hr
          go_enter Try.func58, Try.ntmps58
          go_wp2_with fail
          refine (HR.out _ (by first | exact Bl.rf _ | go_grown)).mono ?_
          rintro e1 w1 ⟨rfl, hb⟩
          rw [HV.out]
          go_wp2_with fail
          refine (rday_any fa _).mono ?_
          rintro e4 w4 ⟨rfl, rfl⟩
          rw [HD.out]
          go_wp2_with fail
          refine (rday_any fb _).mono ?_
          rintro e5 w5 ⟨rfl, rfl⟩
          rw [HE.out]
          go_wp2_with fail
          go_ret3
          exact ⟨by rw [HC.out]; rfl, hb⟩
        | true =>
          have HE := Lib.hid h2
          have hlt : fb < fa := by
            by_cases q : fb < fa
            · exact q
            · exact absurd ⟨h1, h2, q⟩ hr
          clear h1 h2 hr
          go_enter Try.func58, Try.ntmps58
          go_wp2_with fail
          refine (HR.out _ (by first | exact Bl.rf _ | go_grown)).mono ?_
          rintro e1 w1 ⟨rfl, hb⟩
          rw [HV.out]
          go_wp2_with fail
          refine (rday_any fa _).mono ?_
          rintro e4 w4 ⟨rfl, rfl⟩
          rw [HD.out]
          go_wp2_with fail
          refine (rday_any fb _).mono ?_
          rintro e5 w5 ⟨rfl, rfl⟩
          rw [HE.out]
          go_wp2_with fail
          go_ret3
          exact ⟨by rw [HC.out]; rfl, hb⟩
set_option maxRecDepth 100000 in
set_option maxHeartbeats 3200000 in
theorem rsumS_any (A : Option Addr) (n c : Nat) (L : Nat → En) (fa fb : Int) (w : World) (hA : El w A n L) (hn : n ≤ maxLen) :
    Calls Try.prog 24 #[.slice A n c, .int .i64 fa, .int .i64 fb] w fun e w' => e = .returned (encP (sumL (numL (stC L n fa fb) (offF L n fa fb)), stC L n fa fb)) ∧ Bl w w' := by
  have HO := Lib.hid (fun (X : World) (hb : Bl w X) => stretch_any A n c L fa fb X (hA.below hb) hn)
  clear hA hn
  unfold encT strS at HO
  unfold encP
  go_enter Try.func24, Try.ntmps24
  go_wp2_with fail
  refine (HO.out _ (by first | exact Bl.rf _ | go_grown)).mono ?_
  rintro e1 w1 ⟨rfl, hb⟩
  go_wp2_with fail
  go_ret2
  exact ⟨rfl, hb⟩
end Go.Proofs.Ytbmenpfpeadckaa
