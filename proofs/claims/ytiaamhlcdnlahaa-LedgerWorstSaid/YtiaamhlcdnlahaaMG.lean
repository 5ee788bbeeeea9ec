/-
  Package ledger: Unfound of the reference.
-/
import Derived.Test.YtiaamhlcdnlahaaMF
namespace Go.Proofs.Ytiaamhlcdnlahaa
open Go.RowKit Go.Maps Go.Shelf
set_option linter.unusedSimpArgs false
set_option linter.unusedVariables false

theorem encO_eq (o : Option Int) : encO o = .tuple #[.int .i64 (o.getD 0), .bool o.isSome] := by cases o <;> rfl
/-- Whether a day was said and not found. -/
def unfB (L : Nat → En) (n : Nat) (d : Int) : Bool := (lst L d false n).isSome && !(lst L d true n).isSome
def unfF (L : Nat → En) (n : Nat) : List Int := (dysOf L n).filter (unfB L n)
set_option maxRecDepth 100000 in
set_option maxHeartbeats 6400000 in
theorem runfound_any (A : Option Addr) (n c : Nat) (L : Nat → En) (w : World) (hA : El w A n L) (hn : n ≤ maxLen) :
    Calls Try.prog 26 #[.slice A n c] w (IntPost (vC L n) (unfF L n) w) := by
  have HR := Lib.hid (fun (X : World) (hb : Bl w X) => rvalidE_any A n c L X (hA.below hb) hn)
  have HLS := Lib.hid (fun (d : Int) (f : Bool) (X : World) (hX : Bl w X) => last_any A n c L d f X (hA.below hX) hn)
  have HA := Lib.hid hA
  clear hA hn
  cases hv : vlB L n with
  | false =>
    have HV := Lib.hid hv
    have HC := Lib.hid (show vC L n = 1 by rw [vC, if_neg (by rw [hv]; decide)])
    clear hv
    go_enter Try.func26, Try.ntmps26
    go_wp2_with fail
    refine (HR.out _ (by go_grown)).mono ?_
    rintro e1 w1 ⟨rfl, hb⟩
    rw [HV.out]
    go_wp2_with fail
    go_ret2
    exact ⟨hb, .inl ⟨by rw [HC.out]; decide, by rw [HC.out]; rfl⟩⟩
  | true =>
    have HV := Lib.hid hv
    have HVL := Lib.hid hv
    have HN := Lib.hid (vl_iff.1 hv).1
    have HC := Lib.hid (show vC L n = 0 by rw [vC, if_pos hv])
    clear hv
    obtain ⟨i0, hi0, hz0, hz1, hz2⟩ := info_parts6N int_infoN
    have HI := Lib.hid (And.intro hi0 (And.intro hz0 (And.intro hz1 hz2)))
    clear hi0 hz0 hz1 hz2
    go_enter Try.func26, Try.ntmps26
    go_wp2_with fail
    refine (HR.out _ (by go_grown)).mono ?_
    rintro e1 w0 ⟨rfl, hb⟩
    rw [HV.out]
    have B0 := Lib.hid hb
    clear hb
    go_wp2_with fail
    refine (all_any A n c L _ (HA.out.below B0.out) HN.out (vl_iff.1 HVL.out).2).mono ?_
    rintro e1 w1 ⟨⟨v, l, rfl, hl, -, hown⟩, hb⟩
    obtain hl := dys_eq hl
    have B1 := Lib.hid (show Bl w w1 from B0.out.tr hb)
    have z1 := B1.out.size
    have HRNG := Lib.hid (fun d (hd : d ∈ l) => dys_rng HVL.out (show d ∈ dysOf L n by rw [← hl]; exact hd))
    have hml : l.length ≤ 1000 := by rw [hl]; exact Nat.le_trans (dys_len L n) HN.out
    have HLL := Lib.hid hl
    obtain ⟨A2, c2, rfl, -, -, -, -⟩ := isL_of_own rfl hown
    obtain ⟨m, hm⟩ : ∃ m, m = l.length := ⟨_, rfl⟩
    have HM := Lib.hid hm
    rw [← hm] at hown hml
    rw [← hm]
    have HOWN := Lib.hid hown
    clear hb hown hl hm
    go_wp2_with fail
    have NV := Lib.hid (show w1.ownsRow w1.heap.size 3 1 (.slice none 0 0) ((l.take 0).filter (unfB L n)).length (intL ((l.take 0).filter (unfB L n))) from World.ownsRow_nil _ _ _ _)
    go_loopw [4, 17] (fun out i wr => ∃ (k : Nat) (sv : Value), sv = out ∧ k ≤ m ∧ i = .int .i64 k ∧ Hid (wr.ownsRow w1.heap.size 3 1 sv ((l.take k).filter (unfB L n)).length (intL ((l.take k).filter (unfB L n)))) ∧ Hid (Bl w1 wr)) (fun _ i _ => m - (RowKit.intOf i).toNat)
    case atStart => exact ⟨0, _, rfl, Nat.zero_le _, rfl, NV.out, Bl.rf _⟩
    case round =>
      clear NV
      obtain ⟨k, sv, rfl, hk, rfl, HO, HZ⟩ := hrel
      have zr := HZ.out.size
      by_cases hlt : k < m
      · obtain ⟨A3, c3, e3, -, -, hs, -⟩ := isL_of_own (l := l) HM.out (own_bN HOWN.out HZ.out)
        obtain ⟨rfl, -, rfl⟩ : A2 = A3 ∧ m = l.length ∧ c2 = c3 := by simpa using e3
        obtain ⟨b', off, rfl, hbb, c0⟩ := asg_at (l := l) (k := k) hs (by rw [← HM.out]; exact hlt)
        have HT := Lib.hid (take_succ_getD l (k := k) (by rw [← HM.out]; exact hlt))
        have hdm : l.getD k 0 ∈ l := by
          have hk' : k < l.length := by rw [← HM.out]; exact hlt
          simp [List.getD, hk']
        have HDM := Lib.hid hdm
        have HDR := Lib.hid (HRNG.out _ hdm)
        obtain ⟨d, hd⟩ : ∃ d, d = l.getD k 0 := ⟨_, rfl⟩
        rw [← hd] at c0 HT HDR HDM
        clear hd e3 hs hdm
        have HL := Lib.hid (show ((l.take k).filter (unfB L n)).length ≤ k from Nat.le_trans (List.length_filter_le _ _) (by simp [List.length_take]; omega))
        go_wp2_with fail
        refine (HLS.out d false _ (B1.out.tr HZ.out)).mono ?_
        rintro e2 X0 ⟨rfl, hb⟩
        rw [encO_eq]
        have HX0 := Lib.hid hb
        clear hb
        obtain ⟨z1', hz1'⟩ : ∃ b, b = (lst L d false n).getD 0 := ⟨_, rfl⟩
        obtain ⟨b1, hb1⟩ : ∃ b, b = (lst L d false n).isSome := ⟨_, rfl⟩
        rw [← hb1, ← hz1']
        clear hz1'
        have HB1 := Lib.hid hb1
        clear hb1
        go_wp2_with fail
        refine (HLS.out d true _ (B1.out.tr (HZ.out.tr HX0.out))).mono ?_
        rintro e2 X ⟨rfl, hb⟩
        rw [encO_eq]
        have HX := Lib.hid (HX0.out.tr hb)
        clear hb
        obtain ⟨z2', hz2'⟩ : ∃ b, b = (lst L d true n).getD 0 := ⟨_, rfl⟩
        obtain ⟨b2, hb2⟩ : ∃ b, b = (lst L d true n).isSome := ⟨_, rfl⟩
        have hp : unfB L n d = (b1 && !b2) := by rw [HB1.out, hb2]; rfl
        rw [← hb2, ← hz2']
        clear hb2 hz2' HB1
        cases b1 with
        | false =>
          rw [Bool.false_and] at hp
          have HF := Lib.hid (show (l.take (k + 1)).filter (unfB L n) = (l.take k).filter (unfB L n) by rw [HT.out, List.filter_append]; simp [hp])
          have HO2 := Lib.hid (own_bN HO.out HX.out)
          have HZ2 := Lib.hid (HZ.out.tr HX.out)
          clear hp
          go_wp2_with fail
          go_roundw
          case rel => exact ⟨k + 1, _, rfl, by omega, by go_num, by rw [HF.out]; exact HO2.out, HZ2.out⟩
          case measure => simp [RowKit.intOf]; omega
        | true =>
          cases b2 with
          | true =>
            rw [Bool.true_and, Bool.not_true] at hp
            have HF := Lib.hid (show (l.take (k + 1)).filter (unfB L n) = (l.take k).filter (unfB L n) by rw [HT.out, List.filter_append]; simp [hp])
            have HO2 := Lib.hid (own_bN HO.out HX.out)
            have HZ2 := Lib.hid (HZ.out.tr HX.out)
            clear hp
            go_wp2_with fail
            go_roundw
            case rel => exact ⟨k + 1, _, rfl, by omega, by go_num, by rw [HF.out]; exact HO2.out, HZ2.out⟩
            case measure => simp [RowKit.intOf]; omega
          | false =>
            rw [Bool.true_and, Bool.not_false] at hp
            have HF := Lib.hid (show (l.take (k + 1)).filter (unfB L n) = (l.take k).filter (unfB L n) ++ [d] by rw [HT.out, List.filter_append]; simp [hp])
            have HO2 := Lib.hid (own_bN HO.out HX.out)
            have HZ2 := Lib.hid (HZ.out.tr HX.out)
            have zx := HZ2.out.size
            have hlk := HL.out
            clear hp
            obtain ⟨F, hF⟩ : ∃ F, F = (l.take k).filter (unfB L n) := ⟨_, rfl⟩
            rw [← hF] at HF HO2 hlk
            clear hF
            have hnew := Lib.hid (heap_alloc_new X (.cells #[.int .i64 d] 3))
            go_wp2_with (at_builtin; refine wpList_append_lies _ rfl _ _ _ rfl w1.heap.size 3 i0 _ 1 8 Try.underlying29 HI.out.1 HI.out.2.1 HI.out.2.2.1 HI.out.2.2.2 rfl (by omega) _ F.length (intL F) rfl (HO2.out.alloc _) ⟨X.heap.size, 0, none⟩ 1 1 [.int .i64 d] rfl rfl (World.news_of_block hnew.out) (by simp [Value.oneCell']) (by omega) (by unfold maxLen; omega) (by omega) (by (try simp only [World.size_alloc]); omega) _ rfl ?_; intro gg cap w9 hown1 hgrow hat hlt9)
            have HO9 := Lib.hid (show w9.ownsRow w1.heap.size 3 1 (.slice (some ⟨gg, 0, none⟩) (F.length + 1) cap) (F ++ [d]).length (intL (F ++ [d])) by
              rw [intL_snoc, List.length_append, List.length_singleton]; exact hown1)
            have HB9 := Lib.hid (show Bl w1 w9 from Below.grown (HZ2.out.tr (by go_grown)) hgrow (by (try simp only [World.size_alloc]); omega) (fun j hj => (HO2.out.lt j hj).1))
            clear hown1 hgrow hat
            go_roundw
            case rel => exact ⟨k + 1, _, rfl, by omega, by go_num, by rw [HF.out]; exact HO9.out, HB9.out⟩
            case measure => simp [RowKit.intOf]; omega
      · obtain rfl : k = m := by omega
        have HF := Lib.hid (show (l.take k).filter (unfB L n) = l.filter (unfB L n) by rw [HM.out, List.take_length])
        rw [HF.out] at HO
        go_wp2_with fail
        go_ret2
        have HB9 := B1.out.tr HZ.out
        refine ⟨HB9, .inr ⟨HC.out, _, rfl, ?_⟩⟩
        unfold unfF
        rw [← HLL.out]
        exact own_mono HO.out z1
end Go.Proofs.Ytiaamhlcdnlahaa
