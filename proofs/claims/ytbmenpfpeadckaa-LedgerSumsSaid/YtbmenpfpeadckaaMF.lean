/-
  Package ledger: days and Days of the reference.
-/
import Derived.Test.YtbmenpfpeadckaaME
import Derived.Test.YtbmenpfpeadckaaLX
namespace Go.Proofs.Ytbmenpfpeadckaa
open Go.RowKit Go.Maps Go.Shelf
set_option linter.unusedSimpArgs false
set_option linter.unusedVariables false

theorem selB_all (V : Int → Bool → Option Int) (d : Int) : selB V mallP d = (offV V d).isSome := by
  unfold selB
  cases offV V d <;> rfl
set_option maxRecDepth 100000 in
set_option maxHeartbeats 6400000 in
theorem rdays_any (A : Option Addr) (n c : Nat) (L : Nat → En) (w : World) (hA : El w A n L) (hvl : vlB L n = true) :
    Calls Try.prog 98 #[.slice A n c] w fun e w' => (∃ v, e = .returned v ∧ w'.ownsRow w.heap.size 3 1 v (pickF L n mallP).length (intL (pickF L n mallP))) ∧ Bl w w' := by
  have hn := (vl_iff.1 hvl).1
  have hnm : n ≤ maxLen := by unfold maxLen; omega
  obtain ⟨i0, hi0, hz0, hz1, hz2⟩ := info_parts6N int_infoN
  have HI := Lib.hid (And.intro hi0 (And.intro hz0 (And.intro hz1 hz2)))
  clear hi0 hz0 hz1 hz2
  have HOF := Lib.hid (fun (d : Int) (X : World) (hX : Bl w X) => roff_any A n c L d X (hA.below hX) hnm (fun f x h => lst_bd (vl_iff.1 hvl).2 h))
  have HAL := Lib.hid (fun (X : World) (hX : Bl w X) => all_any A n c L X (hA.below hX) hn (vl_iff.1 hvl).2)
  have HVL := Lib.hid hvl
  have HN := Lib.hid hn
  clear hA hvl hn hnm
  go_enter Try.func98, Try.ntmps98
  go_wp2_with fail
  refine (HAL.out _ (by first | exact Bl.rf _ | go_grown)).mono ?_
  rintro e1 w1 ⟨⟨v, l, rfl, hl, -, hown⟩, hb⟩
  obtain hl := dys_eq hl
  have B1 := Lib.hid (show Bl w w1 from Bl.tr (by first | exact Bl.rf _ | go_grown) hb)
  have z1 := B1.out.size
  have HRNG := Lib.hid (fun d (hd : d ∈ l) => dys_rng HVL.out (show d ∈ dysOf L n by rw [← hl]; exact hd))
  have hml : l.length ≤ 1000 := by rw [hl]; exact Nat.le_trans (dys_len L n) HN.out
  have HLL := Lib.hid hl
  obtain ⟨A2, c2, rfl, -, -, -, -⟩ := isL_of_own rfl hown
  obtain ⟨m, hm⟩ : ∃ m, m = l.length := ⟨_, rfl⟩
  have HM := Lib.hid hm
  rw [← hm] at hown hml
  rw [← hm]
  have HOWN := Lib.hid hown
  clear hb hown hl hm
  go_wp2_with fail
  have NV := Lib.hid (show w1.ownsRow w1.heap.size 3 1 (.slice none 0 0) ((l.take 0).filter (selB (vL L n) mallP)).length (intL ((l.take 0).filter (selB (vL L n) mallP))) from World.ownsRow_nil _ _ _ _)
  go_loopw [3, 11] (fun out i wr => ∃ (k : Nat) (sv : Value), sv = out ∧ k ≤ m ∧ i = .int .i64 k ∧ Hid (wr.ownsRow w1.heap.size 3 1 sv ((l.take k).filter (selB (vL L n) mallP)).length (intL ((l.take k).filter (selB (vL L n) mallP)))) ∧ Hid (Bl w1 wr)) (fun _ i _ => m - (RowKit.intOf i).toNat)
  case atStart => exact ⟨0, _, rfl, Nat.zero_le _, rfl, NV.out, Bl.rf _⟩
  case round =>
    clear NV
    obtain ⟨k, sv, rfl, hk, rfl, HO, HZ⟩ := hrel
    have zr := HZ.out.size
    by_cases hlt : k < m
    · obtain ⟨A3, c3, e3, -, -, hs, -⟩ := isL_of_own (l := l) HM.out (own_bN HOWN.out HZ.out)
      obtain ⟨rfl, -, rfl⟩ : A2 = A3 ∧ m = l.length ∧ c2 = c3 := by simpa using e3
      obtain ⟨b', off, rfl, hbb, c0⟩ := asg_at (l := l) (k := k) hs (by rw [← HM.out]; exact hlt)
      have HT := Lib.hid (take_succ_getD l (k := k) (by rw [← HM.out]; exact hlt))
      have hdm : l.getD k 0 ∈ l := by
        have hk' : k < l.length := by rw [← HM.out]; exact hlt
        simp [List.getD, hk']
      have HDM := Lib.hid hdm
      have HDR := Lib.hid (HRNG.out _ hdm)
      obtain ⟨d, hd⟩ : ∃ d, d = l.getD k 0 := ⟨_, rfl⟩
      rw [← hd] at c0 HT HDR HDM
      clear hd e3 hs hdm
      have HL := Lib.hid (show ((l.take k).filter (selB (vL L n) mallP)).length ≤ k from Nat.le_trans (List.length_filter_le _ _) (by simp [List.length_take]; omega))
      go_wp2_with fail
      refine (HOF.out d _ (B1.out.tr HZ.out)).mono ?_
      rintro e2 X ⟨⟨z, rfl, hz⟩, hb⟩
      have HX := Lib.hid hb
      obtain ⟨bb, hbb'⟩ : ∃ b, b = (offO L n d).isSome := ⟨_, rfl⟩
      have hp : selB (vL L n) mallP d = bb := by rw [selB_all]; exact hbb'.symm
      rw [← hbb']
      clear hb hz hbb'
      cases bb with
      | false =>
        have HF := Lib.hid (show (l.take (k + 1)).filter (selB (vL L n) mallP) = (l.take k).filter (selB (vL L n) mallP) by rw [HT.out, List.filter_append]; simp [hp])
        have HO2 := Lib.hid (own_bN HO.out HX.out)
        have HZ2 := Lib.hid (HZ.out.tr HX.out)
        clear hp
        go_wp2_with fail
        go_roundw
        case rel => exact ⟨k + 1, _, rfl, by omega, by go_num, by rw [HF.out]; exact HO2.out, HZ2.out⟩
        case measure => simp [RowKit.intOf]; omega
      | true =>
        have HF := Lib.hid (show (l.take (k + 1)).filter (selB (vL L n) mallP) = (l.take k).filter (selB (vL L n) mallP) ++ [d] by rw [HT.out, List.filter_append]; simp [hp])
        have HO2 := Lib.hid (own_bN HO.out HX.out)
        have HZ2 := Lib.hid (HZ.out.tr HX.out)
        have zx := HZ2.out.size
        have hlk := HL.out
        clear hp
        obtain ⟨F, hF⟩ : ∃ F, F = (l.take k).filter (selB (vL L n) mallP) := ⟨_, rfl⟩
        rw [← hF] at HF HO2 hlk
        clear hF
        have hnew := Lib.hid (heap_alloc_new X (.cells #[.int .i64 d] 3))
        go_wp2_with (at_builtin; refine wpList_append_lies _ rfl _ _ _ rfl w1.heap.size 3 i0 _ 1 8 Try.underlying24 HI.out.1 HI.out.2.1 HI.out.2.2.1 HI.out.2.2.2 rfl (by omega) _ F.length (intL F) rfl (HO2.out.alloc _) ⟨X.heap.size, 0, none⟩ 1 1 [.int .i64 d] rfl rfl (World.news_of_block hnew.out) (by simp [Value.oneCell']) (by omega) (by unfold maxLen; omega) (by omega) (by (try simp only [World.size_alloc]); omega) _ rfl ?_; intro gg cap w9 hown1 hgrow hat hlt9)
        have HO9 := Lib.hid (show w9.ownsRow w1.heap.size 3 1 (.slice (some ⟨gg, 0, none⟩) (F.length + 1) cap) (F ++ [d]).length (intL (F ++ [d])) by
          rw [intL_snoc, List.length_append, List.length_singleton]; exact hown1)
        have HB9 := Lib.hid (show Bl w1 w9 from Below.grown (HZ2.out.tr (by go_grown)) hgrow (by (try simp only [World.size_alloc]); omega) (fun j hj => (HO2.out.lt j hj).1))
        clear hown1 hgrow hat
        go_roundw
        case rel => exact ⟨k + 1, _, rfl, by omega, by go_num, by rw [HF.out]; exact HO9.out, HB9.out⟩
        case measure => simp [RowKit.intOf]; omega
    · obtain rfl : k = m := by omega
      have HF := Lib.hid (show (l.take k).filter (selB (vL L n) mallP) = l.filter (selB (vL L n) mallP) by rw [HM.out, List.take_length])
      rw [HF.out] at HO
      go_wp2_with fail
      go_ret
      have HB9 := B1.out.tr HZ.out
      refine ⟨⟨_, rfl, ?_⟩, HB9⟩
      unfold pickF
      rw [← HLL.out]
      exact own_mono HO.out z1