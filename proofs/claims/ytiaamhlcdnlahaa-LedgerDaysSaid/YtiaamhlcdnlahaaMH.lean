/-
  Package ledger: Corrections of the reference.
-/
import Derived.Test.YtiaamhlcdnlahaaMG
import Derived.Test.YtiaamhlcdnlahaaLH
namespace Go.Proofs.Ytiaamhlcdnlahaa
open Go.RowKit Go.Maps Go.Shelf
set_option linter.unusedSimpArgs false
set_option linter.unusedVariables false

set_option maxRecDepth 100000 in
set_option maxHeartbeats 6400000 in
theorem rcor_any (A : Option Addr) (n c : Nat) (L : Nat → En) (w : World) (hA : El w A n L) (hnc : n ≤ c) (hc : c ≤ maxLen) :
    Calls Try.prog 28 #[.slice A n c] w (CorPost L n w) := by
  have hn := Nat.le_trans hnc hc
  have HR := Lib.hid (fun (X : World) (hb : Bl w X) => rvalidE_any A n c L X (hA.below hb) hn)
  have HLS := Lib.hid (fun (d : Int) (f : Bool) (k : Nat) (X : World) (hX : Bl w X) (hk : k ≤ n) => last_any A k c L d f X (fun h0 => by
    obtain ⟨b', off, e, hb, hcc⟩ := (hA.below hX) (by omega)
    exact ⟨b', off, e, hb, fun j hj => hcc j (by omega)⟩) (Nat.le_trans hk hn))
  have HA := Lib.hid hA
  clear hA
  unfold maxLen at hn hc
  cases hv : vlB L n with
  | false =>
    have HV := Lib.hid hv
    clear hv
    go_enter Try.func28, Try.ntmps28
    go_wp2_with fail
    refine (HR.out _ (by go_grown)).mono ?_
    rintro e1 w1 ⟨rfl, hb⟩
    rw [HV.out]
    go_wp2_with fail
    go_ret2
    exact ⟨hb, .inl ⟨HV.out, rfl⟩⟩
  | true =>
    have HV := Lib.hid hv
    have h1000 := (vl_iff.1 hv).1
    clear hv
    obtain ⟨i0, hi0, hz0, hz1, hz2⟩ := info_parts6N int_infoN
    have HI := Lib.hid (And.intro hi0 (And.intro hz0 (And.intro hz1 hz2)))
    clear hi0 hz0 hz1 hz2
    go_enter Try.func28, Try.ntmps28
    go_wp2_with fail
    refine (HR.out _ (by go_grown)).mono ?_
    rintro e1 w1 ⟨rfl, hb⟩
    rw [HV.out]
    have B1 := Lib.hid hb
    have z1 := hb.size
    clear hb
    go_wp2_with fail
    have NV := Lib.hid (show w1.ownsRow w.heap.size 3 1 (.slice none 0 0) (corF L 0).length (intL (corF L 0)) from World.ownsRow_nil _ _ _ _)
    go_loopw [4, 14] (fun out i wr => ∃ (k : Nat) (sv : Value), sv = out ∧ k ≤ n ∧ i = .int .i64 k ∧ Hid (wr.ownsRow w.heap.size 3 1 sv (corF L k).length (intL (corF L k))) ∧ Hid (Bl w wr)) (fun _ i _ => n - (RowKit.intOf i).toNat)
    case atStart => exact ⟨0, _, rfl, Nat.zero_le _, rfl, NV.out, B1.out⟩
    case round =>
      clear NV
      obtain ⟨k, sv, rfl, hk, rfl, HO, HB⟩ := hrel
      have zr := HB.out.size
      have len := cor_len L k
      by_cases hlt : k < n
      · obtain ⟨b', off, rfl, hbb, hc'⟩ := (HA.out.below HB.out) (by omega)
        obtain ⟨c0, c1, c2⟩ := hc' k hlt
        clear hc'
        have HYE := Lib.hid (fun (q : (lst L (L k).day (L k).fo k).isSome = true) => (show corF L (k + 1) = corF L k ++ [(k : Int)] by rw [corF, if_pos q]))
        have HNO := Lib.hid (fun (q : (lst L (L k).day (L k).fo k).isSome = false) => (show corF L (k + 1) = corF L k by rw [corF, if_neg (by rw [q]; decide)]))
        obtain ⟨y, hy⟩ : ∃ y, y = L k := ⟨_, rfl⟩
        rw [← hy] at c0 c1 c2 HYE HNO
        clear hy
        obtain ⟨z1', hz1'⟩ : ∃ b, b = (lst L y.day y.fo k).getD 0 := ⟨_, rfl⟩
        obtain ⟨b1, hb1⟩ : ∃ b, b = (lst L y.day y.fo k).isSome := ⟨_, rfl⟩
        have HZ1 := Lib.hid hz1'
        have HB2 := Lib.hid hb1
        rw [← hb1] at HYE HNO
        clear hz1' hb1
        go_wp2_with fail
        have x0 : (wr.alloc (.cells #[.int .i64 y.day, .bool y.fo, .int .i64 y.er] 46)).cell? ⟨wr.heap.size, 0, none⟩ = some (.int .i64 y.day) := by go_cell
        have x1 : (wr.alloc (.cells #[.int .i64 y.day, .bool y.fo, .int .i64 y.er] 46)).cell? ⟨wr.heap.size, 1, none⟩ = some (.bool y.fo) := by go_cell
        have x2 : (wr.alloc (.cells #[.int .i64 y.day, .bool y.fo, .int .i64 y.er] 46)).cell? ⟨wr.heap.size, 2, none⟩ = some (.int .i64 y.er) := by go_cell
        have kc : (k : Int) ≤ (c : Int) := by omega
        have kn : 0 ≤ (k : Int) := by omega
        go_region_held3 (fun W' => W'.cell? ⟨wr.heap.size, 0, none⟩ = some (.int .i64 y.day) ∧ W'.cell? ⟨wr.heap.size, 1, none⟩ = some (.bool y.fo) ∧ W'.cell? ⟨wr.heap.size, 2, none⟩ = some (.int .i64 y.er)) (first | exact ⟨y0, y1, y2⟩ | exact ⟨x0, x1, x2⟩) (first
          | (go_at_call 56; refine (HLS.out y.day y.fo k _ (HB.out.tr (Bl.tr (by go_grown) (bl_dr _))) (by omega)).mono ?_; rintro e2 X ⟨rfl, hb⟩; rw [encO_eq, ← HZ1.out, ← HB2.out]; have hbx : Bl wr X := Bl.tr (Bl.tr (by go_grown) (bl_dr _)) hb; have y0 := kcb hb (b := wr.heap.size) (o := 0) (v := .int .i64 y.day) x0; have y1 := kcb hb (b := wr.heap.size) (o := 1) (v := .bool y.fo) x1; have y2 := kcb hb (b := wr.heap.size) (o := 2) (v := .int .i64 y.er) x2; have HX := Lib.hid hbx; clear hb hbx))
        all_goals
          have HO2 := Lib.hid (own_bN HO.out HX.out)
          have HB3 := Lib.hid (HB.out.tr HX.out)
          have zx := HB3.out.size
          clear y0 y1 y2 x0 x1 x2
          cases b1 with
          | false =>
            have HF := Lib.hid (HNO.out rfl)
            go_wp2_with fail
            go_roundw
            case rel => exact ⟨k + 1, _, rfl, by omega, by go_num, by rw [HF.out]; exact HO2.out, HB3.out⟩
            case measure => simp [RowKit.intOf]; omega
          | true =>
            have HF := Lib.hid (HYE.out rfl)
            obtain ⟨F, hF⟩ : ∃ F, F = corF L k := ⟨_, rfl⟩
            rw [← hF] at HF HO2 len
            clear hF
            have hnew := Lib.hid (heap_alloc_new X (.cells #[.int .i64 (k : Int)] 3))
            go_wp2_with (at_builtin; refine wpList_append_lies _ rfl _ _ _ rfl w.heap.size 3 i0 _ 1 8 Try.underlying29 HI.out.1 HI.out.2.1 HI.out.2.2.1 HI.out.2.2.2 rfl (by omega) _ F.length (intL F) rfl (HO2.out.alloc _) ⟨X.heap.size, 0, none⟩ 1 1 [.int .i64 (k : Int)] rfl rfl (World.news_of_block hnew.out) (by simp [Value.oneCell']) (by omega) (by unfold maxLen; omega) (by omega) (by (try simp only [World.size_alloc]); omega) _ rfl ?_; intro gg cap w9 hown1 hgrow hat hlt9)
            have HO9 := Lib.hid (show w9.ownsRow w.heap.size 3 1 (.slice (some ⟨gg, 0, none⟩) (F.length + 1) cap) (F ++ [(k : Int)]).length (intL (F ++ [(k : Int)])) by
              rw [intL_snoc, List.length_append, List.length_singleton]; exact hown1)
            have HB9 := Lib.hid (show Bl w w9 from Below.grown (HB3.out.tr (by go_grown)) hgrow (by (try simp only [World.size_alloc]); omega) (fun j hj => (HO2.out.lt j hj).1))
            clear hown1 hgrow hat
            go_roundw
            case rel => exact ⟨k + 1, _, rfl, by omega, by go_num, by rw [HF.out]; exact HO9.out, HB9.out⟩
            case measure => simp [RowKit.intOf]; omega
      · obtain rfl : k = n := by omega
        go_wp2_with fail
        go_ret2
        exact ⟨HB.out, .inr ⟨HV.out, _, rfl, isL_of_own rfl HO.out⟩⟩
end Go.Proofs.Ytiaamhlcdnlahaa
