/-
  Contracts of package ledger: what counts of entries.
-/
import Derived.Test.YtbmenpfpeadckaaLB
import Derived.Test.YtbmenpfpeadckaaLC
namespace Go.Proofs.Ytbmenpfpeadckaa
open Go.RowKit Go.Maps
set_option linter.unusedSimpArgs false
set_option linter.unusedVariables false

set_option maxHeartbeats 800000 in
theorem slotOf_any (x : En) (w : World) : Calls Try.prog 94 #[encE x] w fun e w' => e = .returned (slotV x.day x.fo) ∧ Bl w w' := by
  go_enter Try.func94, Try.ntmps94
  go_wp2
  go_returns
  exact ⟨rfl, by go_grown⟩
/-- What recordOf returns. -/
def RecPost (L : Nat → En) (n : Nat) (w : World) (e : Ending) (w' : World) : Prop :=
  Bl w w' ∧ ((vlB L n = false ∧ e = .returned (.tuple #[.map none, .int .i64 1])) ∨
    (vlB L n = true ∧ ∃ B, e = .returned (.tuple #[.map (some B), .int .i64 0]) ∧ w.heap.size ≤ B ∧ Rec w' B n (fun d f => lst L d f n)))
theorem lst_step (L : Nat → En) (k : Nat) (d : Int) (f : Bool) : (if (L k).day = d ∧ (L k).fo = f then some (L k).er else lst L d f k) = lst L d f (k + 1) := by
  rw [lst]
  by_cases h : (L k).day = d ∧ (L k).fo = f
  · rw [if_pos h, if_pos (slot_iff.2 h)]
  · rw [if_neg h, if_neg (fun q => h (slot_iff.1 q))]
set_option maxRecDepth 100000 in
set_option maxHeartbeats 3200000 in
theorem recordOf_any (A : Option Addr) (n c : Nat) (L : Nat → En) (w : World) (hA : El w A n L) (hn : n ≤ maxLen) :
    Calls Try.prog 60 #[.slice A n c] w (RecPost L n w) := by
  have HV := Lib.hid (fun (X : World) (hb : Bl w X) => validE_any A n c L X (hA.below hb) hn)
  have HA := Lib.hid hA
  clear hA
  unfold maxLen at hn
  cases hv : vlB L n with
  | false =>
    have HR := Lib.hid hv
    clear hv
    go_enter Try.func60, Try.ntmps60
    go_wp2_with fail
    refine (HV.out _ (by first | exact Bl.rf _ | go_grown)).mono ?_
    rintro e1 w1 ⟨rfl, hb⟩
    rw [HR.out]
    go_wp2_with fail
    go_ret2
    exact ⟨hb, .inl ⟨HR.out, rfl⟩⟩
  | true =>
    have HR := Lib.hid hv
    have HE := Lib.hid (vl_iff.1 hv)
    have h1000 := HE.out.1
    clear hv
    have hmm := @run_makeMap Try.prog
    go_enter Try.func60, Try.ntmps60
    go_wp2_with fail
    refine (HV.out _ (by first | exact Bl.rf _ | go_grown)).mono ?_
    rintro e1 w1 ⟨rfl, hb⟩
    have HB1 := Lib.hid hb
    have zb := hb.size
    rw [HR.out]
    clear hb
    go_wp2_with fail
    obtain ⟨B, hB⟩ : ∃ B, B = w1.heap.size := ⟨_, rfl⟩
    have HM0 := Lib.hid (Rec.made w1)
    rw [← hB]
    rw [← hB] at HM0
    have HBB := Lib.hid hB
    clear hB
    have HW2 := Lib.hid (show Bl w (w1.alloc (.map #[] 0)) from HB1.out.tr (by go_grown))
    have hlB : B < (w1.alloc (.map #[] 0)).heap.size := HM0.out.lt
    obtain ⟨w2, hw2⟩ : ∃ w2, w2 = w1.alloc (.map #[] 0) := ⟨_, rfl⟩
    rw [← hw2] at HM0 HW2 hlB
    rw [← hw2]
    clear hw2
    go_loopw [13] (fun i wr => ∃ k : Nat, k ≤ n ∧ i = .int .i64 k ∧ Hid (Rec wr B k (fun d f => lst L d f k)) ∧ Hid (Bl w wr) ∧ B < wr.heap.size) (fun i _ => n - (RowKit.intOf i).toNat)
    case atStart => exact ⟨0, Nat.zero_le _, rfl, HM0.out, HW2.out, hlB⟩
    case round =>
      obtain ⟨k, hk, rfl, HM, HB, hlr⟩ := hrel
      have zr := HB.out.size
      by_cases hlt : k < n
      · obtain ⟨b', off, rfl, hbb, hc⟩ := (HA.out.below HB.out) (by omega)
        obtain ⟨c0, c1, c2⟩ := hc k hlt
        clear hc
        have HEK := Lib.hid (en_iff.1 (HE.out.2 k hlt))
        have HST := Lib.hid (lst_step L k)
        obtain ⟨y, hy⟩ : ∃ y, y = L k := ⟨_, rfl⟩
        rw [← hy] at c0 c1 c2 HEK HST
        clear hy
        go_wp2_with fail
        go_region_law (go_simp; go_at_call 94; refine (slotOf_any y _).mono ?_; rintro e9 v9 ⟨rfl, hb9⟩; have hb8 : Bl wr v9 := Bl.tr (by go_grown) hb9; have x2 := kcb hb9 (b := wr.heap.size) (o := 2) (v := .int .i64 y.er) (by go_cell); obtain ⟨w4, hrun, hown4, hg4⟩ := (HM.out.below hb8).run_put (d := y.day) (f := y.fo) (v := y.er) (by unfold maxLen; omega) (by unfold rng; have := HEK.out; omega) (by unfold rng; have := HEK.out; omega); have HM4 := Lib.hid (hown4.congr (HST.out)); have HB8 := Lib.hid hb8; have HG4 := Lib.hid hg4; have l9 := ltb x2; clear hown4 hg4 hb8)
        all_goals
          have HB4 := Lib.hid (show Bl w w4 from Below.grown (HB.out.tr HB8.out) HG4.out (by have := HBB.out; have := HB1.out.size; omega) (fun j hj => by cases hj; have := HBB.out; omega))
          have z4 := HG4.out.size
          have z8 := HB8.out.size
          go_wp2_with fail
          go_roundw
          case rel => exact ⟨k + 1, by omega, by go_num, HM4.out, HB4.out, by omega⟩
          case measure => simp [RowKit.intOf]; omega
      · obtain rfl : k = n := by omega
        go_wp2_with fail
        go_ret2
        exact ⟨HB.out, .inr ⟨HR.out, B, rfl, by have := HBB.out; omega, HM.out⟩⟩
set_option maxHeartbeats 800000 in
theorem has_any (B k : Nat) (V : Int → Bool → Option Int) (d : Int) (f : Bool) (w : World) (h : Rec w B k V) (hd : rng d) : Calls Try.prog 93 #[.map (some B), slotV d f] w fun e w' => e = .returned (.bool (V d f).isSome) ∧ Bl w w' := by
  have HL := (h.below (w' := w.alloc (.cells #[.int .i64 d, .bool f] 112)) (by go_grown)).run_ok (f := f) hd rfl
  clear h
  go_enter Try.func93, Try.ntmps93
  go_wp2
  go_ret
  exact ⟨rfl, by go_grown⟩
end Go.Proofs.Ytbmenpfpeadckaa
