/-
  Contracts of the reference of package ledger: Valid, last, off, Said, Found, Off.
-/
import Derived.Test.YtbmenpfpeadckaaLE
namespace Go.Proofs.Ytbmenpfpeadckaa
open Go.RowKit Go.Maps
set_option linter.unusedSimpArgs false
set_option linter.unusedVariables false

set_option maxRecDepth 100000 in
set_option maxHeartbeats 1600000 in
theorem rvalidE_any (A : Option Addr) (n c : Nat) (L : Nat → En) (w : World) (hA : El w A n L) (hn : n ≤ maxLen) : Calls Try.prog 96 #[.slice A n c] w fun e w' => e = .returned (.bool (vlB L n)) ∧ Bl w w' := by
  have HA := Lib.hid hA
  clear hA
  unfold maxLen at hn
  go_enter Try.func96, Try.ntmps96
  go_wp2_with fail
  go_loopw [7] (fun i wr => ∃ k : Nat, k ≤ n ∧ i = .int .i64 k ∧ Hid (allE L k = true) ∧ Bl w wr) (fun i _ => n - (RowKit.intOf i).toNat)
  case atStart => exact ⟨0, Nat.zero_le _, rfl, rfl, Bl.rf _⟩
  case round =>
    obtain ⟨k, hk, rfl, HO, hB⟩ := hrel
    have zB := hB.size
    by_cases hlt : k < n
    · obtain ⟨b, off, rfl, hbb, hcc⟩ := (HA.out.below hB) (by omega)
      obtain ⟨c0, c1, c2⟩ := hcc k hlt
      clear hcc
      have HN := Lib.hid (fun (q : enB (L k) = false) => (show vlB L n = false by rw [vlB, all_no hlt q, Bool.and_false]))
      have HS := Lib.hid (fun (q : enB (L k) = true) => (show allE L (k + 1) = true by rw [allE, HO.out, q]; rfl))
      obtain ⟨x, hx⟩ : ∃ x, x = L k := ⟨_, rfl⟩
      rw [← hx] at c0 c1 c2 HN HS
      clear hx
      have HB := Lib.hid hB
      go_wp2_with fail
      refine (rvalid1_any x _).mono ?_
      rintro e1 w1 ⟨rfl, hb⟩
      have BW : Bl wr w1 := Bl.tr (by go_grown) hb
      clear hb
      cases hv : enB x with
      | false =>
        have HR := Lib.hid (HN.out hv)
        go_wp2_with fail
        go_ret
        exact ⟨ret_boolE HR.out.symm, HB.out.tr BW⟩
      | true =>
        have HR := Lib.hid (HS.out hv)
        go_wp2_with fail
        go_roundw
        case rel => exact ⟨k + 1, by omega, by go_num, HR.out, HB.out.tr BW⟩
        case measure => simp [RowKit.intOf]; omega
    · obtain rfl : k = n := by omega
      have HR := Lib.hid (show vlB L k = decide ((k : Int) ≤ 1000) by rw [vlB, HO.out, Bool.and_true, Bool.eq_iff_iff]; simp; omega)
      go_wp2_with fail
      go_ret
      exact ⟨ret_boolE HR.out.symm, hB⟩
theorem lst_hit {L : Nat → En} {d : Int} {f : Bool} {j : Nat} (h1 : (L j).day = d) (h2 : (L j).fo = f) : lst L d f (j + 1) = some (L j).er := by rw [lst, if_pos (slot_iff.2 ⟨h1, h2⟩)]
theorem lst_miss {L : Nat → En} {d : Int} {f : Bool} {j : Nat} (h : ¬ ((L j).day = d ∧ (L j).fo = f)) : lst L d f (j + 1) = lst L d f j := by rw [lst, if_neg (fun q => h (slot_iff.1 q))]
/-- Where the loop stands, going down. -/
def DownAt (L : Nat → En) (d : Int) (f : Bool) (n : Nat) (i : Value) : Prop :=
  (∃ j : Nat, j < n ∧ i = .int .i64 j ∧ lst L d f n = lst L d f (j + 1)) ∨ (i = .int .i64 (-1) ∧ lst L d f n = none)
theorem down_next {L : Nat → En} {d : Int} {f : Bool} {n j : Nat} (hj : j < n) (h : lst L d f n = lst L d f j) {v : Int} (hv : v = (j : Int) - 1) : DownAt L d f n (.int .i64 v) := by
  subst hv
  cases j with
  | zero => exact .inr ⟨by simp, by rw [h]; rfl⟩
  | succ m => exact .inl ⟨m, by omega, by simp, h⟩
set_option maxRecDepth 100000 in
set_option maxHeartbeats 1600000 in
theorem last_any (A : Option Addr) (n c : Nat) (L : Nat → En) (d : Int) (f : Bool) (w : World) (hA : El w A n L) (hn : n ≤ maxLen) : Calls Try.prog 127 #[.slice A n c, .int .i64 d, .bool f] w fun e w' => e = .returned (encO (lst L d f n)) ∧ Bl w w' := by
  have HA := Lib.hid hA
  clear hA
  unfold maxLen at hn
  have n1 : IntKind.i64.wrap ((n : Int) - 1) = (n : Int) - 1 := IntWalk.i64_in _ (by omega)
  have n2 : wrap64 ((n : Int) - 1) = (n : Int) - 1 := IntWalk.wrap64_in _ (by omega)
  go_enter Try.func127, Try.ntmps127
  go_wp2_with fail
  go_loopw [8] (fun i wr => DownAt L d f n i ∧ Bl w wr) (fun i _ => (RowKit.intOf i + 1).toNat)
  case atStart =>
    refine ⟨?_, Bl.rf _⟩
    cases n with
    | zero => exact .inr ⟨rfl, rfl⟩
    | succ m => exact .inl ⟨m, by omega, by go_num, rfl⟩
  case round =>
    clear n1 n2
    obtain ⟨⟨j, hj, rfl, HL⟩ | ⟨rfl, HL⟩, hB⟩ := hrel
    · obtain ⟨b, off, rfl, hbb, hcc⟩ := (HA.out.below hB) (by omega)
      obtain ⟨c0, c1, c2⟩ := hcc j hj
      clear hcc
      have zB := hB.size
      have k1 : IntKind.i64.wrap ((j : Int) - 1) = (j : Int) - 1 := IntWalk.i64_in _ (by omega)
      have k2 : wrap64 ((j : Int) - 1) = (j : Int) - 1 := IntWalk.wrap64_in _ (by omega)
      have HMI := Lib.hid (fun (q : ¬ ((L j).day = d ∧ (L j).fo = f)) => HL.trans (lst_miss q))
      have HHI := Lib.hid (fun (q : (L j).day = d) (r : (L j).fo = f) => HL.trans (lst_hit q r))
      obtain ⟨x, hx⟩ : ∃ x, x = L j := ⟨_, rfl⟩
      rw [← hx] at c0 c1 c2 HMI HHI
      clear hx HL
      obtain ⟨xd, xf, xe⟩ := x
      dsimp only at c0 c1 c2 HMI HHI
      by_cases q : xd = d
      · have e1 : (xd == d) = true := by simp [q]
        by_cases r : xf = f
        · have e2 : (xf == f) = true := by simp [r]
          have HR := Lib.hid (show encO (lst L d f n) = .tuple #[.int .i64 xe, .bool true] by rw [HHI.out q r]; rfl)
          clear HMI HHI q r
          go_wp2_with fail
          go_ret2
          exact ⟨by rw [HR.out]; rfl, hB⟩
        · have e2 : (xf == f) = false := by simp [r]
          have HR := Lib.hid (HMI.out (fun z => r z.2))
          clear HMI HHI q r
          go_wp2_with fail
          go_roundw
          case rel => exact ⟨down_next hj HR.out rfl, hB⟩
          case measure => simp [RowKit.intOf]
      · have e1 : (xd == d) = false := by simp [q]
        have HR := Lib.hid (HMI.out (fun z => q z.1))
        clear HMI HHI q
        go_wp2_with fail
        go_roundw
        case rel => exact ⟨down_next hj HR.out rfl, hB⟩
        case measure => simp [RowKit.intOf]
    · have HR := Lib.hid (show encO (lst L d f n) = .tuple #[.int .i64 0, .bool false] by rw [HL]; rfl)
      clear HL
      go_wp2_with fail
      go_ret2
      exact ⟨by rw [HR.out]; rfl, hB⟩
set_option maxRecDepth 100000 in
set_option maxHeartbeats 1600000 in
theorem roff_any (A : Option Addr) (n c : Nat) (L : Nat → En) (d : Int) (w : World) (hA : El w A n L) (hn : n ≤ maxLen) (hv : ∀ f x, lst L d f n = some x → -86400000 ≤ x ∧ x ≤ 86400000) :
    Calls Try.prog 99 #[.slice A n c, .int .i64 d] w fun e w' => (∃ z, e = .returned (.tuple #[.int .i64 z, .bool (offO L n d).isSome]) ∧ ∀ x, offO L n d = some x → z = x) ∧ Bl w w' := by
  have HC := Lib.hid (fun (f : Bool) (X : World) (hb : Bl w X) => last_any A n c L d f X (hA.below hb) hn)
  clear hA
  have HV := Lib.hid hv
  have HO := Lib.hid (show offO L n d = (match lst L d false n, lst L d true n with | some a, some b => some (b - a) | _, _ => none) from rfl)
  have hr : ∀ r : Option Int, (∀ x, r = some x → -86400000 ≤ x ∧ x ≤ 86400000) → -86400000 ≤ r.getD 0 ∧ r.getD 0 ≤ 86400000 := fun r h => by
    cases r with
    | none => exact ⟨by simp, by simp⟩
    | some x => exact h x rfl
  have hb0 := hr _ (hv false)
  have hb1 := hr _ (hv true)
  clear hv hr
  go_enter Try.func99, Try.ntmps99
  go_wp2_with fail
  refine (HC.out false _ (by first | exact Bl.rf _ | go_grown)).mono ?_
  rintro e1 w1 ⟨rfl, hb⟩
  obtain ⟨p, hp⟩ : ∃ p, p = (lst L d false n).getD 0 := ⟨_, rfl⟩
  obtain ⟨s, hs⟩ : ∃ s, s = (lst L d false n).isSome := ⟨_, rfl⟩
  have HP := Lib.hid hp
  have HS := Lib.hid hs
  rw [← hp] at hb0
  rw [encO, ← hp, ← hs]
  clear hp hs
  go_wp2_with fail
  refine (HC.out true _ hb).mono ?_
  rintro e2 w2 ⟨rfl, hb2⟩
  obtain ⟨p2, hp⟩ : ∃ p, p = (lst L d true n).getD 0 := ⟨_, rfl⟩
  obtain ⟨s2, hs⟩ : ∃ s, s = (lst L d true n).isSome := ⟨_, rfl⟩
  have HP2 := Lib.hid hp
  have HS2 := Lib.hid hs
  rw [← hp] at hb1
  rw [encO, ← hp, ← hs]
  clear hp hs
  have k1 : IntKind.i64.wrap (p2 - p) = p2 - p := IntWalk.i64_in _ (by omega)
  have k2 : wrap64 (p2 - p) = p2 - p := IntWalk.wrap64_in _ (by omega)
  have HB := Lib.hid (hb.tr hb2)
  clear hb hb2
  cases s
  all_goals
    go_wp2_with fail
    go_ret2
    refine ⟨⟨p2 - p, ?_, ?_⟩, HB.out⟩
    · rw [HO.out]
      have h1 := HS.out
      have h2 := HS2.out
      revert h1 h2
      cases lst L d false n <;> cases lst L d true n <;> simp <;> rintro rfl <;> rfl
    · intro x hx
      rw [HO.out] at hx
      have h1 := HP.out
      have h2 := HP2.out
      revert h1 h2 hx
      cases lst L d false n <;> cases lst L d true n <;> simp <;> intros <;> subst_vars <;> rfl