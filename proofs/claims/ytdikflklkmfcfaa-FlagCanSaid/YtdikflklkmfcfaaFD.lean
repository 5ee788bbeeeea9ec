/-
  The search for hoists, held against digits.
-/
import Derived.Test.YtdikflklkmfcfaaFM
namespace Go.Proofs.Ytdikflklkmfcfaa
open Go.RowKit Go.Shelf
set_option linter.unusedSimpArgs false
set_option linter.unusedVariables false
attribute [local go_sem] Oper.semAt_some

set_option maxRecDepth 100000 in
set_option maxHeartbeats 4000000 in
theorem hang0D {n c0 c1 n1 B lb wb l N m : Nat} {db : Nat} {V : World} {want : Nat → Nat → Bool} {J Jx : List Hst → (Nat → Prop) → World → Prop}
    (hn : 1 ≤ n ∧ n ≤ 4) (hn1 : n1 ≤ B) (hlb : lb < n1 ∧ ¬ (c0 ≤ lb ∧ lb < c1)) (hwb : wb < n1 ∧ ¬ (c0 ≤ wb ∧ wb < c1)) (hlc : V.cell? ⟨lb, 0, none⟩ = some (.int .i64 (n : Int))) (hwc : V.cell? ⟨wb, 0, none⟩ = some (.func (.func 41) #[] #[.pointer (some ⟨db, 0, none⟩)]))
    (hW : ∀ (p d : Nat) (W : World), p < n → d < 10 → Lo c0 c1 n1 V W → Calls Try.prog 41 (#[.int .i64 (p : Int), .int .i64 (d : Int), .pointer (some ⟨db, 0, none⟩)]) W fun e W' => e = .returned (.bool (want p d)) ∧ W = W')
    (hJ : JOk B J) (hY : YdH c0 c1 n1 B l N m J Jx)
    (hs ds : List Nat) (L : Nat) (hv dv : Value) (pre : List Hst) (O : Nat → Prop) (W : World) (hlen : hs.length = n) (hN : pre.length < N) (hst : StH c0 c1 n1 B lb wb l V J hs ds hv dv pre O W) :
    Calls Try.prog 43 #[hv, dv, .int .i64 (L : Int), .pointer (some ⟨lb, 0, none⟩), .pointer (some ⟨B, 0, none⟩), .pointer (some ⟨wb, 0, none⟩), .pointer (some ⟨B + 1, 0, none⟩)] W (HPost c0 c1 n1 B lb wb l V want J Jx 0 hs ds L hv dv pre O W) := by
  subst hlen
  obtain ⟨_, A, cap, rfl, hcap, hmax, hA⟩ := own_sl7 hst.rh
  have x1 := hst.lo.cell hlb.1 hlb.2 hlc
  have y1 := hst.yb
  have ly := World.block_lt_of_cell? W ⟨B, 0, none⟩ y1
  have hsz := hst.sz
  have HST := Lib.hid hst
  have HA := Lib.hid hA
  have HY := Lib.hid hY
  obtain ⟨hk1, hk4⟩ := hn
  clear hW hY hlc hwc hlb hwb hA hst
  unfold maxLen at hmax
  go_enter Try.func43, Try.ntmps43
  go_wp2_with fail
  have hmx : Try.prog.follows .mixedOrders = true := by kernel_rfl
  refine (wpIn_wide (n := 3)).1 ?_
  gi_region_with_o (first
    | (refine ⟨trivial, ?_⟩; gi_at_call 44; refine (callsIn_wide.2 (clone7_any A hs.length cap hs _ (HA.out.below (by go_grown)) rfl hk1 (by omega))).mono ?_; rintro e w1 ⟨g, cp, rfl, hr, hb⟩; have hb' : Bl W w1 := Bl.tr (by go_grown) hb; obtain ⟨fn, tmps, assign, body, hyy, hR⟩ := leaf_yield (want := want) (L := L) (m' := 2) hJ hn1 HY.out HST.out hN hb' hr hk1 hk4; have y2 := kcb hb' y1; clear hr hb)
    | (refine hR.mono ?_; rintro e w3 ⟨b, rfl, hp⟩))
  all_goals
    go_wp2
    go_ret
    exact ⟨_, rfl, hp⟩
end Go.Proofs.Ytdikflklkmfcfaa
