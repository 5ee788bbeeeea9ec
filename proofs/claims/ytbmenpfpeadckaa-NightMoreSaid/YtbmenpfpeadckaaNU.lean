/-
  Contracts of package night and of its reference: lists of chances by their numbers.
-/
import Derived.Test.YtbmenpfpeadckaaNR
import Derived.Test.YtbmenpfpeadckaaNL
namespace Go.Proofs.Ytbmenpfpeadckaa
open Go.RowKit
set_option linter.unusedSimpArgs false
set_option linter.unusedVariables false

/-- A number names one of n chances. -/
def ixB (n : Nat) (i : Int) : Bool := decide (0 ≤ i) && decide (i < n)
def ixNo (n : Nat) (T : Nat → Int) (m : Nat) : Bool := anyTo (fun j => !ixB n (T j)) m
set_option maxHeartbeats 800000 in
theorem isIndex8_any (A : Option Addr) (n c : Nat) (i : Int) (w : World) : Calls Try.prog 49 #[.slice A n c, .int .i64 i] w fun e w' => e = .returned (.bool (ixB n i)) ∧ w = w' := by
  go_enter Try.func49, Try.ntmps49
  go_wp2
  all_goals (go_ret; exact ⟨ret_boolN (by simp [ixB]; try omega), rfl⟩)
set_option maxHeartbeats 800000 in
theorem areIx1_any (A : Option Addr) (n c : Nat) (i : Int) (p : Nat) (w : World) (h0 : w.cell? ⟨p, 0, none⟩ = some (.slice A n c)) : Calls Try.prog 84 #[.int .i64 i, .pointer (some ⟨p, 0, none⟩)] w fun e w' => e = .returned (.bool (!ixB n i)) ∧ Bl w w' := by
  have l := ltb h0
  go_enter Try.func84, Try.ntmps84
  go_wp2_with fail
  refine (isIndex8_any A n c i _).mono ?_
  rintro e w1 ⟨rfl, rfl⟩
  go_wp2_with fail
  go_ret
  exact ⟨rfl, by go_grown⟩
set_option maxRecDepth 100000 in
set_option maxHeartbeats 1600000 in
theorem idx_ix (B : Option Addr) (m d : Nat) (T : Nat → Int) (A : Option Addr) (n c : Nat) (p : Nat) (w : World) (hB0 : Sl w B m T) (hm : m ≤ maxLen) (h0 : w.cell? ⟨p, 0, none⟩ = some (.slice A n c)) :
    Calls Try.prog 88 #[.slice B m d, .func (.func 84) #[] #[.pointer (some ⟨p, 0, none⟩)]] w fun e w' => (∃ z : Int, e = .returned (.int .i64 z) ∧ decide (0 ≤ z) = ixNo n T m) ∧ Bl w w' := by
  have HA := Lib.hid hB0
  clear hB0
  unfold maxLen at hm
  go_enter Try.func88, Try.ntmps88
  go_wp2_with fail
  go_loopw [8] (fun i wr => ∃ k : Nat, k ≤ m ∧ i = .int .i64 k ∧ Hid (anyTo (fun j => !ixB n (T j)) k = false) ∧ Bl w wr) (fun i _ => m - (RowKit.intOf i).toNat)
  case atStart => exact ⟨0, Nat.zero_le _, rfl, rfl, Bl.rf _⟩
  case round =>
    obtain ⟨k, hk, rfl, HN, hB⟩ := hrel
    by_cases hlt : k < m
    · obtain ⟨b', off, rfl, hbb, hc⟩ := (HA.out.below hB) (by omega)
      have c0 := hc k hlt
      clear hc
      have HT := Lib.hid (fun (q : (fun j => !ixB n (T j)) k = true) => anyTo_at (P := fun j => !ixB n (T j)) hlt q)
      have HF := Lib.hid (fun (q : (fun j => !ixB n (T j)) k = false) => (show anyTo (fun j => !ixB n (T j)) (k + 1) = false by rw [anyTo, HN.out, Bool.false_or]; exact q))
      obtain ⟨y, hy⟩ : ∃ y, y = T k := ⟨_, rfl⟩
      dsimp only at HT HF
      rw [← hy] at c0 HT HF
      clear hy
      have p0 := kcb hB h0
      cases q : !ixB n y with
      | true =>
        have HI := Lib.hid (HT.out q)
        go_wp2_with fail
        refine (areIx1_any A n c y p _ p0).mono ?_
        rintro e w1 ⟨rfl, hb⟩
        have B1 := Lib.hid (hB.tr hb)
        clear hb
        rw [q]
        go_wp2_with fail
        go_ret
        exact ⟨⟨_, rfl, by rw [ixNo, HI.out]; simp⟩, B1.out⟩
      | false =>
        have HI := Lib.hid (HF.out q)
        go_wp2_with fail
        refine (areIx1_any A n c y p _ p0).mono ?_
        rintro e w1 ⟨rfl, hb⟩
        have B1 := Lib.hid (hB.tr hb)
        clear hb
        rw [q]
        go_wp2_with fail
        go_roundw
        case rel => exact ⟨k + 1, by omega, by go_num, HI.out, B1.out⟩
        case measure => simp [RowKit.intOf]; omega
    · obtain rfl : k = m := by omega
      go_wp2_with fail
      go_ret
      exact ⟨⟨_, rfl, by rw [ixNo, HN.out]; rfl⟩, hB⟩
set_option maxRecDepth 100000 in
set_option maxHeartbeats 1600000 in
theorem con_ix (B : Option Addr) (m d : Nat) (T : Nat → Int) (A : Option Addr) (n c : Nat) (p : Nat) (w : World) (hB0 : Sl w B m T) (hm : m ≤ maxLen) (h0 : w.cell? ⟨p, 0, none⟩ = some (.slice A n c)) :
    Calls Try.prog 83 #[.slice B m d, .func (.func 84) #[] #[.pointer (some ⟨p, 0, none⟩)]] w fun e w' => e = .returned (.bool (ixNo n T m)) ∧ Bl w w' := by
  have HX := Lib.hid (idx_ix B m d T A n c p w hB0 hm h0)
  clear hB0
  go_enter Try.func83, Try.ntmps83
  go_wp2_with fail
  refine (HX.out).mono ?_
  rintro e w1 ⟨⟨z, rfl, hz⟩, hb⟩
  go_wp2_with fail
  go_ret
  exact ⟨by first | rfl | exact ret_boolN hz, hb⟩
set_option maxRecDepth 100000 in
set_option maxHeartbeats 1600000 in
theorem areIndexes_any (A : Option Addr) (n c : Nat) (B : Option Addr) (m d : Nat) (T : Nat → Int) (w : World) (hB : Sl w B m T) (hm : m ≤ maxLen) : Calls Try.prog 43 #[.slice A n c, .slice B m d] w fun e w' => e = .returned (.bool (!ixNo n T m)) ∧ Bl w w' := by
  have HX := Lib.hid (fun (X : World) (hb : Bl w X) => con_ix B m d T A n c w.heap.size X (hB.below hb) hm)
  clear hB
  go_enter Try.func43, Try.ntmps43
  go_wp2_with fail
  refine (HX.out _ (by go_grown) (by go_cell)).mono ?_
  rintro e1 w1 ⟨rfl, hb⟩
  go_wp2_with fail
  go_ret
  exact ⟨rfl, Bl.tr (by go_grown) hb⟩
/-- Two neighbours that are not in ascending order. -/
def dscB (T : Nat → Int) (j : Nat) : Bool := decide (1 ≤ j) && decide (T j ≤ T (j - 1))
theorem anyTo_one {P : Nat → Bool} (h : P 0 = false) : anyTo P 1 = false := by simp [anyTo, h]
set_option maxRecDepth 100000 in
set_option maxHeartbeats 1600000 in
theorem isAscending_any (B : Option Addr) (m d : Nat) (T : Nat → Int) (w : World) (hB : Sl w B m T) (hm : m ≤ maxLen) : Calls Try.prog 47 #[.slice B m d] w fun e w' => e = .returned (.bool (!anyTo (dscB T) m)) ∧ ∃ N, w' = w.drewN N := by
  have HB := Lib.hid hB
  clear hB
  unfold maxLen at hm
  go_enter Try.func47, Try.ntmps47
  go_wp2_with fail
  go_loopw [3] (fun i wr => ∃ k N : Nat, 1 ≤ k ∧ (k ≤ m ∨ k = 1) ∧ i = .int .i64 k ∧ Hid (anyTo (dscB T) k = false) ∧ wr = w.drewN N) (fun i _ => m - (intOf i).toNat)
  case atStart => exact ⟨1, 0, Nat.le_refl _, .inr rfl, rfl, anyTo_one rfl, rfl⟩
  case round =>
    obtain ⟨k, N, hk1, hk, rfl, HO, rfl⟩ := hrel
    by_cases hlt : k < m
    · obtain ⟨b, off, rfl, hbb, hc⟩ := HB.out (by omega)
      obtain ⟨j, hj⟩ : ∃ j, j = k - 1 := ⟨_, rfl⟩
      have c1 := hc k hlt
      have c2 := hc j (by omega)
      have e1 : IntKind.i64.wrap ((k : Int) - 1) = (j : Int) := by rw [IntWalk.i64_in _ (by omega)]; omega
      have e2 : wrap64 ((k : Int) - 1) = (j : Int) := by rw [IntWalk.wrap64_in _ (by omega)]; omega
      have e3 : (k : Int) - 1 = (j : Int) := by omega
      have jm : j < m := by omega
      have HD := Lib.hid (show dscB T k = decide (T k ≤ T j) by rw [dscB, decide_eq_true hk1, Bool.true_and, hj])
      clear hc hj
      by_cases q : T k ≤ T j
      · have HN := Lib.hid (anyTo_at (P := dscB T) hlt (by rw [HD.out]; exact decide_eq_true q))
        obtain ⟨x, hx⟩ : ∃ x, x = T k := ⟨_, rfl⟩
        obtain ⟨y, hy⟩ : ∃ y, y = T j := ⟨_, rfl⟩
        rw [← hx] at c1 q
        rw [← hy] at c2 q
        clear hx hy
        go_wp2_with fail
        go_quiet (fail)
        go_wp2_with fail
        go_ret
        exact ⟨ret_boolN (by rw [HN.out]; rfl), N + nq, by rw [World.drewN_drewN]⟩
      · have HY := Lib.hid (show anyTo (dscB T) (k + 1) = false by rw [anyTo, HO.out, Bool.false_or, HD.out]; exact decide_eq_false q)
        obtain ⟨x, hx⟩ : ∃ x, x = T k := ⟨_, rfl⟩
        obtain ⟨y, hy⟩ : ∃ y, y = T j := ⟨_, rfl⟩
        rw [← hx] at c1 q
        rw [← hy] at c2 q
        clear hx hy
        go_wp2_with fail
        go_quiet (fail)
        go_wp2_with fail
        go_roundw
        case rel => exact ⟨k + 1, _, by omega, by omega, by go_num, HY.out, rfl⟩
        case measure => simp [intOf]; omega
    · have HR := Lib.hid (show anyTo (dscB T) m = false by
        rcases hk with h | h
        · obtain rfl : k = m := by omega
          exact HO.out
        · have h2 : m = 0 ∨ m = 1 := by omega
          rcases h2 with rfl | rfl
          · rfl
          · exact anyTo_one rfl)
      go_wp2_with fail
      go_ret
      exact ⟨ret_boolN (by rw [HR.out]; rfl), _, rfl⟩
set_option maxRecDepth 100000 in
set_option maxHeartbeats 1600000 in
theorem rworthN_any (A : Option Addr) (n c : Nat) (L : Nat → Ch) (v : Value) (l : List Int) (w : World) (lo : Nat) (hA : Chl w A n L) (hn : n ≤ 20) (hL : ∀ j, j < n → 0 ≤ (L j).wo ∧ (L j).wo ≤ 1000000) (hv : IsL w lo v l) (hi : inx n l) (h4 : l.length ≤ 400) :
    Calls Try.prog 80 #[.slice A n c, v] w fun e w' => e = .returned (.int .i64 (wthF L l l.length)) ∧ w = w' := by
  obtain ⟨B, d, rfl, q1, q2, hsl, _⟩ := hv
  obtain ⟨m, hm⟩ : ∃ m, m = l.length := ⟨_, rfl⟩
  have HIX := Lib.hid (fun k (hk : k < m) => inx_at hi (k := k) (by omega))
  have HBD := Lib.hid (fun k (hk : k ≤ m) => wth_bd hi hL (k := k) (by omega))
  have HLB := Lib.hid hL
  rw [← hm] at q1 hsl h4 ⊢
  have HM := Lib.hid hm
  have HA := Lib.hid hA
  have HS := Lib.hid hsl
  clear hA hsl hi hm hL
  go_enter Try.func80, Try.ntmps80
  go_wp2_with fail
  go_loop [5, 10] (fun s i => ∃ k : Nat, k ≤ m ∧ i = .int .i64 k ∧ s = .int .i64 (wthF L l k)) (fun _ i => m - (intOf i).toNat)
  case atStart => exact ⟨0, Nat.zero_le _, rfl, rfl⟩
  case round =>
    obtain ⟨k, hk, rfl, rfl⟩ := hrel
    by_cases hlt : k < m
    · obtain ⟨b, off, rfl, hbb, hc⟩ := HS.out (by omega)
      have c0 := hc k hlt
      have hx := HIX.out k hlt
      obtain ⟨j, hj⟩ : ∃ j : Nat, (j : Int) = l.getD k 0 := ⟨(l.getD k 0).toNat, by omega⟩
      have hjn : j < n := by omega
      obtain ⟨b2, off2, rfl, hbb2, hc2⟩ := HA.out (by omega)
      obtain ⟨_, _, _, _, d4⟩ := hc2 j hjn
      have HSU := Lib.hid (show wthF L l (k + 1) = wthF L l k + (L j).wo by rw [wthF, ← hj]; rfl)
      have b0 := HBD.out k (by omega)
      have hb1 := HLB.out j hjn
      obtain ⟨s, hs⟩ : ∃ s, s = wthF L l k := ⟨_, rfl⟩
      obtain ⟨x, hx'⟩ : ∃ x, x = (L j).wo := ⟨_, rfl⟩
      dsimp only at c0
      rw [← hj] at c0
      rw [← hs] at HSU b0 ⊢
      rw [← hx'] at HSU d4 hb1
      obtain ⟨b01, b02⟩ := b0
      obtain ⟨b11, b12⟩ := hb1
      have w1 : IntKind.i64.wrap (s + x) = s + x := IntWalk.i64_in _ (by omega)
      have w2 : wrap64 (s + x) = s + x := IntWalk.wrap64_in _ (by omega)
      clear hc hc2 hj hs hx' hx
      go_wp2_with fail
      go_round
      case rel => exact ⟨k + 1, by omega, by go_num, by rw [HSU.out]⟩
      case measure => simp [intOf]; omega
    · obtain rfl : k = m := by omega
      go_wp2_with fail
      go_ret
      exact ⟨rfl, rfl⟩
end Go.Proofs.Ytbmenpfpeadckaa
