/-
  Contracts of package night: which chances may stand in one list.
-/
import Derived.Test.YtbmenpfpeadckaaNC
namespace Go.Proofs.Ytbmenpfpeadckaa
open Go.RowKit
set_option linter.unusedSimpArgs false
set_option linter.unusedVariables false

def ltS (a b : ByteArray) : Bool := Op.bytesLess a.toList b.toList
/-- One chance comes before another one. -/
def bfB (a b : Ch) : Bool := decide (a.fr < b.fr) || (decide (a.fr = b.fr) && ltS a.nm b.nm)
def msB (L : Nat → Ch) (k : Nat) (x : Ch) : Bool := decide (k < 20) && vcB x && !anyTo (fun j => decide ((L j).nm = x.nm)) k && (decide (k = 0) || bfB (L (k - 1)) x)
def vdB (L : Nat → Ch) : Nat → Bool
  | 0 => true
  | k + 1 => vdB L k && msB L k (L k)
theorem vd_no {L : Nat → Ch} {k n : Nat} (hk : k < n) (h : msB L k (L k) = false) : vdB L n = false := by
  induction n with
  | zero => omega
  | succ n ih =>
    by_cases e : k = n
    · subst e; simp [vdB, h]
    · simp [vdB, ih (by omega)]
theorem vd_at {L : Nat → Ch} {k n : Nat} (h : vdB L n = true) (hk : k < n) : msB L k (L k) = true := by
  cases hv : msB L k (L k) with
  | true => rfl
  | false => rw [vd_no hk hv] at h; cases h
theorem ms_vc {L : Nat → Ch} {k : Nat} {x : Ch} (h : msB L k x = true) : k < 20 ∧ vcB x = true := by
  simp only [msB, Bool.and_eq_true, decide_eq_true_eq] at h
  exact ⟨h.1.1.1, h.1.1.2⟩

set_option maxRecDepth 100000 in
set_option maxHeartbeats 1600000 in
theorem mayStand_any (A : Option Addr) (k c : Nat) (L : Nat → Ch) (x : Ch) (w : World) (hA : Chl w A k L) (hk : k ≤ maxLen) (hx : x.nm.size ≤ maxLen) :
    Calls Try.prog 87 #[.slice A k c, encC x] w fun e w' => e = .returned (.bool (msB L k x)) ∧ Bl w w' := by
  have HA := Lib.hid hA
  have HX := Lib.hid hx
  have HK := Lib.hid hk
  clear hA hx
  unfold maxLen at hk
  by_cases h20 : 20 ≤ k
  · have HR := Lib.hid (show msB L k x = false by simp [msB]; omega)
    go_enter Try.func87, Try.ntmps87
    go_wp2_with fail
    go_ret
    exact ⟨ret_boolN HR.out.symm, by go_grown⟩
  have k20 : ¬ (20 ≤ (k : Int)) := by omega
  cases hv : vcB x with
  | false =>
    have HV := Lib.hid hv
    have HR := Lib.hid (show msB L k x = false by simp [msB, hv])
    clear hv
    go_enter Try.func87, Try.ntmps87
    go_wp2_with fail
    refine (isChanceN_any x _ HX.out).mono ?_
    rintro e1 w1 ⟨rfl, hb⟩
    rw [HV.out]
    have B1 : Bl w w1 := Bl.tr (by go_grown) hb
    clear hb
    go_wp2_with fail
    go_ret
    exact ⟨ret_boolN HR.out.symm, B1⟩
  | true =>
    have HV := Lib.hid hv
    have HM := Lib.hid (show msB L k x = (!anyTo (fun j => decide ((L j).nm = x.nm)) k && (decide (k = 0) || bfB (L (k - 1)) x)) by unfold msB; rw [decide_eq_true (show k < 20 by omega), hv]; rfl)
    clear hv
    go_enter Try.func87, Try.ntmps87
    go_wp2_with fail
    refine (isChanceN_any x _ HX.out).mono ?_
    rintro e1 w1 ⟨rfl, hb⟩
    rw [HV.out]
    have x0 := kcb hb (b := w.heap.size) (o := 0) (v := .string x.nm) (by go_cell)
    have x1 := kcb hb (b := w.heap.size) (o := 1) (v := .int .i64 x.fr) (by go_cell)
    have B1 : Bl w w1 := Bl.tr (by go_grown) hb
    have l1 := ltb x0
    clear hb
    go_wp2_with fail
    refine (con_stand A k c L x w.heap.size _ (HA.out.below B1) HK.out x0).mono ?_
    rintro e2 w2 ⟨rfl, hb⟩
    have x0 := kcb hb x0
    have x1 := kcb hb x1
    have B2 : Bl w w2 := B1.tr hb
    have l2 := ltb x0
    clear hb
    cases ha : anyTo (fun j => decide ((L j).nm = x.nm)) k with
    | true =>
      have HR := Lib.hid (show msB L k x = false by rw [HM.out, ha]; rfl)
      go_wp2_with fail
      go_ret
      exact ⟨ret_boolN HR.out.symm, B2⟩
    | false =>
      by_cases h0 : k = 0
      · have HR := Lib.hid (show msB L k x = true by rw [HM.out, ha, decide_eq_true h0]; rfl)
        have h0' : ((k : Int) == 0) = true := by simp [h0]
        go_wp2_with fail
        go_ret
        exact ⟨ret_boolN HR.out.symm, B2⟩
      · have HR := Lib.hid (show msB L k x = bfB (L (k - 1)) x by rw [HM.out, ha, decide_eq_false h0]; rfl)
        have h0' : ((k : Int) == 0) = false := by simp [h0]
        obtain ⟨b, off, rfl, hbb, hc⟩ := (HA.out.below B2) (by omega)
        obtain ⟨j, hj⟩ : ∃ j, j = k - 1 := ⟨_, rfl⟩
        obtain ⟨c0, c1, c2, c3, c4⟩ := hc j (by omega)
        rw [← hj] at HR
        have e1 : IntKind.i64.wrap ((k : Int) - 1) = (j : Int) := by rw [IntWalk.i64_in _ (by omega)]; omega
        have e2 : wrap64 ((k : Int) - 1) = (j : Int) := by rw [IntWalk.wrap64_in _ (by omega)]; omega
        have e3 : (k : Int) - 1 = (j : Int) := by omega
        obtain ⟨y, hy⟩ : ∃ y, y = L j := ⟨_, rfl⟩
        have jk : j < k := by omega
        rw [← hy] at c0 c1 c2 c3 c4 HR
        clear hc hj hy
        by_cases f1 : y.fr < x.fr
        · have HR := Lib.hid (show msB L k x = true by rw [HR.out, bfB, decide_eq_true f1]; rfl)
          go_wp2_with fail
          go_ret
          exact ⟨ret_boolN HR.out.symm, B2.tr (by go_grown)⟩
        · by_cases f2 : y.fr = x.fr
          · have HR := Lib.hid (show msB L k x = ltS y.nm x.nm by rw [HR.out, bfB, decide_eq_false f1, decide_eq_true f2]; rfl)
            have f2' : (y.fr == x.fr) = true := by simp [f2]
            go_wp2_with fail
            go_ret
            exact ⟨ret_boolN HR.out.symm, B2.tr (by go_grown)⟩
          · have HR := Lib.hid (show msB L k x = false by rw [HR.out, bfB, decide_eq_false f1, decide_eq_false f2]; rfl)
            have f2' : (y.fr == x.fr) = false := by simp [f2]
            go_wp2_with fail
            go_ret
            exact ⟨ret_boolN (by first | exact HR.out.symm | (rw [HR.out]; simp; omega)), B2.tr (by go_grown)⟩

def SV (w : World) (b o : Nat) (x : Ch) (W' : World) : Prop := Bl w W' ∧ W'.cell? ⟨b, o, none⟩ = some (.string x.nm) ∧ W'.cell? ⟨b, o + 1, none⟩ = some (.int .i64 x.fr) ∧ W'.cell? ⟨b, o + 2, none⟩ = some (.int .i64 x.to) ∧ W'.cell? ⟨b, o + 3, none⟩ = some (.int .i64 x.tl) ∧ W'.cell? ⟨b, o + 4, none⟩ = some (.int .i64 x.wo) ∧ b < W'.heap.size
theorem SV.t {w : World} {b o : Nat} {x : Ch} {W W' : World} (h : SV w b o x W) (hb : Bl W W') : SV w b o x W' := by
  obtain ⟨h0, a0, a1, a2, a3, a4, l⟩ := h
  exact ⟨h0.tr hb, kcb hb a0, kcb hb a1, kcb hb a2, kcb hb a3, kcb hb a4, Nat.lt_of_lt_of_le l hb.size⟩
theorem SV.blw {w : World} {b o : Nat} {x : Ch} {W : World} (h : SV w b o x W) : Bl w W := h.1
set_option maxRecDepth 100000 in
set_option maxHeartbeats 3200000 in
theorem validN_any (A : Option Addr) (n c : Nat) (L : Nat → Ch) (w : World) (hA : Chl w A n L) (hS : ∀ j, j < n → (L j).nm.size ≤ maxLen) (hn : n ≤ c) (hc : c ≤ maxLen) :
    Calls Try.prog 46 #[.slice A n c] w fun e w' => e = .returned (.bool (vdB L n)) ∧ Bl w w' := by
  have HA := Lib.hid hA
  have HS := Lib.hid hS
  have HC := Lib.hid hc
  clear hA hS
  unfold maxLen at hc
  go_enter Try.func46, Try.ntmps46
  go_wp2_with fail
  go_loopw [6] (fun i wr => ∃ k : Nat, k ≤ n ∧ i = .int .i64 k ∧ Hid (vdB L k = true) ∧ Bl w wr) (fun i _ => n - (RowKit.intOf i).toNat)
  case atStart => exact ⟨0, Nat.zero_le _, rfl, rfl, Bl.rf _⟩
  case round =>
    obtain ⟨k, hk, rfl, HO, hB⟩ := hrel
    have zB := hB.size
    have HB := Lib.hid hB
    by_cases hlt : k < n
    · obtain ⟨b, off, rfl, hbb, hcc⟩ := (HA.out.below hB) (by omega)
      obtain ⟨c0, c1, c2, c3, c4⟩ := hcc k hlt
      clear hcc
      have HNO := Lib.hid (fun (q : msB L k (L k) = false) => vd_no hlt q)
      have HYE := Lib.hid (fun (q : msB L k (L k) = true) => (show vdB L (k + 1) = true by rw [vdB, HO.out, q]; rfl))
      have hs := HS.out k hlt
      obtain ⟨x, hx⟩ : ∃ x, x = L k := ⟨_, rfl⟩
      rw [← hx] at c0 c1 c2 c3 c4 HNO HYE hs
      have HXS := Lib.hid hs
      clear hx hs
      have HAK := Lib.hid (show ∀ W, Bl w W → Chl W (some ⟨b, off, none⟩) k L from fun W hW h0 => by
        obtain ⟨b', off', e, hl', hc'⟩ := (HA.out.below hW) (by omega)
        exact ⟨b', off', e, hl', fun j hj => hc' j (by omega)⟩)
      have HKM := Lib.hid (show k ≤ maxLen by unfold maxLen; omega)
      have S0 : SV w b (off + k * 5) x wr := ⟨HB.out, c0, c1, c2, c3, c4, hbb⟩
      have hkc : k ≤ c := by omega
      clear hB
      cases q : msB L k x with
      | false =>
        have HQ := Lib.hid q
        have HR := Lib.hid (HNO.out q)
        clear q
        go_wp2_with fail
        go_region_held3 (fun W' => Bl w W' ∧ W'.cell? ⟨b, off + k * 5, none⟩ = some (.string x.nm) ∧ W'.cell? ⟨b, off + k * 5 + 1, none⟩ = some (.int .i64 x.fr) ∧ W'.cell? ⟨b, off + k * 5 + 2, none⟩ = some (.int .i64 x.to) ∧ W'.cell? ⟨b, off + k * 5 + 3, none⟩ = some (.int .i64 x.tl) ∧ W'.cell? ⟨b, off + k * 5 + 4, none⟩ = some (.int .i64 x.wo) ∧ b < W'.heap.size) (first | exact SV.t S0 (bl_drN _) | exact SV.t (by assumption) hh0) (first | (go_at_call 87; refine (mayStand_any _ k _ L x _ (HAK.out _ (SV.blw (by assumption))) HKM.out HXS.out).mono ?_; rintro e v0 ⟨rfl, hh0⟩; rw [HQ.out]))
        all_goals
          rename_i hHeld
          have hHB := hHeld.1
          clear hHeld
          go_wp2_with fail
          go_ret
          exact ⟨ret_boolN HR.out.symm, hHB⟩
      | true =>
        have HQ := Lib.hid q
        have HR := Lib.hid (HYE.out q)
        clear q
        go_wp2_with fail
        go_region_held3 (fun W' => Bl w W' ∧ W'.cell? ⟨b, off + k * 5, none⟩ = some (.string x.nm) ∧ W'.cell? ⟨b, off + k * 5 + 1, none⟩ = some (.int .i64 x.fr) ∧ W'.cell? ⟨b, off + k * 5 + 2, none⟩ = some (.int .i64 x.to) ∧ W'.cell? ⟨b, off + k * 5 + 3, none⟩ = some (.int .i64 x.tl) ∧ W'.cell? ⟨b, off + k * 5 + 4, none⟩ = some (.int .i64 x.wo) ∧ b < W'.heap.size) (first | exact SV.t S0 (bl_drN _) | exact SV.t (by assumption) hh0) (first | (go_at_call 87; refine (mayStand_any _ k _ L x _ (HAK.out _ (SV.blw (by assumption))) HKM.out HXS.out).mono ?_; rintro e v0 ⟨rfl, hh0⟩; rw [HQ.out]))
        all_goals
          rename_i hHeld
          have hHB := hHeld.1
          clear hHeld
          go_wp2_with fail
          go_roundw
          case rel => exact ⟨k + 1, by omega, by go_num, HR.out, hHB⟩
          case measure => simp [RowKit.intOf]; omega
    · obtain rfl : k = n := by omega
      have HR := Lib.hid HO.out
      go_wp2_with fail
      go_ret
      exact ⟨ret_boolN HR.out.symm, hB⟩
end Go.Proofs.Ytbmenpfpeadckaa
