/-
  Contracts of package rate and of its reference: ValidBoxes.
-/
import Derived.Test.YtbhdoafcjfcgfaaRK
import Derived.Test.YtbhdoafcjfcgfaaRB
import Derived.Maps.OwnOps
import Derived.Maps.Views
namespace Go.Proofs.Ytbhdoafcjfcgfaa
open Go.RowKit Go.Maps
set_option linter.unusedSimpArgs false
set_option linter.unusedVariables false

/-- Some box before this one has this name. -/
def occ (R : Nat → Bx) (s : ByteArray) : Nat → Bool
  | 0 => false
  | k + 1 => occ R s k || decide ((R k).s = s)
def vbx (x : Bx) : Bool := vbB x.s x.n x.E
/-- The first k boxes may stand in one list. -/
def sevB (R : Nat → Bx) : Nat → Bool
  | 0 => true
  | k + 1 => sevB R k && vbx (R k) && !occ R (R k).s k
def vbsB (R : Nat → Bx) (n : Nat) : Bool := decide (1 ≤ n) && decide (n ≤ 16) && sevB R n
theorem sev_no {R : Nat → Bx} {k n : Nat} (hk : k < n) (h : vbx (R k) = false ∨ occ R (R k).s k = true) : sevB R n = false := by
  induction n with
  | zero => omega
  | succ n ih =>
    by_cases e : k = n
    · subst e; rcases h with h | h <;> simp [sevB, h]
    · simp [sevB, ih (by omega)]
theorem vbs_no {R : Nat → Bx} {k n : Nat} (hk : k < n) (h : vbx (R k) = false ∨ occ R (R k).s k = true) : vbsB R n = false := by simp [vbsB, sev_no hk h]
theorem vbs_iff {R : Nat → Bx} {n : Nat} : vbsB R n = true ↔ 1 ≤ n ∧ n ≤ 16 ∧ sevB R n = true := by simp [vbsB, and_assoc]
theorem sev_at {R : Nat → Bx} {k n : Nat} (h : sevB R n = true) (hk : k < n) : vbx (R k) = true := by
  cases hv : vbx (R k) with
  | true => rfl
  | false => rw [sev_no hk (.inl hv)] at h; cases h
theorem occ_at {R : Nat → Bx} {s : ByteArray} {j n : Nat} (hj : j < n) (h : (R j).s = s) : occ R s n = true := by
  induction n with
  | zero => omega
  | succ n ih =>
    by_cases e : j = n
    · subst e; simp [occ, h]
    · simp [occ, ih (by omega)]
/-- What the map holds behind k rounds. -/
def seenD (R : Nat → Bx) : Nat → DataW Unit
  | 0 => .map []
  | k + 1 => (seenD R k).put (.string (R k).s.data.toList) (.lit (.bool true))
theorem seen_map (R : Nat → Bx) (k : Nat) : IsMap (seenD R k) := by
  induction k with
  | zero => exact ⟨[], rfl⟩
  | succ k ih => exact ih.put _ _
theorem key_ne {a b : ByteArray} (h : a ≠ b) : Lit.string a.data.toList ≠ Lit.string b.data.toList := fun e => h (by
  have := Lit.string.inj e
  cases a; cases b
  simp only at this
  rw [Array.toList_inj] at this
  rw [this])
theorem seen_at (R : Nat → Bx) (s : ByteArray) (k : Nat) : (seenD R k).atKey (.string s.data.toList) (.lit (.bool false)) = .lit (.bool (occ R s k)) := by
  induction k with
  | zero => rfl
  | succ k ih =>
    by_cases e : (R k).s = s
    · rw [seenD, e, atKey_put_same (k := .string s.data.toList) (seen_map R k) trivial]
      simp [occ, e]
    · rw [seenD, atKey_put_other (key_ne (Ne.symm e)), ih]
      simp [occ, e]
theorem plainElem_bool_inv {P : Program} {e : TypeId} (he : P.underlying e = some .bool) {v : Value} {z : DataW Unit × List MemPlace} (h : plainElem P e v = some z) : ∃ c, v = .bool c ∧ z.1 = .lit (.bool c) := by
  unfold plainElem at h
  rw [he] at h
  cases v <;> simp at h
  subst h
  exact ⟨_, rfl, rfl⟩
/-- A look-up of a map to bools under a guard that holds. -/
theorem wpList_lookup_bool_gd {P : Program} {w : World} {ops : Array Oper} {rest : List Oper} {o : Oper} {a : Act} {Q : Exit → Act → World → Prop} (hw : Region.wanted o (yielded ops a.tmps) = true) (m x : Operand) (t : TypeId) (hop : o.op = Op.lookup t m x false)
    (k e : TypeId) (K : Keyed P k) (ht : P.underlying t = some (.map k e)) (he : P.underlying e = some .bool) (hz : (zeroValue e).run P w = .ok (.bool false) w) (b n : Nat) (D : DataW Unit)
    (hm : a.eval m = .map (some b)) (hown : w.ownsMap P k (plainElem P e) b n D) (key : Value) (kl : Lit) (hx : a.eval x = key) (hkey : keyOf P k key = some kl) (c : Bool) (hat : D.atKey kl (.lit (.bool false)) = .lit (.bool c))
    (hK : wpList P ops Q rest (a.put o.dst (.bool c)) w) : wpList P ops Q (o :: rest) a w := by
  refine BigFrame.wpList_want hw fun K' hK' => ?_
  obtain ⟨v, ps, hrun, hv⟩ := hown.lookup K ht hz (plainElem_bool he false) hkey
  obtain ⟨d, rfl, hd⟩ := plainElem_bool_inv he hv
  simp only at hd
  rw [hat] at hd
  obtain rfl : c = d := by injection hd with h; injection h
  unfold Oper.wp
  simp [execOp, hop, hm, hx, hrun, Result.andThen]
  exact hK' _ _ hK
theorem bool_zero (w : World) : (zeroValue 4).run Try.prog w = .ok (.bool false) w := by kernel_rfl

set_option maxRecDepth 100000 in
set_option maxHeartbeats 3200000 in
theorem validBoxes_any (A : Option Addr) (n c : Nat) (R : Nat → Bx) (w : World) (hA : Bxl w A n R) (hR : ∀ j, j < n → BxOk w (R j)) (hn : n ≤ maxLen) :
    Calls Try.prog 18 #[.slice A n c] w fun e w' => e = .returned (.bool (vbsB R n)) ∧ Bl w w' := by
  have HA := Lib.hid hA
  have HR := Lib.hid hR
  clear hA hR
  unfold maxLen at hn
  have hmm := @run_makeMap Try.prog
  by_cases h1 : n < 1
  · obtain rfl : n = 0 := by omega
    have H2 := Lib.hid (show vbsB R 0 = false by simp [vbsB])
    go_enter Try.func18, Try.ntmps18
    go_wp2_with fail
    go_ret
    exact ⟨ret_bool H2.out.symm, Bl.rf _⟩
  by_cases h2 : 16 < n
  · have H2 := Lib.hid (show vbsB R n = false by simp [vbsB]; omega)
    go_enter Try.func18, Try.ntmps18
    go_wp2_with fail
    go_ret
    exact ⟨ret_bool H2.out.symm, Bl.rf _⟩
  have HL := Lib.hid (show 1 ≤ n ∧ n ≤ 16 by omega)
  go_enter Try.func18, Try.ntmps18
  go_wp2_with fail
  go_loopw [17] (fun i wr => ∃ k : Nat, k ≤ n ∧ i = .int .i64 k ∧ Hid (sevB R k = true) ∧ Hid (wr.ownsMap Try.prog 9 (plainElem Try.prog 4) w.heap.size k (seenD R k)) ∧ Bl w wr ∧ w.heap.size < wr.heap.size) (fun i _ => n - (RowKit.intOf i).toNat)
  case atStart => exact ⟨0, Nat.zero_le _, rfl, rfl, World.ownsMap_made _ _ _ _, by go_grown, by simp⟩
  case round =>
    obtain ⟨k, hk, rfl, HO, HM, hB, hlB⟩ := hrel
    have zB := hB.size
    by_cases hlt : k < n
    · obtain ⟨b, off, rfl, hbb, hc⟩ := (HA.out.below hB) (by omega)
      obtain ⟨c0, c1⟩ := hc k hlt
      clear hc
      have HXk := Lib.hid ((HR.out k hlt).below hB)
      obtain ⟨m1, m2, m3, _⟩ := HXk.out
      obtain ⟨x, hx⟩ : ∃ x, x = R k := ⟨_, rfl⟩
      have HX := Lib.hid hx
      rw [← hx] at c0 c1 m1 m2 m3 HXk
      clear hx
      obtain ⟨s, B, m, d, E⟩ := x
      dsimp only at c0 c1 m1 m2 m3
      have HS := Lib.hid m1
      have HMN := Lib.hid (Nat.le_trans m2 m3)
      unfold maxLen at m3
      have HB := Lib.hid hB
      go_wp2_with fail
      refine (validBox_any s B m d E _ HS.out HMN.out (HXk.out.sl.below (by go_grown))).mono ?_
      rintro q1 w1 ⟨rfl, hb⟩
      have x0 := kcb hb (b := wr.heap.size) (o := 0) (v := .string s) (by go_cell)
      have x1 := kcb hb (b := wr.heap.size) (o := 1) (v := .slice B m d) (by go_cell)
      have BW : Bl wr w1 := Below.trans (by go_grown) (hb.mono (by (try simp only [World.size_alloc]); omega))
      have l1 := ltb x0
      have z1 := BW.size
      have HM1 := Lib.hid (HM.out.kept (w' := w1) (row := none) ⟨BW.os, BW.tape, BW.output, BW.size, fun i hi _ => BW.block i hi⟩ (by simp))
      clear hb
      cases hv : vbB s m E with
      | false =>
        have H2 := Lib.hid (vbs_no (R := R) (k := k) hlt (.inl (by rw [← HX.out]; exact hv)))
        go_wp2_with fail
        go_ret
        exact ⟨ret_bool H2.out.symm, hB.tr BW⟩
      | true =>
        have HK := Lib.hid (show keyOf Try.prog 9 (.string s) = some (.string s.data.toList) from Go.WideMaps.keyOf_string_mk Try.underlying9 HS.out)
        have HSE := Lib.hid (seen_at R s k)
        cases ho : occ R s k with
        | true =>
          have H2 := Lib.hid (vbs_no (R := R) (k := k) hlt (.inr (by rw [← HX.out]; exact ho)))
          rw [ho] at HSE
          clear hv ho
          go_wp2_with (first | (at_lookup; refine wpList_lookup_bool_gd (by rfl) _ _ 70 rfl 9 4 (string_keyed Try.underlying9) Try.underlying70 Try.underlying4 (bool_zero _) w.heap.size k _ rfl HM1.out _ _ rfl HK.out true HSE.out ?_))
          go_ret
          exact ⟨ret_bool H2.out.symm, hB.tr BW⟩
        | false =>
          have HS' := Lib.hid (show sevB R (k + 1) = true by rw [sevB, HO.out, ← HX.out]; simp [vbx, hv, ho])
          have HSD := Lib.hid (show seenD R (k + 1) = (seenD R k).put (.string s.data.toList) (.lit (.bool true)) by rw [seenD, ← HX.out])
          rw [ho] at HSE
          clear hv ho
          go_wp2_with (first | (at_lookup; refine wpList_lookup_bool_gd (by rfl) _ _ 70 rfl 9 4 (string_keyed Try.underlying9) Try.underlying70 Try.underlying4 (bool_zero _) w.heap.size k _ rfl HM1.out _ _ rfl HK.out false HSE.out ?_) | (at_mapUpdate; refine wpList_mapUpdate_own _ rfl _ _ _ 70 rfl 9 4 (string_keyed Try.underlying9) Try.underlying70 _ w.heap.size k _ rfl HM1.out (by unfold maxLen; omega) _ _ _ rfl rfl HK.out _ [] (plainElem_bool Try.underlying4 true) ?_; intro w2 hown2 hgrow2))
          have B2 : Bl w w2 := Below.grown (hB.tr BW) hgrow2 (by omega) (fun j hj => by cases hj; exact Nat.le_refl _)
          have HM2 := Lib.hid (show w2.ownsMap Try.prog 9 (plainElem Try.prog 4) w.heap.size (k + 1) (seenD R (k + 1)) by rw [HSD.out]; exact hown2)
          have z2 := hgrow2.size
          clear hown2 hgrow2
          go_roundw
          case rel => exact ⟨k + 1, by omega, by go_num, HS'.out, HM2.out, B2, by omega⟩
          case measure => simp [RowKit.intOf]; omega
    · obtain rfl : k = n := by omega
      have H2 := Lib.hid (show vbsB R k = true from vbs_iff.2 ⟨HL.out.1, HL.out.2, HO.out⟩)
      go_wp2_with fail
      go_ret
      exact ⟨ret_bool H2.out.symm, hB⟩

set_option maxRecDepth 100000 in
set_option maxHeartbeats 3200000 in
theorem several_any (A : Option Addr) (n c : Nat) (R : Nat → Bx) (w : World) (hA : Bxl w A n R) (hR : ∀ j, j < n → BxOk w (R j)) (hn : n ≤ c) (hc : c ≤ maxLen) :
    Calls Try.prog 45 #[.slice A n c] w fun e w' => e = .returned (.bool (sevB R n && decide (n ≤ 16))) ∧ Bl w w' := by
  have HA := Lib.hid hA
  have HR := Lib.hid hR
  clear hA hR
  unfold maxLen at hc
  go_enter Try.func45, Try.ntmps45
  go_wp2_with fail
  go_loopw [9] (fun i wr => ∃ k : Nat, k ≤ n ∧ i = .int .i64 k ∧ Hid (sevB R k = true) ∧ Bl w wr) (fun i _ => n - (RowKit.intOf i).toNat)
  case atStart => exact ⟨0, Nat.zero_le _, rfl, rfl, Bl.rf _⟩
  case round =>
    obtain ⟨k, hk, rfl, HO, hB⟩ := hrel
    have zB := hB.size
    by_cases hlt : k < n
    · obtain ⟨b, off, rfl, hbb, hcc⟩ := (HA.out.below hB) (by omega)
      obtain ⟨c0, c1⟩ := hcc k hlt
      clear hcc
      have HXk := Lib.hid ((HR.out k hlt).below hB)
      obtain ⟨m1, m2, m3, _⟩ := HXk.out
      obtain ⟨x, hx⟩ : ∃ x, x = R k := ⟨_, rfl⟩
      have HX := Lib.hid hx
      rw [← hx] at c0 c1 m1 m2 m3 HXk
      clear hx
      obtain ⟨s, B, m, d, E⟩ := x
      dsimp only at c0 c1 m1 m2 m3
      have HS := Lib.hid m1
      have HMN := Lib.hid (Nat.le_trans m2 m3)
      unfold maxLen at m3
      go_wp2_with fail
      refine (rvalidBox_any s B m d E _ HS.out HMN.out (HXk.out.sl.below (by go_grown))).mono ?_
      rintro q1 w1 ⟨rfl, hb⟩
      have x0 := kcb hb (b := wr.heap.size) (o := 0) (v := .string s) (by go_cell)
      have BW : Bl wr w1 := Below.trans (by go_grown) (hb.mono (by (try simp only [World.size_alloc]); omega))
      have l1 := ltb x0
      have z1 := BW.size
      clear hb
      cases hv : vbB s m E with
      | false =>
        have H2 := Lib.hid (show (sevB R n && decide (n ≤ 16)) = false by rw [sev_no (R := R) (k := k) hlt (.inl (by rw [← HX.out]; exact hv))]; rfl)
        go_wp2_with fail
        go_ret
        exact ⟨ret_bool H2.out.symm, hB.tr BW⟩
      | true =>
        have HV := Lib.hid hv
        clear hv
        have B1 := hB.tr BW
        have HC := Lib.hid (HA.out.below B1)
        have lk := Lib.hid hlt
        go_wp2_with fail
        obtain ⟨Wo, hWo⟩ : ∃ Wo, Wo = w1 := ⟨_, rfl⟩
        subst hWo
        go_loopw [21] (fun i wz => ∃ j : Nat, j ≤ k ∧ i = .int .i64 j ∧ Hid (occ R s j = false) ∧ Bl Wo wz) (fun i _ => k - (RowKit.intOf i).toNat)
        case atStart => exact ⟨0, Nat.zero_le _, rfl, rfl, Bl.rf _⟩
        case round =>
          obtain ⟨j, hj, rfl, HJ, hZ⟩ := hrel
          have zZ := hZ.size
          by_cases hjk : j < k
          · obtain ⟨b', off', eA, hbb', hcc'⟩ := (HC.out.below hZ) (by omega)
            obtain ⟨rfl, rfl⟩ : b = b' ∧ off = off' := by cases eA; exact ⟨rfl, rfl⟩
            clear eA
            obtain ⟨d0, d1⟩ := hcc' j (by omega)
            clear hcc'
            obtain ⟨y, hy⟩ : ∃ y, y = R j := ⟨_, rfl⟩
            have HY := Lib.hid hy
            rw [← hy] at d0 d1
            clear hy
            obtain ⟨t, B', m', d', E'⟩ := y
            dsimp only at d0 d1
            have x0 := kcb hZ x0
            have lx := ltb x0
            by_cases est : s = t
            · have H2 := Lib.hid (show (sevB R n && decide (n ≤ 16)) = false by rw [sev_no (R := R) (k := k) lk.out (.inr (by rw [← HX.out]; exact occ_at (j := j) hjk (by rw [← HY.out]; exact est.symm)))]; rfl)
              go_wp2_with fail
              go_ret
              exact ⟨ret_bool H2.out.symm, B1.tr (hZ.tr (by go_grown))⟩
            · have H2 := Lib.hid (show occ R s (j + 1) = false by rw [occ, HJ.out, ← HY.out]; simp; exact fun h => est h.symm)
              have hE : (s.toList == t.toList) = false := by rw [beq_eq_false_iff_ne, ByteArray.toList_eq, ByteArray.toList_eq]; exact fun h => key_ne est (congrArg Lit.string h)
              go_wp2_with fail
              go_roundw
              case rel => exact ⟨j + 1, by omega, by go_num, H2.out, hZ.tr (by go_grown)⟩
              case measure => simp [RowKit.intOf]; omega
          · obtain rfl : j = k := by omega
            have H2 := Lib.hid (show sevB R (j + 1) = true by rw [sevB, HO.out, ← HX.out]; simp [vbx, HV.out, HJ.out])
            go_wp2_with fail
            go_roundw
            case rel => exact ⟨j + 1, by omega, by go_num, H2.out, B1.tr hZ⟩
            case measure => simp [RowKit.intOf]; omega
    · obtain rfl : k = n := by omega
      have H2 := Lib.hid (show (sevB R k && decide (k ≤ 16)) = decide ((k : Int) ≤ 16) by rw [HO.out]; simp; omega)
      go_wp2_with fail
      go_ret
      exact ⟨ret_bool H2.out.symm, hB⟩
set_option maxRecDepth 100000 in
set_option maxHeartbeats 1600000 in
theorem rvalidBoxes_any (A : Option Addr) (n c : Nat) (R : Nat → Bx) (w : World) (hA : Bxl w A n R) (hR : ∀ j, j < n → BxOk w (R j)) (hn : n ≤ c) (hc : c ≤ maxLen) :
    Calls Try.prog 19 #[.slice A n c] w fun e w' => e = .returned (.bool (vbsB R n)) ∧ Bl w w' := by
  have HA := Lib.hid hA
  have HR := Lib.hid hR
  have HC := Lib.hid (And.intro hn hc)
  clear hA hR
  unfold maxLen at hc
  by_cases h1 : n < 1
  · obtain rfl : n = 0 := by omega
    have H2 := Lib.hid (show vbsB R 0 = false by simp [vbsB])
    go_enter Try.func19, Try.ntmps19
    go_wp2_with fail
    go_ret
    exact ⟨ret_bool H2.out.symm, Bl.rf _⟩
  · have H2 := Lib.hid (show (sevB R n && decide (n ≤ 16)) = vbsB R n by unfold vbsB; rw [decide_eq_true (show 1 ≤ n by omega), Bool.true_and, Bool.and_comm])
    have h1' : (1 : Int) ≤ (n : Int) := by omega
    go_enter Try.func19, Try.ntmps19
    go_wp2_with fail
    refine (several_any A n c R _ HA.out HR.out HC.out.1 HC.out.2).mono ?_
    rintro q1 w1 ⟨rfl, hb⟩
    rw [H2.out]
    go_wp2_with fail
    go_ret
    exact ⟨rfl, hb⟩
end Go.Proofs.Ytbhdoafcjfcgfaa
