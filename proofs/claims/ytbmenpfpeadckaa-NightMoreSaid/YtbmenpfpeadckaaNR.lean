/-
  Contracts of package night and of its reference: Clashes; pairs compared.
-/
import Derived.Test.YtbmenpfpeadckaaNQ
import Derived.ChangeKeysEq
namespace Go.Proofs.Ytbmenpfpeadckaa
open Go.RowKit
set_option linter.unusedSimpArgs false
set_option linter.unusedVariables false

set_option maxRecDepth 100000 in
set_option maxHeartbeats 3200000 in
theorem rfollows8_any (a b : Ch) (per : Int) (w : World) (ha : vcB a = true) (hb : vcB b = true) (hp : 0 ≤ per ∧ per ≤ 10000) :
    Calls Try.prog 82 #[encC a, encC b, .int .i64 per] w fun e w' => e = .returned (.bool (flw a b per)) ∧ Bl w w' := by
  obtain ⟨_, f1, f2, f3, f4, f5, _, _⟩ := vc_iff.1 ha
  obtain ⟨_, g1, g2, g3, g4, g5, _, _⟩ := vc_iff.1 hb
  have ht := trn_bd (per := per) ⟨f4, f5⟩ ⟨g4, g5⟩ hp
  have HCT := Lib.hid (fun (X : World) => rturnN_any a b per X ⟨f4, f5⟩ ⟨g4, g5⟩ hp)
  have HR := Lib.hid (show flw a b per = decide (a.to + trn a b per ≤ b.fr) from rfl)
  obtain ⟨T, hT⟩ : ∃ T, trn a b per = T := ⟨_, rfl⟩
  rw [hT] at HR ht
  have HT := Lib.hid hT
  obtain ⟨t1, t2⟩ := ht
  have h1 : 0 < a.to := by omega
  have h2 : a.to ≤ 86400000 := f3
  have w1 : IntKind.i64.wrap (a.to + T) = a.to + T := IntWalk.i64_in _ (by omega)
  have w2 : wrap64 (a.to + T) = a.to + T := IntWalk.wrap64_in _ (by omega)
  clear ha hb hT f4 f5 g4 g5
  go_enter Try.func82, Try.ntmps82
  go_wp2_with fail
  have S0 : SF w a b ((w.alloc (.cells #[.string a.nm, .int .i64 a.fr, .int .i64 a.to, .int .i64 a.tl, .int .i64 a.wo] 56)).alloc (.cells #[.string b.nm, .int .i64 b.fr, .int .i64 b.to, .int .i64 b.tl, .int .i64 b.wo] 56)) :=
    ⟨by go_grown, by go_cell, by go_cell, by go_cell, by go_cell, by go_cell, by go_cell, by go_cell, by go_cell, by go_cell, by go_cell, by simp⟩
  go_region_held3 (fun W' => Bl w W' ∧ W'.cell? ⟨w.heap.size, 0, none⟩ = some (.string a.nm) ∧ W'.cell? ⟨w.heap.size, 1, none⟩ = some (.int .i64 a.fr) ∧ W'.cell? ⟨w.heap.size, 2, none⟩ = some (.int .i64 a.to) ∧ W'.cell? ⟨w.heap.size, 3, none⟩ = some (.int .i64 a.tl) ∧ W'.cell? ⟨w.heap.size, 4, none⟩ = some (.int .i64 a.wo) ∧ W'.cell? ⟨w.heap.size + 1, 0, none⟩ = some (.string b.nm) ∧ W'.cell? ⟨w.heap.size + 1, 1, none⟩ = some (.int .i64 b.fr) ∧ W'.cell? ⟨w.heap.size + 1, 2, none⟩ = some (.int .i64 b.to) ∧ W'.cell? ⟨w.heap.size + 1, 3, none⟩ = some (.int .i64 b.tl) ∧ W'.cell? ⟨w.heap.size + 1, 4, none⟩ = some (.int .i64 b.wo) ∧ w.heap.size + 1 < W'.heap.size) (first | exact SF.t S0 (bl_drN _) | exact SF.t (by assumption) hh0) (first | (go_at_call 106; refine (HCT.out _).mono ?_; rintro e v0 ⟨rfl, hh0⟩; rw [HT.out]))
  all_goals
    rename_i hHeld
    have hHB := hHeld.1
    clear hHeld
    go_wp2_with fail
    go_ret
    exact ⟨ret_boolN HR.out.symm, hHB⟩
set_option maxRecDepth 100000 in
set_option maxHeartbeats 1600000 in
theorem asked8_any (A : Option Addr) (n c : Nat) (L : Nat → Ch) (B : Option Addr) (m d : Nat) (S : Nat → Sp2) (per : Int) (w : World) (hA : Chl w A n L) (hS : ∀ j, j < n → (L j).nm.size ≤ maxLen) (hn : n ≤ c) (hc : c ≤ maxLen) (hB : Spl w B m S) (hm : m ≤ maxLen) :
    Calls Try.prog 38 #[.slice A n c, .slice B m d, .int .i64 per] w fun e w' => e = .returned (.int .i64 (chkN L n S m per)) ∧ Bl w w' := by
  have HV := Lib.hid (fun (X : World) (hb : Bl w X) => rvalid8_any A n c L X (hA.below hb) hS hn hc)
  have HC := Lib.hid (fun (X : World) (hb : Bl w X) => validClouds_any B m d S X (hB.below hb) hm)
  clear hA hB hS
  cases hv : vdB L n with
  | false =>
    have H1 := Lib.hid hv
    have HR := Lib.hid (show chkN L n S m per = 1 by simp [chkN, hv])
    clear hv
    go_enter Try.func38, Try.ntmps38
    go_wp2_with fail
    refine (HV.out _ (by first | exact Bl.rf _ | go_grown)).mono ?_
    rintro e1 w1 ⟨rfl, hb⟩
    rw [H1.out]
    go_wp2_with fail
    go_ret
    exact ⟨ret_intN HR.out.symm, hb⟩
  | true =>
    have H1 := Lib.hid hv
    cases hk : cldB S m with
    | false =>
      have H2 := Lib.hid hk
      have HR := Lib.hid (show chkN L n S m per = 1 by simp [chkN, hk])
      clear hv hk
      go_enter Try.func38, Try.ntmps38
      go_wp2_with fail
      refine (HV.out _ (by first | exact Bl.rf _ | go_grown)).mono ?_
      rintro e1 w1 ⟨rfl, hb⟩
      rw [H1.out]
      go_wp2_with fail
      refine (HC.out _ hb).mono ?_
      rintro e2 w2 ⟨rfl, hb2⟩
      rw [H2.out]
      go_wp2_with fail
      go_ret
      exact ⟨ret_intN HR.out.symm, hb.tr hb2⟩
    | true =>
      have H2 := Lib.hid hk
      cases hp : inB per 0 10000 with
      | false =>
        have H3 := Lib.hid hp
        have HR := Lib.hid (show chkN L n S m per = 7 by simp [chkN, hv, hk, hp])
        clear hv hk hp
        go_enter Try.func38, Try.ntmps38
        go_wp2_with fail
        refine (HV.out _ (by first | exact Bl.rf _ | go_grown)).mono ?_
        rintro e1 w1 ⟨rfl, hb⟩
        rw [H1.out]
        go_wp2_with fail
        refine (HC.out _ hb).mono ?_
        rintro e2 w2 ⟨rfl, hb2⟩
        rw [H2.out]
        go_wp2_with fail
        refine (turned8_any per _).mono ?_
        rintro e3 w3 ⟨rfl, rfl⟩
        rw [H3.out]
        go_wp2_with fail
        go_ret
        exact ⟨ret_intN HR.out.symm, hb.tr hb2⟩
      | true =>
        have H3 := Lib.hid hp
        have HR := Lib.hid (show chkN L n S m per = 0 by simp [chkN, hv, hk, hp])
        clear hv hk hp
        go_enter Try.func38, Try.ntmps38
        go_wp2_with fail
        refine (HV.out _ (by first | exact Bl.rf _ | go_grown)).mono ?_
        rintro e1 w1 ⟨rfl, hb⟩
        rw [H1.out]
        go_wp2_with fail
        refine (HC.out _ hb).mono ?_
        rintro e2 w2 ⟨rfl, hb2⟩
        rw [H2.out]
        go_wp2_with fail
        refine (turned8_any per _).mono ?_
        rintro e3 w3 ⟨rfl, rfl⟩
        rw [H3.out]
        go_wp2_with fail
        go_ret
        exact ⟨ret_intN HR.out.symm, hb.tr hb2⟩
def prC : List (Int × Int) → List Value
  | [] => []
  | p :: r => .int .i64 p.1 :: .int .i64 p.2 :: prC r
theorem prC_len (l : List (Int × Int)) : (prC l).length = l.length * 2 := by
  induction l with
  | nil => rfl
  | cons p r ih => simp only [prC, List.length_cons, ih]; omega
theorem prC_snoc (l : List (Int × Int)) (p : Int × Int) : prC (l ++ [p]) = prC l ++ [.int .i64 p.1, .int .i64 p.2] := by
  induction l with
  | nil => rfl
  | cons q r ih => simp only [List.cons_append, prC, ih]
theorem prC_at (l : List (Int × Int)) {j : Nat} (hj : j < l.length) : (prC l)[j * 2]? = some (.int .i64 (l.getD j (0, 0)).1) ∧ (prC l)[j * 2 + 1]? = some (.int .i64 (l.getD j (0, 0)).2) := by
  induction l generalizing j with
  | nil => simp at hj
  | cons p r ih =>
    cases j with
    | zero => exact ⟨rfl, rfl⟩
    | succ j =>
      have h := ih (j := j) (by simpa using hj)
      rw [show (j + 1) * 2 = j * 2 + 1 + 1 by omega]
      exact h
/-- A slice value reads as a list of pairs. -/
def IsP (w : World) (v : Value) (l : List (Int × Int)) : Prop :=
  ∃ A c, v = .slice A l.length c ∧ (0 < l.length → ∃ b off, A = some ⟨b, off, none⟩ ∧ b < w.heap.size ∧ ∀ j, j < l.length → w.cell? ⟨b, off + j * 2, none⟩ = some (.int .i64 (l.getD j (0, 0)).1) ∧ w.cell? ⟨b, off + j * 2 + 1, none⟩ = some (.int .i64 (l.getD j (0, 0)).2))
theorem IsP.below {w w' : World} {v : Value} {l : List (Int × Int)} (h : IsP w v l) (hb : Bl w w') : IsP w' v l := by
  obtain ⟨A, c, h0, h1⟩ := h
  refine ⟨A, c, h0, fun hn => ?_⟩
  obtain ⟨b, off, e, hl, hc⟩ := h1 hn
  exact ⟨b, off, e, Nat.lt_of_lt_of_le hl hb.size, fun j hj => ⟨kcb hb (hc j hj).1, kcb hb (hc j hj).2⟩⟩
theorem isP_of_own {w : World} {base : Nat} {e : TypeId} {v : Value} {n : Nat} {l : List (Int × Int)} (hn : n = l.length) (h : w.ownsRow base e 2 v n (prC l)) : IsP w v l := by
  subst hn
  rcases h.2 with ⟨rfl, h0⟩ | ⟨g, cap, cur, rfl, hb, hg, hnc, hcm, hcs, htake⟩
  · exact ⟨none, 0, by rw [h0], fun hn => by omega⟩
  · refine ⟨some ⟨g, 0, none⟩, cap, rfl, fun hn => ⟨g, 0, rfl, (Array.getElem?_eq_some_iff.1 hg).1, fun j hj => ?_⟩⟩
    obtain ⟨p0, p1⟩ := prC_at l hj
    exact ⟨by rw [Nat.zero_add, h.cellAt (j * 2) (by omega), p0], by rw [Nat.zero_add, h.cellAt (j * 2 + 1) (by omega), p1]⟩
theorem isP_nil (w : World) : IsP w (.slice none 0 0) [] := ⟨none, 0, rfl, fun h => absurd h (by simp)⟩
/-- The later chances that do not follow one. -/
def inF (L : Nat → Ch) (per : Int) (i : Nat) (acc : List (Int × Int)) : Nat → List (Int × Int)
  | 0 => acc
  | s + 1 => if flw (L i) (L (i + 1 + s)) per = true then inF L per i acc s else inF L per i acc s ++ [((i : Int), ((i + 1 + s : Nat) : Int))]
def outF (L : Nat → Ch) (per : Int) (n : Nat) : Nat → List (Int × Int)
  | 0 => []
  | i + 1 => inF L per i (outF L per n i) (n - (i + 1))
theorem inF_len (L : Nat → Ch) (per : Int) (i : Nat) (acc : List (Int × Int)) (s : Nat) : (inF L per i acc s).length ≤ acc.length + s := by
  induction s with
  | zero => exact Nat.le_refl _
  | succ s ih =>
    unfold inF
    split
    · omega
    · simp; omega
theorem outF_len (L : Nat → Ch) (per : Int) {n : Nat} (hn : n ≤ 20) (i : Nat) : (outF L per n i).length ≤ 20 * i := by
  induction i with
  | zero => exact Nat.le_refl _
  | succ i ih =>
    have := inF_len L per i (outF L per n i) (n - (i + 1))
    rw [outF]
    omega
/-- What Clashes returns. -/
def ClsPost (L : Nat → Ch) (n : Nat) (per : Int) (w : World) (e : Ending) (w' : World) : Prop :=
  Bl w w' ∧ ((chkN L n (fun _ => ⟨0, 0⟩) 0 per ≠ 0 ∧ e = .returned (.tuple #[.slice none 0 0, .int .i64 (chkN L n (fun _ => ⟨0, 0⟩) 0 per)])) ∨ (chkN L n (fun _ => ⟨0, 0⟩) 0 per = 0 ∧ ∃ v, e = .returned (.tuple #[v, .int .i64 0]) ∧ IsP w' v (outF L per n n)))
def SK (w : World) (bx b o : Nat) (x y : Ch) (W' : World) : Prop := Bl w W' ∧ W'.cell? ⟨bx, 0, none⟩ = some (.string x.nm) ∧ W'.cell? ⟨bx, 1, none⟩ = some (.int .i64 x.fr) ∧ W'.cell? ⟨bx, 2, none⟩ = some (.int .i64 x.to) ∧ W'.cell? ⟨bx, 3, none⟩ = some (.int .i64 x.tl) ∧ W'.cell? ⟨bx, 4, none⟩ = some (.int .i64 x.wo) ∧ W'.cell? ⟨b, o, none⟩ = some (.string y.nm) ∧ W'.cell? ⟨b, o + 1, none⟩ = some (.int .i64 y.fr) ∧ W'.cell? ⟨b, o + 2, none⟩ = some (.int .i64 y.to) ∧ W'.cell? ⟨b, o + 3, none⟩ = some (.int .i64 y.tl) ∧ W'.cell? ⟨b, o + 4, none⟩ = some (.int .i64 y.wo) ∧ bx < W'.heap.size ∧ b < W'.heap.size
theorem SK.t {w : World} {bx b o : Nat} {x y : Ch} {W W' : World} (h : SK w bx b o x y W) (hb : Bl W W') : SK w bx b o x y W' := by
  obtain ⟨h0, a0, a1, a2, a3, a4, b0, b1, b2, b3, b4, l, l2⟩ := h
  exact ⟨h0.tr hb, kcb hb a0, kcb hb a1, kcb hb a2, kcb hb a3, kcb hb a4, kcb hb b0, kcb hb b1, kcb hb b2, kcb hb b3, kcb hb b4, Nat.lt_of_lt_of_le l hb.size, Nat.lt_of_lt_of_le l2 hb.size⟩
def XB (W : World) (bx : Nat) (x : Ch) : Prop := W.cell? ⟨bx, 0, none⟩ = some (.string x.nm) ∧ W.cell? ⟨bx, 1, none⟩ = some (.int .i64 x.fr) ∧ W.cell? ⟨bx, 2, none⟩ = some (.int .i64 x.to) ∧ W.cell? ⟨bx, 3, none⟩ = some (.int .i64 x.tl) ∧ W.cell? ⟨bx, 4, none⟩ = some (.int .i64 x.wo)
theorem XB.below {W W' : World} {bx : Nat} {x : Ch} (h : XB W bx x) (hb : Bl W W') : XB W' bx x := ⟨kcb hb h.1, kcb hb h.2.1, kcb hb h.2.2.1, kcb hb h.2.2.2.1, kcb hb h.2.2.2.2⟩
theorem XB.far {W W' : World} {bx : Nat} {x : Ch} {row : Option Nat} (h : XB W bx x) (hg : W.grownBy W' row) (hne : some bx ≠ row) : XB W' bx x := by
  have l := ltb h.1
  exact ⟨(hg.cell_far ⟨bx, 0, none⟩ l hne).trans h.1, (hg.cell_far ⟨bx, 1, none⟩ l hne).trans h.2.1, (hg.cell_far ⟨bx, 2, none⟩ l hne).trans h.2.2.1, (hg.cell_far ⟨bx, 3, none⟩ l hne).trans h.2.2.2.1, (hg.cell_far ⟨bx, 4, none⟩ l hne).trans h.2.2.2.2⟩
theorem chk_okR {L : Nat → Ch} {n : Nat} {S : Nat → Sp2} {m : Nat} {per : Int} (h : chkN L n S m per = 0) : vdB L n = true ∧ cldB S m = true ∧ 0 ≤ per ∧ per ≤ 10000 := by
  unfold chkN at h
  split at h
  · rename_i h1
    split at h
    · rename_i h2
      simp only [Bool.and_eq_true] at h1
      exact ⟨h1.1, h1.2, (inB_iff.1 h2).1, (inB_iff.1 h2).2⟩
    · omega
  · omega