/-
  Contracts of package night and of its reference: Clashes; pairs compared.
-/
import Derived.Test.YtbieonibngbhjaaNQ
import Derived.ChangeKeysEq
namespace Go.Proofs.Ytbieonibngbhjaa
open Go.RowKit
set_option linter.unusedSimpArgs false
set_option linter.unusedVariables false

set_option maxRecDepth 100000 in
set_option maxHeartbeats 3200000 in
theorem rfollows8_any (a b : Ch) (per : Int) (w : World) (ha : vcB a = true) (hb : vcB b = true) (hp : 0 ≤ per ∧ per ≤ 10000) :
    Calls Try.prog 33 #[encC a, encC b, .int .i64 per] w fun e w' => e = .returned (.bool (flw a b per)) ∧ Bl w w' := by
  obtain ⟨_, f1, f2, f3, f4, f5, _, _⟩ := vc_iff.1 ha
  obtain ⟨_, g1, g2, g3, g4, g5, _, _⟩ := vc_iff.1 hb
  have ht := trn_bd (per := per) ⟨f4, f5⟩ ⟨g4, g5⟩ hp
  have HCT := Lib.hid (fun (X : World) => rturnN_any a b per X ⟨f4, f5⟩ ⟨g4, g5⟩ hp)
  have HR := Lib.hid (show flw a b per = decide (a.to + trn a b per ≤ b.fr) from rfl)
  obtain ⟨T, hT⟩ : ∃ T, trn a b per = T := ⟨_, rfl⟩
  rw [hT] at HR ht
  have HT := Lib.hid hT
  obtain ⟨t1, t2⟩ := ht
  have h1 : 0 < a.to := by omega
  have h2 : a.to ≤ 86400000 := f3
  have w1 : IntKind.i64.wrap (a.to + T) = a.to + T := IntWalk.i64_in _ (by omega)
  have w2 : wrap64 (a.to + T) = a.to + T := IntWalk.wrap64_in _ (by omega)
  clear ha hb hT f4 f5 g4 g5
  go_enter Try.func33, Try.ntmps33
  go_wp2_with fail
  have S0 : SF w a b ((w.alloc (.cells #[.string a.nm, .int .i64 a.fr, .int .i64 a.to, .int .i64 a.tl, .int .i64 a.wo] 25)).alloc (.cells #[.string b.nm, .int .i64 b.fr, .int .i64 b.to, .int .i64 b.tl, .int .i64 b.wo] 25)) :=
    ⟨by go_grown, by go_cell, by go_cell, by go_cell, by go_cell, by go_cell, by go_cell, by go_cell, by go_cell, by go_cell, by go_cell, by simp⟩
  go_region_held3 (fun W' => Bl w W' ∧ W'.cell? ⟨w.heap.size, 0, none⟩ = some (.string a.nm) ∧ W'.cell? ⟨w.heap.size, 1, none⟩ = some (.int .i64 a.fr) ∧ W'.cell? ⟨w.heap.size, 2, none⟩ = some (.int .i64 a.to) ∧ W'.cell? ⟨w.heap.size, 3, none⟩ = some (.int .i64 a.tl) ∧ W'.cell? ⟨w.heap.size, 4, none⟩ = some (.int .i64 a.wo) ∧ W'.cell? ⟨w.heap.size + 1, 0, none⟩ = some (.string b.nm) ∧ W'.cell? ⟨w.heap.size + 1, 1, none⟩ = some (.int .i64 b.fr) ∧ W'.cell? ⟨w.heap.size + 1, 2, none⟩ = some (.int .i64 b.to) ∧ W'.cell? ⟨w.heap.size + 1, 3, none⟩ = some (.int .i64 b.tl) ∧ W'.cell? ⟨w.heap.size + 1, 4, none⟩ = some (.int .i64 b.wo) ∧ w.heap.size + 1 < W'.heap.size) (first | exact SF.t S0 (bl_drN _) | exact SF.t (by assumption) hh0) (first | (go_at_call 39; refine (HCT.out _).mono ?_; rintro e v0 ⟨rfl, hh0⟩; rw [HT.out]))
  all_goals
    rename_i hHeld
    have hHB := hHeld.1
    clear hHeld
    go_wp2_with fail
    go_ret
    exact ⟨ret_boolN HR.out.symm, hHB⟩
set_option maxRecDepth 100000 in
set_option maxHeartbeats 1600000 in
theorem asked8_any (A : Option Addr) (n c : Nat) (L : Nat → Ch) (B : Option Addr) (m d : Nat) (S : Nat → Sp2) (per : Int) (w : World) (hA : Chl w A n L) (hS : ∀ j, j < n → (L j).nm.size ≤ maxLen) (hn : n ≤ c) (hc : c ≤ maxLen) (hB : Spl w B m S) (hm : m ≤ maxLen) :
    Calls Try.prog 32 #[.slice A n c, .slice B m d, .int .i64 per] w fun e w' => e = .returned (.int .i64 (chkN L n S m per)) ∧ Bl w w' := by
  have HV := Lib.hid (fun (X : World) (hb : Bl w X) => rvalid8_any A n c L X (hA.below hb) hS hn hc)
  have HC := Lib.hid (fun (X : World) (hb : Bl w X) => validClouds_any B m d S X (hB.below hb) hm)
  clear hA hB hS
  cases hv : vdB L n with
  | false =>
    have H1 := Lib.hid hv
    have HR := Lib.hid (show chkN L n S m per = 1 by simp [chkN, hv])
    clear hv
    go_enter Try.func32, Try.ntmps32
    go_wp2_with fail
    refine (HV.out _ (by first | exact Bl.rf _ | go_grown)).mono ?_
    rintro e1 w1 ⟨rfl, hb⟩
    rw [H1.out]
    go_wp2_with fail
    go_ret
    exact ⟨ret_intN HR.out.symm, hb⟩
  | true =>
    have H1 := Lib.hid hv
    cases hk : cldB S m with
    | false =>
      have H2 := Lib.hid hk
      have HR := Lib.hid (show chkN L n S m per = 1 by simp [chkN, hk])
      clear hv hk
      go_enter Try.func32, Try.ntmps32
      go_wp2_with fail
      refine (HV.out _ (by first | exact Bl.rf _ | go_grown)).mono ?_
      rintro e1 w1 ⟨rfl, hb⟩
      rw [H1.out]
      go_wp2_with fail
      refine (HC.out _ hb).mono ?_
      rintro e2 w2 ⟨rfl, hb2⟩
      rw [H2.out]
      go_wp2_with fail
      go_ret
      exact ⟨ret_intN HR.out.symm, hb.tr hb2⟩
    | true =>
      have H2 := Lib.hid hk
      cases hp : inB per 0 10000 with
      | false =>
        have H3 := Lib.hid hp
        have HR := Lib.hid (show chkN L n S m per = 7 by simp [chkN, hv, hk, hp])
        clear hv hk hp
        go_enter Try.func32, Try.ntmps32
        go_wp2_with fail
        refine (HV.out _ (by first | exact Bl.rf _ | go_grown)).mono ?_
        rintro e1 w1 ⟨rfl, hb⟩
        rw [H1.out]
        go_wp2_with fail
        refine (HC.out _ hb).mono ?_
        rintro e2 w2 ⟨rfl, hb2⟩
        rw [H2.out]
        go_wp2_with fail
        refine (turned8_any per _).mono ?_
        rintro e3 w3 ⟨rfl, rfl⟩
        rw [H3.out]
        go_wp2_with fail
        go_ret
        exact ⟨ret_intN HR.out.symm, hb.tr hb2⟩
      | true =>
        have H3 := Lib.hid hp
        have HR := Lib.hid (show chkN L n S m per = 0 by simp [chkN, hv, hk, hp])
        clear hv hk hp
        go_enter Try.func32, Try.ntmps32
        go_wp2_with fail
        refine (HV.out _ (by first | exact Bl.rf _ | go_grown)).mono ?_
        rintro e1 w1 ⟨rfl, hb⟩
        rw [H1.out]
        go_wp2_with fail
        refine (HC.out _ hb).mono ?_
        rintro e2 w2 ⟨rfl, hb2⟩
        rw [H2.out]
        go_wp2_with fail
        refine (turned8_any per _).mono ?_
        rintro e3 w3 ⟨rfl, rfl⟩
        rw [H3.out]
        go_wp2_with fail
        go_ret
        exact ⟨ret_intN HR.out.symm, hb.tr hb2⟩
theorem pair_info : (Try.prog.info? 51).map (fun i => (i.zero, i.size, i.bytes)) = some (some (.agg #[.int .i64 0, .int .i64 0]), 2, 16) := by kernel_rfl
def prC : List (Int × Int) → List Value
  | [] => []
  | p :: r => .int .i64 p.1 :: .int .i64 p.2 :: prC r
theorem prC_len (l : List (Int × Int)) : (prC l).length = l.length * 2 := by
  induction l with
  | nil => rfl
  | cons p r ih => simp only [prC, List.length_cons, ih]; omega
theorem prC_snoc (l : List (Int × Int)) (p : Int × Int) : prC (l ++ [p]) = prC l ++ [.int .i64 p.1, .int .i64 p.2] := by
  induction l with
  | nil => rfl
  | cons q r ih => simp only [List.cons_append, prC, ih]
theorem prC_at (l : List (Int × Int)) {j : Nat} (hj : j < l.length) : (prC l)[j * 2]? = some (.int .i64 (l.getD j (0, 0)).1) ∧ (prC l)[j * 2 + 1]? = some (.int .i64 (l.getD j (0, 0)).2) := by
  induction l generalizing j with
  | nil => simp at hj
  | cons p r ih =>
    cases j with
    | zero => exact ⟨rfl, rfl⟩
    | succ j =>
      have h := ih (j := j) (by simpa using hj)
      rw [show (j + 1) * 2 = j * 2 + 1 + 1 by omega]
      exact h
/-- A slice value reads as a list of pairs. -/
def IsP (w : World) (v : Value) (l : List (Int × Int)) : Prop :=
  ∃ A c, v = .slice A l.length c ∧ (0 < l.length → ∃ b off, A = some ⟨b, off, none⟩ ∧ b < w.heap.size ∧ ∀ j, j < l.length → w.cell? ⟨b, off + j * 2, none⟩ = some (.int .i64 (l.getD j (0, 0)).1) ∧ w.cell? ⟨b, off + j * 2 + 1, none⟩ = some (.int .i64 (l.getD j (0, 0)).2))
theorem IsP.below {w w' : World} {v : Value} {l : List (Int × Int)} (h : IsP w v l) (hb : Bl w w') : IsP w' v l := by
  obtain ⟨A, c, h0, h1⟩ := h
  refine ⟨A, c, h0, fun hn => ?_⟩
  obtain ⟨b, off, e, hl, hc⟩ := h1 hn
  exact ⟨b, off, e, Nat.lt_of_lt_of_le hl hb.size, fun j hj => ⟨kcb hb (hc j hj).1, kcb hb (hc j hj).2⟩⟩
theorem isP_of_own {w : World} {base : Nat} {e : TypeId} {v : Value} {n : Nat} {l : List (Int × Int)} (hn : n = l.length) (h : w.ownsRow base e 2 v n (prC l)) : IsP w v l := by
  subst hn
  rcases h.2 with ⟨rfl, h0⟩ | ⟨g, cap, cur, rfl, hb, hg, hnc, hcm, hcs, htake⟩
  · exact ⟨none, 0, by rw [h0], fun hn => by omega⟩
  · refine ⟨some ⟨g, 0, none⟩, cap, rfl, fun hn => ⟨g, 0, rfl, (Array.getElem?_eq_some_iff.1 hg).1, fun j hj => ?_⟩⟩
    obtain ⟨p0, p1⟩ := prC_at l hj
    exact ⟨by rw [Nat.zero_add, h.cellAt (j * 2) (by omega), p0], by rw [Nat.zero_add, h.cellAt (j * 2 + 1) (by omega), p1]⟩
theorem isP_nil (w : World) : IsP w (.slice none 0 0) [] := ⟨none, 0, rfl, fun h => absurd h (by simp)⟩
theorem eqPair (p q : Int) (w : World) : (Op.equalIn 10000 51 (.agg #[.int .i64 p, .int .i64 q]) (.agg #[.int .i64 p, .int .i64 q])).run Try.prog w = .ok true w := by
  have hi : ∃ i, Try.prog.info? 3 = some i := Option.isSome_iff_exists.1 (by kernel_rfl)
  obtain ⟨i, hi⟩ := hi
  have hc : Try.prog.cellsOf 3 = 1 := by kernel_rfl
  have hp : Try.prog.plainKey 3 = true := by kernel_rfl
  have he : ∀ a : Int, (Op.equalIn 9999 3 (.int .i64 a) (.int .i64 a)).run Try.prog w = .ok true w := fun a => by rw [show (9999 : Nat) = 9998 + 1 from rfl, run_equalIn_int w 9998 3 .i64 _ a a Try.underlying3]; simp
  have r : List.range 2 = [0, 1] := by decide
  have p0 := run_part_plain (w := w) hp (xs := #[.int .i64 p, .int .i64 q]) (off := 0) (v := .int .i64 p) rfl
  have p1 := run_part_plain (w := w) hp (xs := #[.int .i64 p, .int .i64 q]) (off := 1) (v := .int .i64 q) rfl
  rw [show (10000 : Nat) = 9999 + 1 from rfl, run_equalIn_array w 9999 _ _ Try.underlying51 hi, hc, r]
  simp only [Op.eqItems, Sem.run_bind, Nat.mul_one, Nat.zero_mul, p0, p1, Result.andThen_ok, he, Bool.not_true, Bool.false_eq_true, if_false, Sem.run_pure]
set_option maxRecDepth 100000 in
set_option maxHeartbeats 1600000 in
theorem samePairs_any (u v : Value) (l : List (Int × Int)) (w : World) (hl : l.length ≤ maxLen) (hu : IsP w u l) (hv : IsP w v l) :
    Calls Try.prog 18 #[u, v] w fun e w' => e = .returned (.bool true) ∧ Bl w w' := by
  obtain ⟨A, c, rfl, hA⟩ := hu
  obtain ⟨B, d, rfl, hB⟩ := hv
  obtain ⟨n, hn⟩ : ∃ n, n = l.length := ⟨_, rfl⟩
  rw [← hn] at hA hB hl ⊢
  unfold maxLen at hl
  have HA := Lib.hid hA
  have HB := Lib.hid hB
  clear hA hB hn
  go_enter Try.func18, Try.ntmps18
  go_wp2_with fail
  go_loopw [13] (fun i wr => ∃ k N : Nat, k ≤ n ∧ i = .int .i64 k ∧ wr = w.drewN N) (fun i _ => n - (RowKit.intOf i).toNat)
  case atStart => exact ⟨0, 0, Nat.zero_le _, rfl, rfl⟩
  case round =>
    obtain ⟨k, N, hk, rfl, rfl⟩ := hrel
    by_cases hlt : k < n
    · obtain ⟨b, off, rfl, hbb, hc⟩ := HA.out (by omega)
      obtain ⟨b', off', rfl, hbb', hc'⟩ := HB.out (by omega)
      obtain ⟨c0, c1⟩ := hc k hlt
      obtain ⟨d0, d1⟩ := hc' k hlt
      obtain ⟨x, hx⟩ : ∃ x, x = (l.getD k (0, 0)).1 := ⟨_, rfl⟩
      obtain ⟨y, hy⟩ : ∃ y, y = (l.getD k (0, 0)).2 := ⟨_, rfl⟩
      rw [← hx] at c0 d0
      rw [← hy] at c1 d1
      have EQ := eqPair x y
      clear hc hc' hx hy
      go_wp2_with fail
      go_quiet (fail)
      go_wp2_with fail
      go_roundw
      case rel => exact ⟨k + 1, _, by omega, by go_num, rfl⟩
      case measure => simp [RowKit.intOf]; omega
    · obtain rfl : k = n := by omega
      go_wp2_with fail
      go_ret
      exact ⟨rfl, bl_dnN _ _⟩
/-- The later chances that do not follow one. -/
def inF (L : Nat → Ch) (per : Int) (i : Nat) (acc : List (Int × Int)) : Nat → List (Int × Int)
  | 0 => acc
  | s + 1 => if flw (L i) (L (i + 1 + s)) per = true then inF L per i acc s else inF L per i acc s ++ [((i : Int), ((i + 1 + s : Nat) : Int))]
def outF (L : Nat → Ch) (per : Int) (n : Nat) : Nat → List (Int × Int)
  | 0 => []
  | i + 1 => inF L per i (outF L per n i) (n - (i + 1))
theorem inF_len (L : Nat → Ch) (per : Int) (i : Nat) (acc : List (Int × Int)) (s : Nat) : (inF L per i acc s).length ≤ acc.length + s := by
  induction s with
  | zero => exact Nat.le_refl _
  | succ s ih =>
    unfold inF
    split
    · omega
    · simp; omega
theorem outF_len (L : Nat → Ch) (per : Int) {n : Nat} (hn : n ≤ 20) (i : Nat) : (outF L per n i).length ≤ 20 * i := by
  induction i with
  | zero => exact Nat.le_refl _
  | succ i ih =>
    have := inF_len L per i (outF L per n i) (n - (i + 1))
    rw [outF]
    omega
/-- What Clashes returns. -/
def ClsPost (L : Nat → Ch) (n : Nat) (per : Int) (w : World) (e : Ending) (w' : World) : Prop :=
  Bl w w' ∧ ((chkN L n (fun _ => ⟨0, 0⟩) 0 per ≠ 0 ∧ e = .returned (.tuple #[.slice none 0 0, .int .i64 (chkN L n (fun _ => ⟨0, 0⟩) 0 per)])) ∨ (chkN L n (fun _ => ⟨0, 0⟩) 0 per = 0 ∧ ∃ v, e = .returned (.tuple #[v, .int .i64 0]) ∧ IsP w' v (outF L per n n)))
def SK (w : World) (bx b o : Nat) (x y : Ch) (W' : World) : Prop := Bl w W' ∧ W'.cell? ⟨bx, 0, none⟩ = some (.string x.nm) ∧ W'.cell? ⟨bx, 1, none⟩ = some (.int .i64 x.fr) ∧ W'.cell? ⟨bx, 2, none⟩ = some (.int .i64 x.to) ∧ W'.cell? ⟨bx, 3, none⟩ = some (.int .i64 x.tl) ∧ W'.cell? ⟨bx, 4, none⟩ = some (.int .i64 x.wo) ∧ W'.cell? ⟨b, o, none⟩ = some (.string y.nm) ∧ W'.cell? ⟨b, o + 1, none⟩ = some (.int .i64 y.fr) ∧ W'.cell? ⟨b, o + 2, none⟩ = some (.int .i64 y.to) ∧ W'.cell? ⟨b, o + 3, none⟩ = some (.int .i64 y.tl) ∧ W'.cell? ⟨b, o + 4, none⟩ = some (.int .i64 y.wo) ∧ bx < W'.heap.size ∧ b < W'.heap.size
theorem SK.t {w : World} {bx b o : Nat} {x y : Ch} {W W' : World} (h : SK w bx b o x y W) (hb : Bl W W') : SK w bx b o x y W' := by
  obtain ⟨h0, a0, a1, a2, a3, a4, b0, b1, b2, b3, b4, l, l2⟩ := h
  exact ⟨h0.tr hb, kcb hb a0, kcb hb a1, kcb hb a2, kcb hb a3, kcb hb a4, kcb hb b0, kcb hb b1, kcb hb b2, kcb hb b3, kcb hb b4, Nat.lt_of_lt_of_le l hb.size, Nat.lt_of_lt_of_le l2 hb.size⟩
def XB (W : World) (bx : Nat) (x : Ch) : Prop := W.cell? ⟨bx, 0, none⟩ = some (.string x.nm) ∧ W.cell? ⟨bx, 1, none⟩ = some (.int .i64 x.fr) ∧ W.cell? ⟨bx, 2, none⟩ = some (.int .i64 x.to) ∧ W.cell? ⟨bx, 3, none⟩ = some (.int .i64 x.tl) ∧ W.cell? ⟨bx, 4, none⟩ = some (.int .i64 x.wo)
theorem XB.below {W W' : World} {bx : Nat} {x : Ch} (h : XB W bx x) (hb : Bl W W') : XB W' bx x := ⟨kcb hb h.1, kcb hb h.2.1, kcb hb h.2.2.1, kcb hb h.2.2.2.1, kcb hb h.2.2.2.2⟩
theorem XB.far {W W' : World} {bx : Nat} {x : Ch} {row : Option Nat} (h : XB W bx x) (hg : W.grownBy W' row) (hne : some bx ≠ row) : XB W' bx x := by
  have l := ltb h.1
  exact ⟨(hg.cell_far ⟨bx, 0, none⟩ l hne).trans h.1, (hg.cell_far ⟨bx, 1, none⟩ l hne).trans h.2.1, (hg.cell_far ⟨bx, 2, none⟩ l hne).trans h.2.2.1, (hg.cell_far ⟨bx, 3, none⟩ l hne).trans h.2.2.2.1, (hg.cell_far ⟨bx, 4, none⟩ l hne).trans h.2.2.2.2⟩
theorem chk_okR {L : Nat → Ch} {n : Nat} {S : Nat → Sp2} {m : Nat} {per : Int} (h : chkN L n S m per = 0) : vdB L n = true ∧ cldB S m = true ∧ 0 ≤ per ∧ per ≤ 10000 := by
  unfold chkN at h
  split at h
  · rename_i h1
    split at h
    · rename_i h2
      simp only [Bool.and_eq_true] at h1
      exact ⟨h1.1, h1.2, (inB_iff.1 h2).1, (inB_iff.1 h2).2⟩
    · omega
  · omega
set_option maxRecDepth 100000 in
set_option maxHeartbeats 3200000 in
theorem clashes_any (A : Option Addr) (n c : Nat) (L : Nat → Ch) (per : Int) (w : World) (hA : Chl w A n L) (hS : ∀ j, j < n → (L j).nm.size ≤ maxLen) (hn : n ≤ c) (hc : c ≤ maxLen) :
    Calls Try.prog 9 #[.slice A n c, .int .i64 per] w (ClsPost L n per w) := by
  obtain ⟨i0, hi0, hz0, hz1, hz2⟩ := info_parts6N pair_info
  have HI := Lib.hid (And.intro hi0 (And.intro hz0 (And.intro hz1 hz2)))
  clear hi0 hz0 hz1 hz2
  have HK := Lib.hid (checkN_any A n c L none 0 0 (fun _ => ⟨0, 0⟩) per w hA hS hn hc (fun h => absurd h (by omega)) (by decide))
  have HA := Lib.hid hA
  clear hA hS
  unfold maxLen at hc
  obtain ⟨er, her⟩ : ∃ er, er = chkN L n (fun _ => ⟨0, 0⟩) 0 per := ⟨_, rfl⟩
  have HER := Lib.hid her
  by_cases h : er = 0
  · subst h
    obtain ⟨v1, _, v3⟩ := chk_okR her.symm
    have hn20 := vd_lenQ v1
    have HV := Lib.hid (fun j (hj : j < n) => (ms_vc (vd_at v1 hj)).2)
    have HP := Lib.hid v3
    clear v1 v3 her
    go_enter Try.func9, Try.ntmps9
    go_wp2_with fail
    refine (HK.out).mono ?_
    rintro e1 w1 ⟨rfl, hb⟩
    rw [← HER.out]
    have z1 := hb.size
    have B1 := Lib.hid hb
    clear hb
    have NV : World.ownsRow w1 w.heap.size 51 2 (.slice none 0 0) 0 [] := World.ownsRow_nil _ _ _ _
    go_wp2_with fail
    go_loopw [7, 19] (fun v i wr => ∃ k : Nat, k ≤ n ∧ i = .int .i64 k ∧ Hid (wr.ownsRow w.heap.size 51 2 v (outF L per n k).length (prC (outF L per n k))) ∧ Bl w wr) (fun _ i _ => n - (RowKit.intOf i).toNat)
    case atStart => exact ⟨0, Nat.zero_le _, rfl, NV, B1.out⟩
    case round =>
      obtain ⟨k, hk, rfl, HO, hB⟩ := hrel
      have zB := hB.size
      by_cases hlt : k < n
      · obtain ⟨b, off, rfl, hbb, hcc⟩ := (HA.out.below hB) (by omega)
        obtain ⟨c0, c1, c2, c3, c4⟩ := hcc k hlt
        clear hcc
        have hvx := HV.out k hlt
        have HFL := Lib.hid (fun s => (show inF L per k (outF L per n k) (s + 1) = if flw (L k) (L (k + 1 + s)) per = true then inF L per k (outF L per n k) s else inF L per k (outF L per n k) s ++ [((k : Int), ((k + 1 + s : Nat) : Int))] from rfl))
        obtain ⟨x, hx⟩ : ∃ x, x = L k := ⟨_, rfl⟩
        rw [← hx] at c0 c1 c2 c3 c4 hvx HFL
        have HVX := Lib.hid hvx
        have HOU := Lib.hid (show outF L per n (k + 1) = inF L per k (outF L per n k) (n - (k + 1)) from rfl)
        have hol := outF_len L per hn20 k
        obtain ⟨acc, hacc⟩ : ∃ acc, acc = outF L per n k := ⟨_, rfl⟩
        rw [← hacc] at HO HFL HOU hol
        have HIL := Lib.hid (fun s => inF_len L per k acc s)
        clear hx hvx hacc
        go_wp2_with fail
        obtain ⟨Wo, hWo⟩ : ∃ Wo, Wo = wr.alloc (.cells #[.string x.nm, .int .i64 x.fr, .int .i64 x.to, .int .i64 x.tl, .int .i64 x.wo] 25) := ⟨_, rfl⟩
        obtain ⟨bx, hbx⟩ : ∃ bx, bx = wr.heap.size := ⟨_, rfl⟩
        have BWo : Bl wr Wo := by rw [hWo]; go_grown
        have x0 : Wo.cell? ⟨bx, 0, none⟩ = some (.string x.nm) := by rw [hWo, hbx]; simp
        have x1 : Wo.cell? ⟨bx, 1, none⟩ = some (.int .i64 x.fr) := by rw [hWo, hbx]; simp
        have x2 : Wo.cell? ⟨bx, 2, none⟩ = some (.int .i64 x.to) := by rw [hWo, hbx]; simp
        have x3 : Wo.cell? ⟨bx, 3, none⟩ = some (.int .i64 x.tl) := by rw [hWo, hbx]; simp
        have x4 : Wo.cell? ⟨bx, 4, none⟩ = some (.int .i64 x.wo) := by rw [hWo, hbx]; simp
        have HX := Lib.hid (show XB Wo bx x from ⟨x0, x1, x2, x3, x4⟩)
        have HNB := Lib.hid (fun g (e : Value.ownBlock _ = some g) => (show g ≠ bx by have := (HO.out.lt g e).2; omega))
        have HO1 := Lib.hid (own_bN HO.out BWo)
        have HB := Lib.hid (hB.tr BWo)
        rw [← hWo, ← hbx]
        clear hWo hbx BWo x0 x1 x2 x3 x4 hB
        go_loopw [7, 10] (fun v i wz => ∃ s t : Nat, Hid (t = k + 1 + s) ∧ t ≤ n ∧ i = .int .i64 (t : Int) ∧ Hid (wz.ownsRow w.heap.size 51 2 v (inF L per k acc s).length (prC (inF L per k acc s))) ∧ Hid (∀ g, v.ownBlock = some g → g ≠ bx) ∧ Hid (XB wz bx x) ∧ Below w.heap.size Wo wz) (fun _ i _ => n - (RowKit.intOf i).toNat)
        case atStart => exact ⟨0, k + 1, rfl, by omega, by go_num, HO1.out, HNB.out, HX.out, Below.refl _ _⟩
        case round =>
          obtain ⟨s, t, HTS, hs, rfl, HS, HNB, HX, hZ⟩ := hrel
          have htk := HTS.out
          have zWo := HB.out.size
          have zZ := hZ.size
          have HZ := Lib.hid hZ
          have hil := HIL.out s
          by_cases hsn : t < n
          · obtain ⟨b', off', eA, hbb', hcc⟩ := (HA.out.below (Below.trans HB.out hZ)) (by omega)
            obtain ⟨rfl, rfl⟩ : b = b' ∧ off = off' := by cases eA; exact ⟨rfl, rfl⟩
            clear eA
            obtain ⟨y0, y1, y2, y3, y4⟩ := hcc t hsn
            clear hcc
            have hvy := HV.out t hsn
            have HST := Lib.hid (show inF L per k acc (s + 1) = if flw x (L t) per = true then inF L per k acc s else inF L per k acc s ++ [((k : Int), (t : Int))] by rw [HFL.out s, ← HTS.out])
            have HT1 := Lib.hid (show t + 1 = k + 1 + (s + 1) by omega)
            have hs20 : s ≤ 20 := by omega
            clear htk
            obtain ⟨y, hy⟩ : ∃ y, y = L t := ⟨_, rfl⟩
            rw [← hy] at y0 y1 y2 y3 y4 hvy HST
            have HVY := Lib.hid hvy
            obtain ⟨x0, x1, x2, x3, x4⟩ := HX.out
            have lx := ltb x0
            have S0 : SK wr bx b (off + t * 5) x y wr := ⟨Bl.rf _, x0, x1, x2, x3, x4, y0, y1, y2, y3, y4, lx, hbb'⟩
            clear hy hvy hZ
            cases q : flw x y per with
            | true =>
              have HQ := Lib.hid q
              have HN := Lib.hid (show inF L per k acc (s + 1) = inF L per k acc s by rw [HST.out, if_pos q])
              clear q
              go_wp2_with fail
              go_region_held3 (fun W' => Bl wr W' ∧ W'.cell? ⟨bx, 0, none⟩ = some (.string x.nm) ∧ W'.cell? ⟨bx, 1, none⟩ = some (.int .i64 x.fr) ∧ W'.cell? ⟨bx, 2, none⟩ = some (.int .i64 x.to) ∧ W'.cell? ⟨bx, 3, none⟩ = some (.int .i64 x.tl) ∧ W'.cell? ⟨bx, 4, none⟩ = some (.int .i64 x.wo) ∧ W'.cell? ⟨b, off + t * 5, none⟩ = some (.string y.nm) ∧ W'.cell? ⟨b, off + t * 5 + 1, none⟩ = some (.int .i64 y.fr) ∧ W'.cell? ⟨b, off + t * 5 + 2, none⟩ = some (.int .i64 y.to) ∧ W'.cell? ⟨b, off + t * 5 + 3, none⟩ = some (.int .i64 y.tl) ∧ W'.cell? ⟨b, off + t * 5 + 4, none⟩ = some (.int .i64 y.wo) ∧ bx < W'.heap.size ∧ b < W'.heap.size) (first | exact SK.t S0 (bl_drN _) | exact SK.t (by assumption) hh0) (first | (go_at_call 31; refine (followsN_any x y per _ HVX.out HVY.out HP.out).mono ?_; rintro e v0 ⟨rfl, hh0⟩; rw [HQ.out]))
              all_goals
                rename_i hHeld
                have HH := Lib.hid hHeld.1
                clear hHeld
                go_wp2_with fail
                go_roundw
                case rel => exact ⟨s + 1, t + 1, HT1.out, by omega, by go_num, by rw [HN.out]; exact own_bN HS.out HH.out, HNB.out, HX.out.below HH.out, Below.trans HZ.out (HH.out.mono (by omega))⟩
                case measure => simp [RowKit.intOf]; omega
            | false =>
              have HQ := Lib.hid q
              have HN := Lib.hid (show inF L per k acc (s + 1) = inF L per k acc s ++ [((k : Int), (t : Int))] by rw [HST.out, if_neg (by rw [q]; decide)])
              clear q
              go_wp2_with fail
              go_region_held3 (fun W' => Bl wr W' ∧ W'.cell? ⟨bx, 0, none⟩ = some (.string x.nm) ∧ W'.cell? ⟨bx, 1, none⟩ = some (.int .i64 x.fr) ∧ W'.cell? ⟨bx, 2, none⟩ = some (.int .i64 x.to) ∧ W'.cell? ⟨bx, 3, none⟩ = some (.int .i64 x.tl) ∧ W'.cell? ⟨bx, 4, none⟩ = some (.int .i64 x.wo) ∧ W'.cell? ⟨b, off + t * 5, none⟩ = some (.string y.nm) ∧ W'.cell? ⟨b, off + t * 5 + 1, none⟩ = some (.int .i64 y.fr) ∧ W'.cell? ⟨b, off + t * 5 + 2, none⟩ = some (.int .i64 y.to) ∧ W'.cell? ⟨b, off + t * 5 + 3, none⟩ = some (.int .i64 y.tl) ∧ W'.cell? ⟨b, off + t * 5 + 4, none⟩ = some (.int .i64 y.wo) ∧ bx < W'.heap.size ∧ b < W'.heap.size) (first | exact SK.t S0 (bl_drN _) | exact SK.t (by assumption) hh0) (first | (go_at_call 31; refine (followsN_any x y per _ HVX.out HVY.out HP.out).mono ?_; rintro e v0 ⟨rfl, hh0⟩; rw [HQ.out]))
              all_goals
                rename_i hHeld
                have HH := Lib.hid hHeld.1
                clear hHeld
                obtain ⟨W2, hW2⟩ : ∃ W2, W2 = v0 := ⟨_, rfl⟩
                rw [← hW2] at HH ⊢
                clear hW2 hh0 x0 x1 x2 x3 x4 y0 y1 y2 y3 y4 S0
                have zW2 := HH.out.size
                have HO2 := Lib.hid (own_bN HS.out HH.out)
                have hnew := Lib.hid (heap_alloc_new W2 (.cells #[.int .i64 (k : Int), .int .i64 (t : Int)] 51))
                go_wp2_with (at_builtin; refine wpList_append_lies _ rfl _ _ _ rfl w.heap.size 51 i0 _ 2 16 Try.underlying32 HI.out.1 HI.out.2.1 HI.out.2.2.1 HI.out.2.2.2 rfl (by omega) _ (inF L per k acc s).length (prC (inF L per k acc s)) rfl (HO2.out.alloc _) ⟨W2.heap.size, 0, none⟩ 1 1 [.int .i64 (k : Int), .int .i64 (t : Int)] rfl rfl (World.news_of_block hnew.out) (by simp [Value.oneCell']) (by omega) (by unfold maxLen; omega) (by omega) (by (try simp only [World.size_alloc]); omega) _ rfl ?_; intro gg cap9 w9 hown9 hgrow9 hat9 hlt9)
                have HO9 := Lib.hid (show w9.ownsRow w.heap.size 51 2 (.slice (some ⟨gg, 0, none⟩) ((inF L per k acc s).length + 1) cap9) (inF L per k acc (s + 1)).length (prC (inF L per k acc (s + 1))) by
                  rw [HN.out, prC_snoc, List.length_append, List.length_singleton]; exact hown9)
                have hl9 := HO2.out.lt
                have X9 := Lib.hid (show Below w.heap.size W2 w9 from Below.grown (w := W2.alloc (.cells #[.int .i64 (k : Int), .int .i64 (t : Int)] 51)) (by go_grown) hgrow9 (by (try simp only [World.size_alloc]); omega) (fun j hj => (hl9 j hj).1))
                have NB9 := Lib.hid (show ∀ g, (Value.slice (some ⟨gg, 0, none⟩) ((inF L per k acc s).length + 1) cap9).ownBlock = some g → g ≠ bx from fun g e => by
                  have e' : gg = g := Option.some.inj e
                  subst e'
                  rcases hat9 with q | q
                  · exact HNB.out _ q
                  · have := ltb (HX.out.below HH.out).1; (try simp only [World.size_alloc] at q); omega)
                have XB9 := Lib.hid (((HX.out.below HH.out).below (show Bl W2 (W2.alloc (.cells #[.int .i64 (k : Int), .int .i64 (t : Int)] 51)) from by go_grown)).far hgrow9 (fun e => HNB.out bx e.symm rfl))
                clear hown9 hgrow9 hat9 hl9
                go_roundw
                case rel => exact ⟨s + 1, t + 1, HT1.out, by omega, by go_num, HO9.out, NB9.out, XB9.out, Below.trans (Below.trans HZ.out (HH.out.mono (by omega))) X9.out⟩
                case measure => simp [RowKit.intOf]; omega
          · have hse : s = n - (k + 1) := by omega
            clear htk
            have HR := Lib.hid (show outF L per n (k + 1) = inF L per k acc s by rw [HOU.out, hse])
            clear hse
            go_wp2_with fail
            go_roundw
            case rel => exact ⟨k + 1, by omega, by go_num, by rw [HR.out]; exact HS.out, Below.trans HB.out hZ⟩
            case measure => simp [RowKit.intOf]; omega
      · obtain rfl : k = n := by omega
        go_wp2_with fail
        go_ret2
        exact ⟨hB, .inr ⟨HER.out.symm, _, rfl, isP_of_own rfl HO.out⟩⟩
  · have hq : (er != 0) = true := by simp [h]
    have HNE := Lib.hid (show chkN L n (fun _ => ⟨0, 0⟩) 0 per ≠ 0 by rw [← her]; exact h)
    clear h her
    go_enter Try.func9, Try.ntmps9
    go_wp2_with fail
    refine (HK.out).mono ?_
    rintro e1 w1 ⟨rfl, hb⟩
    rw [← HER.out]
    have B1 := Lib.hid hb
    clear hb
    go_wp2_with fail
    go_ret2
    exact ⟨B1.out, .inl ⟨HNE.out, by rw [← HER.out]; rfl⟩⟩
set_option maxRecDepth 100000 in
set_option maxHeartbeats 3200000 in
theorem rclashes_any (A : Option Addr) (n c : Nat) (L : Nat → Ch) (per : Int) (w : World) (hA : Chl w A n L) (hS : ∀ j, j < n → (L j).nm.size ≤ maxLen) (hn : n ≤ c) (hc : c ≤ maxLen) :
    Calls Try.prog 10 #[.slice A n c, .int .i64 per] w (ClsPost L n per w) := by
  obtain ⟨i0, hi0, hz0, hz1, hz2⟩ := info_parts6N pair_info
  have HI := Lib.hid (And.intro hi0 (And.intro hz0 (And.intro hz1 hz2)))
  clear hi0 hz0 hz1 hz2
  have HK := Lib.hid (asked8_any A n c L none 0 0 (fun _ => ⟨0, 0⟩) per w hA hS hn hc (fun h => absurd h (by omega)) (by decide))
  have HA := Lib.hid hA
  clear hA hS
  unfold maxLen at hc
  obtain ⟨er, her⟩ : ∃ er, er = chkN L n (fun _ => ⟨0, 0⟩) 0 per := ⟨_, rfl⟩
  have HER := Lib.hid her
  by_cases h : er = 0
  · subst h
    obtain ⟨v1, _, v3⟩ := chk_okR her.symm
    have hn20 := vd_lenQ v1
    have HV := Lib.hid (fun j (hj : j < n) => (ms_vc (vd_at v1 hj)).2)
    have HP := Lib.hid v3
    clear v1 v3 her
    go_enter Try.func10, Try.ntmps10
    go_wp2_with fail
    refine (HK.out).mono ?_
    rintro e1 w1 ⟨rfl, hb⟩
    rw [← HER.out]
    have z1 := hb.size
    have B1 := Lib.hid hb
    clear hb
    have NV : World.ownsRow w1 w.heap.size 51 2 (.slice none 0 0) 0 [] := World.ownsRow_nil _ _ _ _
    go_wp2_with fail
    go_loopw [7, 19] (fun v i wr => ∃ k : Nat, k ≤ n ∧ i = .int .i64 k ∧ Hid (wr.ownsRow w.heap.size 51 2 v (outF L per n k).length (prC (outF L per n k))) ∧ Bl w wr) (fun _ i _ => n - (RowKit.intOf i).toNat)
    case atStart => exact ⟨0, Nat.zero_le _, rfl, NV, B1.out⟩
    case round =>
      obtain ⟨k, hk, rfl, HO, hB⟩ := hrel
      have zB := hB.size
      by_cases hlt : k < n
      · obtain ⟨b, off, rfl, hbb, hcc⟩ := (HA.out.below hB) (by omega)
        obtain ⟨c0, c1, c2, c3, c4⟩ := hcc k hlt
        clear hcc
        have hvx := HV.out k hlt
        have HFL := Lib.hid (fun s => (show inF L per k (outF L per n k) (s + 1) = if flw (L k) (L (k + 1 + s)) per = true then inF L per k (outF L per n k) s else inF L per k (outF L per n k) s ++ [((k : Int), ((k + 1 + s : Nat) : Int))] from rfl))
        obtain ⟨x, hx⟩ : ∃ x, x = L k := ⟨_, rfl⟩
        rw [← hx] at c0 c1 c2 c3 c4 hvx HFL
        have HVX := Lib.hid hvx
        have HOU := Lib.hid (show outF L per n (k + 1) = inF L per k (outF L per n k) (n - (k + 1)) from rfl)
        have hol := outF_len L per hn20 k
        obtain ⟨acc, hacc⟩ : ∃ acc, acc = outF L per n k := ⟨_, rfl⟩
        rw [← hacc] at HO HFL HOU hol
        have HIL := Lib.hid (fun s => inF_len L per k acc s)
        clear hx hvx hacc
        go_wp2_with fail
        obtain ⟨Wo, hWo⟩ : ∃ Wo, Wo = wr.alloc (.cells #[.string x.nm, .int .i64 x.fr, .int .i64 x.to, .int .i64 x.tl, .int .i64 x.wo] 25) := ⟨_, rfl⟩
        obtain ⟨bx, hbx⟩ : ∃ bx, bx = wr.heap.size := ⟨_, rfl⟩
        have BWo : Bl wr Wo := by rw [hWo]; go_grown
        have x0 : Wo.cell? ⟨bx, 0, none⟩ = some (.string x.nm) := by rw [hWo, hbx]; simp
        have x1 : Wo.cell? ⟨bx, 1, none⟩ = some (.int .i64 x.fr) := by rw [hWo, hbx]; simp
        have x2 : Wo.cell? ⟨bx, 2, none⟩ = some (.int .i64 x.to) := by rw [hWo, hbx]; simp
        have x3 : Wo.cell? ⟨bx, 3, none⟩ = some (.int .i64 x.tl) := by rw [hWo, hbx]; simp
        have x4 : Wo.cell? ⟨bx, 4, none⟩ = some (.int .i64 x.wo) := by rw [hWo, hbx]; simp
        have HX := Lib.hid (show XB Wo bx x from ⟨x0, x1, x2, x3, x4⟩)
        have HNB := Lib.hid (fun g (e : Value.ownBlock _ = some g) => (show g ≠ bx by have := (HO.out.lt g e).2; omega))
        have HO1 := Lib.hid (own_bN HO.out BWo)
        have HB := Lib.hid (hB.tr BWo)
        rw [← hWo, ← hbx]
        clear hWo hbx BWo x0 x1 x2 x3 x4 hB
        go_loopw [7, 10] (fun v i wz => ∃ s t : Nat, Hid (t = k + 1 + s) ∧ t ≤ n ∧ i = .int .i64 (t : Int) ∧ Hid (wz.ownsRow w.heap.size 51 2 v (inF L per k acc s).length (prC (inF L per k acc s))) ∧ Hid (∀ g, v.ownBlock = some g → g ≠ bx) ∧ Hid (XB wz bx x) ∧ Below w.heap.size Wo wz) (fun _ i _ => n - (RowKit.intOf i).toNat)
        case atStart => exact ⟨0, k + 1, rfl, by omega, by go_num, HO1.out, HNB.out, HX.out, Below.refl _ _⟩
        case round =>
          obtain ⟨s, t, HTS, hs, rfl, HS, HNB, HX, hZ⟩ := hrel
          have htk := HTS.out
          have zWo := HB.out.size
          have zZ := hZ.size
          have HZ := Lib.hid hZ
          have hil := HIL.out s
          by_cases hsn : t < n
          · obtain ⟨b', off', eA, hbb', hcc⟩ := (HA.out.below (Below.trans HB.out hZ)) (by omega)
            obtain ⟨rfl, rfl⟩ : b = b' ∧ off = off' := by cases eA; exact ⟨rfl, rfl⟩
            clear eA
            obtain ⟨y0, y1, y2, y3, y4⟩ := hcc t hsn
            clear hcc
            have hvy := HV.out t hsn
            have HST := Lib.hid (show inF L per k acc (s + 1) = if flw x (L t) per = true then inF L per k acc s else inF L per k acc s ++ [((k : Int), (t : Int))] by rw [HFL.out s, ← HTS.out])
            have HT1 := Lib.hid (show t + 1 = k + 1 + (s + 1) by omega)
            have hs20 : s ≤ 20 := by omega
            clear htk
            obtain ⟨y, hy⟩ : ∃ y, y = L t := ⟨_, rfl⟩
            rw [← hy] at y0 y1 y2 y3 y4 hvy HST
            have HVY := Lib.hid hvy
            obtain ⟨x0, x1, x2, x3, x4⟩ := HX.out
            have lx := ltb x0
            have S0 : SK wr bx b (off + t * 5) x y wr := ⟨Bl.rf _, x0, x1, x2, x3, x4, y0, y1, y2, y3, y4, lx, hbb'⟩
            clear hy hvy hZ
            cases q : flw x y per with
            | true =>
              have HQ := Lib.hid q
              have HN := Lib.hid (show inF L per k acc (s + 1) = inF L per k acc s by rw [HST.out, if_pos q])
              clear q
              go_wp2_with fail
              go_region_held3 (fun W' => Bl wr W' ∧ W'.cell? ⟨bx, 0, none⟩ = some (.string x.nm) ∧ W'.cell? ⟨bx, 1, none⟩ = some (.int .i64 x.fr) ∧ W'.cell? ⟨bx, 2, none⟩ = some (.int .i64 x.to) ∧ W'.cell? ⟨bx, 3, none⟩ = some (.int .i64 x.tl) ∧ W'.cell? ⟨bx, 4, none⟩ = some (.int .i64 x.wo) ∧ W'.cell? ⟨b, off + t * 5, none⟩ = some (.string y.nm) ∧ W'.cell? ⟨b, off + t * 5 + 1, none⟩ = some (.int .i64 y.fr) ∧ W'.cell? ⟨b, off + t * 5 + 2, none⟩ = some (.int .i64 y.to) ∧ W'.cell? ⟨b, off + t * 5 + 3, none⟩ = some (.int .i64 y.tl) ∧ W'.cell? ⟨b, off + t * 5 + 4, none⟩ = some (.int .i64 y.wo) ∧ bx < W'.heap.size ∧ b < W'.heap.size) (first | exact SK.t S0 (bl_drN _) | exact SK.t (by assumption) hh0) (first | (go_at_call 33; refine (rfollows8_any x y per _ HVX.out HVY.out HP.out).mono ?_; rintro e v0 ⟨rfl, hh0⟩; rw [HQ.out]))
              all_goals
                rename_i hHeld
                have HH := Lib.hid hHeld.1
                clear hHeld
                go_wp2_with fail
                go_roundw
                case rel => exact ⟨s + 1, t + 1, HT1.out, by omega, by go_num, by rw [HN.out]; exact own_bN HS.out HH.out, HNB.out, HX.out.below HH.out, Below.trans HZ.out (HH.out.mono (by omega))⟩
                case measure => simp [RowKit.intOf]; omega
            | false =>
              have HQ := Lib.hid q
              have HN := Lib.hid (show inF L per k acc (s + 1) = inF L per k acc s ++ [((k : Int), (t : Int))] by rw [HST.out, if_neg (by rw [q]; decide)])
              clear q
              go_wp2_with fail
              go_region_held3 (fun W' => Bl wr W' ∧ W'.cell? ⟨bx, 0, none⟩ = some (.string x.nm) ∧ W'.cell? ⟨bx, 1, none⟩ = some (.int .i64 x.fr) ∧ W'.cell? ⟨bx, 2, none⟩ = some (.int .i64 x.to) ∧ W'.cell? ⟨bx, 3, none⟩ = some (.int .i64 x.tl) ∧ W'.cell? ⟨bx, 4, none⟩ = some (.int .i64 x.wo) ∧ W'.cell? ⟨b, off + t * 5, none⟩ = some (.string y.nm) ∧ W'.cell? ⟨b, off + t * 5 + 1, none⟩ = some (.int .i64 y.fr) ∧ W'.cell? ⟨b, off + t * 5 + 2, none⟩ = some (.int .i64 y.to) ∧ W'.cell? ⟨b, off + t * 5 + 3, none⟩ = some (.int .i64 y.tl) ∧ W'.cell? ⟨b, off + t * 5 + 4, none⟩ = some (.int .i64 y.wo) ∧ bx < W'.heap.size ∧ b < W'.heap.size) (first | exact SK.t S0 (bl_drN _) | exact SK.t (by assumption) hh0) (first | (go_at_call 33; refine (rfollows8_any x y per _ HVX.out HVY.out HP.out).mono ?_; rintro e v0 ⟨rfl, hh0⟩; rw [HQ.out]))
              all_goals
                rename_i hHeld
                have HH := Lib.hid hHeld.1
                clear hHeld
                obtain ⟨W2, hW2⟩ : ∃ W2, W2 = v0 := ⟨_, rfl⟩
                rw [← hW2] at HH ⊢
                clear hW2 hh0 x0 x1 x2 x3 x4 y0 y1 y2 y3 y4 S0
                have zW2 := HH.out.size
                have HO2 := Lib.hid (own_bN HS.out HH.out)
                have hnew := Lib.hid (heap_alloc_new W2 (.cells #[.int .i64 (k : Int), .int .i64 (t : Int)] 51))
                go_wp2_with (at_builtin; refine wpList_append_lies _ rfl _ _ _ rfl w.heap.size 51 i0 _ 2 16 Try.underlying32 HI.out.1 HI.out.2.1 HI.out.2.2.1 HI.out.2.2.2 rfl (by omega) _ (inF L per k acc s).length (prC (inF L per k acc s)) rfl (HO2.out.alloc _) ⟨W2.heap.size, 0, none⟩ 1 1 [.int .i64 (k : Int), .int .i64 (t : Int)] rfl rfl (World.news_of_block hnew.out) (by simp [Value.oneCell']) (by omega) (by unfold maxLen; omega) (by omega) (by (try simp only [World.size_alloc]); omega) _ rfl ?_; intro gg cap9 w9 hown9 hgrow9 hat9 hlt9)
                have HO9 := Lib.hid (show w9.ownsRow w.heap.size 51 2 (.slice (some ⟨gg, 0, none⟩) ((inF L per k acc s).length + 1) cap9) (inF L per k acc (s + 1)).length (prC (inF L per k acc (s + 1))) by
                  rw [HN.out, prC_snoc, List.length_append, List.length_singleton]; exact hown9)
                have hl9 := HO2.out.lt
                have X9 := Lib.hid (show Below w.heap.size W2 w9 from Below.grown (w := W2.alloc (.cells #[.int .i64 (k : Int), .int .i64 (t : Int)] 51)) (by go_grown) hgrow9 (by (try simp only [World.size_alloc]); omega) (fun j hj => (hl9 j hj).1))
                have NB9 := Lib.hid (show ∀ g, (Value.slice (some ⟨gg, 0, none⟩) ((inF L per k acc s).length + 1) cap9).ownBlock = some g → g ≠ bx from fun g e => by
                  have e' : gg = g := Option.some.inj e
                  subst e'
                  rcases hat9 with q | q
                  · exact HNB.out _ q
                  · have := ltb (HX.out.below HH.out).1; (try simp only [World.size_alloc] at q); omega)
                have XB9 := Lib.hid (((HX.out.below HH.out).below (show Bl W2 (W2.alloc (.cells #[.int .i64 (k : Int), .int .i64 (t : Int)] 51)) from by go_grown)).far hgrow9 (fun e => HNB.out bx e.symm rfl))
                clear hown9 hgrow9 hat9 hl9
                go_roundw
                case rel => exact ⟨s + 1, t + 1, HT1.out, by omega, by go_num, HO9.out, NB9.out, XB9.out, Below.trans (Below.trans HZ.out (HH.out.mono (by omega))) X9.out⟩
                case measure => simp [RowKit.intOf]; omega
          · have hse : s = n - (k + 1) := by omega
            clear htk
            have HR := Lib.hid (show outF L per n (k + 1) = inF L per k acc s by rw [HOU.out, hse])
            clear hse
            go_wp2_with fail
            go_roundw
            case rel => exact ⟨k + 1, by omega, by go_num, by rw [HR.out]; exact HS.out, Below.trans HB.out hZ⟩
            case measure => simp [RowKit.intOf]; omega
      · obtain rfl : k = n := by omega
        go_wp2_with fail
        go_ret2
        exact ⟨hB, .inr ⟨HER.out.symm, _, rfl, isP_of_own rfl HO.out⟩⟩
  · have hq : (er != 0) = true := by simp [h]
    have HNE := Lib.hid (show chkN L n (fun _ => ⟨0, 0⟩) 0 per ≠ 0 by rw [← her]; exact h)
    clear h her
    go_enter Try.func10, Try.ntmps10
    go_wp2_with fail
    refine (HK.out).mono ?_
    rintro e1 w1 ⟨rfl, hb⟩
    rw [← HER.out]
    have B1 := Lib.hid hb
    clear hb
    go_wp2_with fail
    go_ret2
    exact ⟨B1.out, .inl ⟨HNE.out, by rw [← HER.out]; rfl⟩⟩
end Go.Proofs.Ytbieonibngbhjaa
