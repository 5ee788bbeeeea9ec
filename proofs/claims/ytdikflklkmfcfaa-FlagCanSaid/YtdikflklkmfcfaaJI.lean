/-
  All hoists of a length, pure: the reference's list is the tree's, and each means another number; the reference's number.
-/
import Derived.Test.YtdikflklkmfcfaaJG
import Derived.Test.YtdikflklkmfcfaaFN
import Derived.Test.YtdikflklkmfcfaaFK
namespace Go.Proofs.Ytdikflklkmfcfaa
open Go.RowKit
set_option linter.unusedSimpArgs false
set_option linter.unusedVariables false

def extG (c : List Nat → Nat → Bool) (h : List Nat) : List (List Nat) := (List.range 13).flatMap fun f => if c h f then [h ++ [f]] else []
def itrG (c : List Nat → Nat → Bool) : Nat → List (List Nat) → List (List Nat)
  | 0, l => l
  | r + 1, l => itrG c r (l.flatMap (extG c))
theorem itrG_snoc (c : List Nat → Nat → Bool) (r : Nat) : ∀ l, itrG c (r + 1) l = (itrG c r l).flatMap (extG c) := by
  induction r with
  | zero => intro l; rfl
  | succ r ih => intro l; rw [itrG, ih]; rfl
theorem itrG_nil (c : List Nat → Nat → Bool) (r : Nat) : itrG c r [] = [] := by
  induction r with
  | zero => rfl
  | succ r ih => rw [itrG, List.flatMap_nil, ih]
theorem itrG_app (c : List Nat → Nat → Bool) (r : Nat) : ∀ a b, itrG c r (a ++ b) = itrG c r a ++ itrG c r b := by
  induction r with
  | zero => intro a b; rfl
  | succ r ih => intro a b; rw [itrG, List.flatMap_append, ih]; rfl
theorem itrG_flat (c : List Nat → Nat → Bool) (r : Nat) {α : Type} (g : α → List (List Nat)) (l : List α) : itrG c r (l.flatMap g) = l.flatMap fun x => itrG c r (g x) := by
  induction l with
  | nil => exact itrG_nil c r
  | cons x l ih => rw [List.flatMap_cons, itrG_app, ih, List.flatMap_cons]
theorem rngG_ext (c : List Nat → Nat → Bool) (h : List Nat) (f : Nat) : ((List.range (f + 1)).flatMap fun f => if c h f then [h ++ [f]] else []) = ((List.range f).flatMap fun f => if c h f then [h ++ [f]] else []) ++ (if c h f then [h ++ [f]] else []) := by
  rw [List.range_succ, List.flatMap_append]; simp
theorem rngG_max (c : List Nat → Nat → Bool) (x : List Nat) : ∀ k, ((List.range k).flatMap fun f => if c x f then [x ++ [f]] else []).length ≤ k := by
  intro k
  induction k with
  | zero => simp
  | succ k ihk =>
    rw [rngG_ext, List.length_append]
    have : (if c x k then [x ++ [k]] else []).length ≤ 1 := by split <;> simp
    omega
theorem extG_max (c : List Nat → Nat → Bool) (l : List (List Nat)) : (l.flatMap (extG c)).length ≤ l.length * 13 := by
  induction l with
  | nil => simp
  | cons x l ih =>
    have hx : (extG c x).length ≤ 13 := rngG_max c x 13
    rw [List.flatMap_cons, List.length_append, List.length_cons]
    omega
theorem itrG_max (c : List Nat → Nat → Bool) (r : Nat) : (itrG c r [[]]).length ≤ 13 ^ r := by
  induction r with
  | zero => simp [itrG]
  | succ r ih =>
    rw [itrG_snoc]
    have := extG_max c (itrG c r [[]])
    rw [Nat.pow_succ]
    omega
theorem takeG_ext {c : List Nat → Nat → Bool} {k : Nat} {l : List (List Nat)} (hk : k < l.length) : (l.take (k + 1)).flatMap (extG c) = (l.take k).flatMap (extG c) ++ extG c l[k] := by
  rw [List.take_succ_eq_append_getElem hk, List.flatMap_append]; simp
theorem memG (c : List Nat → Nat → Bool) (r : Nat) : ∀ x, x ∈ itrG c (r + 1) [[]] → ∃ h f, h ∈ itrG c r [[]] ∧ c h f = true ∧ x = h ++ [f] := by
  intro x hx
  rw [itrG_snoc, List.mem_flatMap] at hx
  obtain ⟨h, hh, hx⟩ := hx
  rw [extG, List.mem_flatMap] at hx
  obtain ⟨f, _, hx⟩ := hx
  split at hx
  · rename_i hc
    exact ⟨h, f, hh, hc, by simpa using hx⟩
  · cases hx
theorem lenG (c : List Nat → Nat → Bool) (r : Nat) : ∀ x, x ∈ itrG c r [[]] → x.length = r := by
  induction r with
  | zero => intro x hx; have : x = [] := by simpa [itrG] using hx
            subst this; rfl
  | succ r ih =>
    intro x hx
    obtain ⟨h, f, hh, _, rfl⟩ := memG c r x hx
    rw [List.length_append, List.length_singleton, ih h hh]
theorem nodupG (c : List Nat → Nat → Bool) (r : Nat) : (itrG c r [[]]).Nodup := by
  induction r with
  | zero => simp [itrG]
  | succ r ih =>
    rw [itrG_snoc]
    unfold List.Nodup
    rw [List.pairwise_flatMap]
    refine ⟨fun h _ => ?_, ih.imp ?_⟩
    · rw [extG, List.pairwise_flatMap]
      refine ⟨fun f _ => by split <;> simp, List.nodup_range.imp ?_⟩
      intro f g hfg x hx y hy
      split at hx
      · split at hy
        · obtain rfl : x = h ++ [f] := by simpa using hx
          obtain rfl : y = h ++ [g] := by simpa using hy
          intro e
          have e := List.append_cancel_left e
          exact hfg (by simpa using e)
        · cases hy
      · cases hx
    · intro h1 h2 hne x hx y hy e
      subst e
      rw [extG, List.mem_flatMap] at hx hy
      obtain ⟨f, _, hx⟩ := hx
      obtain ⟨g, _, hy⟩ := hy
      split at hx
      · split at hy
        · obtain rfl : x = h1 ++ [f] := by simpa using hx
          have e : h1 ++ [f] = h2 ++ [g] := by simpa using hy
          exact hne (List.append_inj' e rfl).1
        · cases hy
      · cases hx
/-- The flags that may hang below h. -/
def cC (L : Nat) (h : List Nat) (f : Nat) : Bool := hasB L f && okH (h ++ [f])
theorem tre_itrG {L : Nat} (r : Nat) : ∀ (h d : List Nat) (left : Nat), h.length + r ≤ 4 → okS h → (∀ f, f < 13 → hasB left f = (hasB L f && !h.contains f)) →
    tre allW r h d left = itrG (cC L) r [h] := by
  induction r with
  | zero => intro h d left _ _ _; rfl
  | succ r ih =>
    intro h d left hlen hs hl
    have h3 : h.length ≤ 3 := by omega
    have key : ∀ f, f < 13 → canB allW h d left f = cC L h f := by
      intro f hf
      unfold canB cC allW
      rw [hl f hf, okH_snoc hs h3, decide_eq_true hf]
      cases hasB L f <;> cases h.contains f <;> cases mayB f h.length <;> simp
    rw [itrG, List.flatMap_cons, List.flatMap_nil, List.append_nil, extG, itrG_flat, tre]
    refine fm_congr fun f hf => ?_
    have hf := List.mem_range.1 hf
    rw [key f hf]
    cases hc : cC L h f with
    | false => simp [itrG_nil]
    | true =>
      rw [if_pos rfl, if_pos rfl]
      simp only [cC, Bool.and_eq_true] at hc
      have hl1 : (h ++ [f]).length = h.length + 1 := by simp
      refine ih (h ++ [f]) _ (clr left f) (by rw [hl1]; omega) (okS_snoc hc.2) fun g hg => ?_
      rw [hasB_clr, hl g hg]
      simp only [List.contains_eq_mem, List.mem_append, List.mem_singleton]
      by_cases e : f = g
      · subst e; simp
      · have e' : ¬ g = f := fun h => e h.symm
        simp [e, e']
theorem can_itr {n L : Nat} (hn : n ≤ 4) : canL n L = itrG (cC L) n [[]] := tre_itrG n [] [] L (by simpa using hn) (by unfold okS; rfl) (fun f hf => by simp)
theorem okG {L r : Nat} {x : List Nat} (h : x ∈ itrG (cC L) (r + 1) [[]]) : okH x = true := by
  obtain ⟨h, f, _, hc, rfl⟩ := memG _ r x h
  simp only [cC, Bool.and_eq_true] at hc
  exact hc.2
/-- The number that digits are. -/
def numF (D : Nat → Int) : Nat → Int
  | 0 => 0
  | k + 1 => 10 * numF D k + D k
theorem numF_bd {D : Nat → Int} {k n : Nat} (h : dgTo D n = true) (hk : k ≤ n) : 0 ≤ numF D k ∧ numF D k < 10 ^ k := by
  induction k with
  | zero => simp [numF]
  | succ k ih =>
    have := ih (by omega)
    have := dgTo_at h (show k < n by omega)
    rw [numF, Int.pow_succ]
    omega
theorem numF_inj {D E : Nat → Int} {k n : Nat} (h : dgTo D n = true) (h' : dgTo E n = true) (hk : k ≤ n) (e : numF D k = numF E k) : ∀ j, j < k → D j = E j := by
  induction k with
  | zero => intro j hj; omega
  | succ k ih =>
    have h1 := dgTo_at h (show k < n by omega)
    have h2 := dgTo_at h' (show k < n by omega)
    rw [numF, numF] at e
    intro j hj
    by_cases he : j = k
    · subst he; omega
    · exact ih (by omega) (by omega) j (by omega)
theorem mn_dg {x : List Nat} (h : okH x = true) : dgTo (gI (mnH x)) x.length = true := by
  refine dgTo_of fun k hk => ?_
  have hl : k < (mnH x).length := by unfold mnH; rw [dgs_len]; exact hk
  have hlt : ∀ m, m ≤ x.length → ∀ d, d ∈ dgs (gI x) m → d < 10 := by
    intro m
    induction m with
    | zero => intro _ d hd; cases hd
    | succ m ih =>
      intro hm d hd
      rw [dgs] at hd
      rcases List.mem_append.1 hd with hd | hd
      · exact ih (by omega) d hd
      · obtain rfl := List.mem_singleton.1 hd
        obtain ⟨f, e, h13, _⟩ := okF_nat (hoTo_at (vhB_iff.1 h).2 (show m < x.length by omega))
        rw [e, Int.toNat_natCast]
        exact digF_lt h13 (ih (by omega))
  have := hlt x.length (Nat.le_refl _) _ (List.getElem_mem hl)
  unfold gI
  rw [List.getD_eq_getElem?_getD, List.getElem?_eq_getElem hl]
  simp only [Option.getD_some]
  omega
/-- The number that a hoist means. -/
def nmH (x : List Nat) : Nat := (numF (gI (mnH x)) x.length).toNat
theorem nmH_lt {x : List Nat} (h : okH x = true) : nmH x < 10000 := by
  have h4 := (vhB_iff.1 h).1.2
  have h1 := numF_bd (mn_dg h) (Nat.le_refl x.length)
  have h2 : (10 : Int) ^ x.length ≤ 10 ^ 4 := by
    have := Nat.pow_le_pow_right (n := 10) (by decide) h4
    have e : ∀ a : Nat, ((10 ^ a : Nat) : Int) = (10 : Int) ^ a := fun a => by simp
    rw [← e, ← e]; omega
  have h3 : (10 : Int) ^ 4 = 10000 := by decide
  unfold nmH; omega
theorem mn_hst {x : List Nat} (h : okH x = true) : x ∈ hstL x.length (gI (mnH x)) 8191 := by
  obtain ⟨h14, ht⟩ := vhB_iff.1 h
  have hl : (mnH x).length = x.length := by unfold mnH; rw [dgs_len]
  rw [hst_itr (vdB_iff.2 ⟨h14, mn_dg h⟩), mem_itr _ _ _ h14.2]
  refine ⟨rfl, fun f hf => ?_, .inr h, ?_⟩
  · obtain ⟨j, hj, e⟩ := List.getElem_of_mem hf
    obtain ⟨g, e2, hg, _⟩ := okF_nat (hoTo_at ht hj)
    unfold gI at e2
    rw [List.getD_eq_getElem?_getD, List.getElem?_eq_getElem hj, e] at e2
    have e2 : ((f : Nat) : Int) = g := e2
    exact all_has f (by omega)
  · refine List.ext_getElem (by rw [hl, lst_len]) fun j h1 h2 => ?_
    simp only [lst, List.getElem_map, List.getElem_range]
    unfold gI
    rw [List.getD_eq_getElem?_getD, List.getElem?_eq_getElem h1]; simp
theorem nmH_inj {x y : List Nat} (hx : okH x = true) (hy : okH y = true) (hl : x.length = y.length) (e : nmH x = nmH y) : x = y := by
  have b1 := numF_bd (mn_dg hx) (Nat.le_refl _)
  have b2 := numF_bd (mn_dg hy) (Nat.le_refl _)
  unfold nmH at e
  have e1 : numF (gI (mnH x)) x.length = numF (gI (mnH y)) x.length := by rw [hl] at *; omega
  have h1 := mn_dg hy
  rw [← hl] at h1
  have e2 := numF_inj (mn_dg hx) h1 (Nat.le_refl _) e1
  have lx : (mnH x).length = x.length := by unfold mnH; rw [dgs_len]
  have ly : (mnH y).length = x.length := by unfold mnH; rw [dgs_len, hl]
  have e3 : mnH x = mnH y := by
    refine List.ext_getElem (by rw [lx, ly]) fun j h1 h2 => ?_
    have := e2 j (by omega)
    unfold gI at this
    rw [List.getD_eq_getElem?_getD, List.getElem?_eq_getElem h1, List.getD_eq_getElem?_getD, List.getElem?_eq_getElem h2] at this
    have this : (((mnH x)[j] : Nat) : Int) = ((mnH y)[j] : Nat) := this
    omega
  have hx2 := mn_hst hx
  have hy2 := mn_hst hy
  rw [← e3, ← hl] at hy2
  have hv : vdB x.length (gI (mnH x)) = true := vdB_iff.2 ⟨(vhB_iff.1 hx).1, mn_dg hx⟩
  rw [(usl_all hv).1] at hx2 hy2
  rw [List.mem_singleton.1 hx2, List.mem_singleton.1 hy2]
/-- A number is met. -/
def snB (l : List (List Nat)) (k j : Nat) : Bool := (l.take k).any fun x => nmH x == j
theorem snB_succ {l : List (List Nat)} {k : Nat} (hk : k < l.length) (j : Nat) : snB l (k + 1) j = if j = nmH l[k] then true else snB l k j := by
  unfold snB
  rw [List.take_succ_eq_append_getElem hk, List.any_append]
  by_cases e : j = nmH l[k]
  · rw [if_pos e, e]; simp
  · have e2 : (nmH l[k] == j) = false := beq_eq_false_iff_ne.2 (fun h => e h.symm)
    rw [if_neg e]; simp [e2]
theorem snB_new {L n k : Nat} (hk : k < (itrG (cC L) (n + 1) [[]]).length) : snB (itrG (cC L) (n + 1) [[]]) k (nmH (itrG (cC L) (n + 1) [[]])[k]) = false := by
  rw [Bool.eq_false_iff]
  intro h
  unfold snB at h
  rw [List.any_eq_true] at h
  obtain ⟨x, hx, e⟩ := h
  have e := beq_iff_eq.1 e
  obtain ⟨i, hi, rfl⟩ := List.getElem_of_mem hx
  rw [List.length_take] at hi
  rw [List.getElem_take] at e
  have hm1 := List.getElem_mem (show i < (itrG (cC L) (n + 1) [[]]).length by omega)
  have hm2 := List.getElem_mem hk
  have := nmH_inj (okG hm1) (okG hm2) (by rw [lenG _ _ _ hm1, lenG _ _ _ hm2]) e
  have := (List.getElem_inj (nodupG (cC L) (n + 1))).1 this
  omega
theorem cnt_all {n : Nat} (h : 1 ≤ n ∧ n ≤ 4) : ((canL n 8191).length : Int) = 10 ^ n := by
  have : n = 1 ∨ n = 2 ∨ n = 3 ∨ n = 4 := by omega
  rcases this with rfl | rfl | rfl | rfl
  · have : (canL 1 8191).length = 10 := by decide +kernel
    rw [this]; rfl
  · have : (canL 2 8191).length = 100 := by decide +kernel
    rw [this]; rfl
  · have : (canL 3 8191).length = 1000 := by decide +kernel
    rw [this]; rfl
  · have : (canL 4 8191).length = 10000 := by decide +kernel
    rw [this]; rfl
set_option maxHeartbeats 1600000 in
theorem rnum_any (A : Option Addr) (n c : Nat) (D : Nat → Int) (w : World) (hn : n ≤ 4) (hA : Sl w A n D) (hd : dgTo D n = true) :
    Calls Try.prog 37 #[.slice A n c] w fun e w' => e = .returned (.int .i64 (numF D n)) ∧ w = w' := by
  have HA := Lib.hid hA
  have HD := Lib.hid hd
  clear hA hd
  go_enter Try.func37, Try.ntmps37
  go_wp2_with fail
  go_loopw [3, 8] (fun v i wr => ∃ k : Nat, k ≤ n ∧ i = .int .i64 k ∧ v = .int .i64 (numF D k) ∧ wr = w) (fun _ i _ => n - (RowKit.intOf i).toNat)
  case atStart => exact ⟨0, Nat.zero_le _, rfl, rfl, rfl⟩
  case round =>
    obtain ⟨k, hk, rfl, rfl, rfl⟩ := hrel
    by_cases hlt : k < n
    · obtain ⟨b, off, rfl, hb, hc⟩ := HA.out (by omega)
      have c1 := hc k hlt
      have d1 := dgTo_at HD.out hlt
      have d2 := numF_bd HD.out (show k ≤ n by omega)
      have d3 : numF D k < 1000 := by
        have : (10 : Int) ^ k ≤ 10 ^ 3 := by
          have := Nat.pow_le_pow_right (n := 10) (by decide) (show k ≤ 3 by omega)
          have e : ∀ a : Nat, ((10 ^ a : Nat) : Int) = (10 : Int) ^ a := fun a => by simp
          rw [← e, ← e]; omega
        have h3 : (10 : Int) ^ 3 = 1000 := by decide
        omega
      have HS := Lib.hid (show numF D (k + 1) = 10 * numF D k + D k from rfl)
      obtain ⟨a, ha⟩ : ∃ a, a = numF D k := ⟨_, rfl⟩
      obtain ⟨x, hx⟩ : ∃ x, x = D k := ⟨_, rfl⟩
      rw [← ha] at d2 d3 HS ⊢
      rw [← hx] at c1 d1 HS
      have d4 := d2.1
      clear ha hx hc d2
      have e1 : IntKind.i64.wrap (10 * a) = 10 * a := IntWalk.i64_in _ (by omega)
      have e2 : wrap64 (10 * a + x) = 10 * a + x := IntWalk.wrap64_in _ (by omega)
      go_wp2_with fail
      go_roundw
      case rel => exact ⟨k + 1, by omega, by go_num, by rw [HS.out], trivial⟩
      case measure => simp [RowKit.intOf]; omega
    · obtain rfl : k = n := by omega
      go_wp2_with fail
      go_ret
      exact ⟨rfl, rfl⟩
end Go.Proofs.Ytdikflklkmfcfaa
