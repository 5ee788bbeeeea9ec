/-
  Contracts of package night: clouds, names that are there already.
-/
import Derived.Test.YtbmenpfpeadckaaNB
namespace Go.Proofs.Ytbmenpfpeadckaa
open Go.RowKit
set_option linter.unusedSimpArgs false
set_option linter.unusedVariables false

def anyTo (P : Nat → Bool) : Nat → Bool
  | 0 => false
  | k + 1 => anyTo P k || P k
theorem anyTo_at {P : Nat → Bool} {k n : Nat} (hk : k < n) (h : P k = true) : anyTo P n = true := by
  induction n with
  | zero => omega
  | succ n ih =>
    by_cases e : k = n
    · subst e; simp [anyTo, h]
    · simp [anyTo, ih (by omega)]
theorem anyTo_congr {P Q : Nat → Bool} {n : Nat} (h : ∀ k, k < n → P k = Q k) : anyTo P n = anyTo Q n := by
  induction n with
  | zero => rfl
  | succ n ih => rw [anyTo, anyTo, ih fun k hk => h k (by omega), h n (by omega)]
structure Sp2 where
  (lo hi : Int)
/-- A slice of spans reads as a function. -/
def Spl (w : World) (A : Option Addr) (n : Nat) (S : Nat → Sp2) : Prop :=
  0 < n → ∃ b off, A = some ⟨b, off, none⟩ ∧ b < w.heap.size ∧ ∀ j, j < n → w.cell? ⟨b, off + j * 2, none⟩ = some (.int .i64 (S j).lo) ∧ w.cell? ⟨b, off + j * 2 + 1, none⟩ = some (.int .i64 (S j).hi)
theorem Spl.below {w w' : World} {A : Option Addr} {n : Nat} {S : Nat → Sp2} (h : Spl w A n S) (hb : Bl w w') : Spl w' A n S := fun hn => by
  obtain ⟨b, off, e, hlt, hc⟩ := h hn
  exact ⟨b, off, e, Nat.lt_of_lt_of_le hlt hb.size, fun j hj => ⟨kcb hb (hc j hj).1, kcb hb (hc j hj).2⟩⟩
def badC (s : Sp2) : Bool := decide (s.lo < 0) || decide (s.hi < s.lo) || decide (86400000 < s.hi)
def inC8w (c : Ch) (s : Sp2) : Bool := decide (s.lo < c.to) && decide (c.fr ≤ s.hi)
theorem key_neN {a b : ByteArray} (h : a ≠ b) : (a.toList == b.toList) = false := by
  rw [beq_eq_false_iff_ne, ByteArray.toList_eq, ByteArray.toList_eq]
  exact fun e => h (by cases a; cases b; simp only at e; rw [Array.toList_inj] at e; rw [e])
set_option maxHeartbeats 800000 in
theorem cloud1_any (s : Sp2) (w : World) : Calls Try.prog 103 #[.agg #[.int .i64 s.lo, .int .i64 s.hi]] w fun e w' => e = .returned (.bool (badC s)) ∧ Bl w w' := by
  go_enter Try.func103, Try.ntmps103
  go_wp2
  all_goals (go_ret; exact ⟨ret_boolN (by simp [badC]; try omega), by go_grown⟩)
set_option maxHeartbeats 800000 in
theorem clear1_any (s : Sp2) (c : Ch) (p : Nat) (w : World) (h1 : w.cell? ⟨p, 1, none⟩ = some (.int .i64 c.fr)) (h2 : w.cell? ⟨p, 2, none⟩ = some (.int .i64 c.to)) : Calls Try.prog 86 #[.agg #[.int .i64 s.lo, .int .i64 s.hi], .pointer (some ⟨p, 0, none⟩)] w fun e w' => e = .returned (.bool (inC8w c s)) ∧ Bl w w' := by
  have l := ltb h1
  go_enter Try.func86, Try.ntmps86
  go_wp2
  all_goals (go_ret; exact ⟨ret_boolN (by simp [inC8w]; try omega), by go_grown⟩)
set_option maxHeartbeats 800000 in
theorem stand1_any (x c : Ch) (p : Nat) (w : World) (h0 : w.cell? ⟨p, 0, none⟩ = some (.string c.nm)) : Calls Try.prog 110 #[encC x, .pointer (some ⟨p, 0, none⟩)] w fun e w' => e = .returned (.bool (decide (x.nm = c.nm))) ∧ Bl w w' := by
  have l := ltb h0
  by_cases q : x.nm = c.nm
  · have hE : (x.nm.toList == c.nm.toList) = true := by rw [q]; simp
    have HR := Lib.hid (show decide (x.nm = c.nm) = true from decide_eq_true q)
    clear q
    go_enter Try.func110, Try.ntmps110
    go_wp2
    go_ret
    exact ⟨ret_boolN HR.out.symm, by go_grown⟩
  · have hE := key_neN q
    have HR := Lib.hid (show decide (x.nm = c.nm) = false from decide_eq_false q)
    clear q
    go_enter Try.func110, Try.ntmps110
    go_wp2
    go_ret
    exact ⟨ret_boolN HR.out.symm, by go_grown⟩
set_option maxRecDepth 100000 in
set_option maxHeartbeats 1600000 in
theorem idx_clouds (A : Option Addr) (n c : Nat) (S : Nat → Sp2) (w : World) (hA : Spl w A n S) (hn : n ≤ maxLen) :
    Calls Try.prog 107 #[.slice A n c, .func (.func 103) #[] #[]] w fun e w' => (∃ z : Int, e = .returned (.int .i64 z) ∧ decide (0 ≤ z) = anyTo (fun j => badC (S j)) n) ∧ Bl w w' := by
  have HA := Lib.hid hA
  clear hA
  unfold maxLen at hn
  go_enter Try.func107, Try.ntmps107
  go_wp2_with fail
  go_loopw [8] (fun i wr => ∃ k : Nat, k ≤ n ∧ i = .int .i64 k ∧ Hid (anyTo (fun j => badC (S j)) k = false) ∧ Bl w wr) (fun i _ => n - (RowKit.intOf i).toNat)
  case atStart => exact ⟨0, Nat.zero_le _, rfl, rfl, Bl.rf _⟩
  case round =>
    obtain ⟨k, hk, rfl, HN, hB⟩ := hrel
    by_cases hlt : k < n
    · obtain ⟨b', off, rfl, hbb, hc⟩ := (HA.out.below hB) (by omega)
      obtain ⟨c0, c1⟩ := hc k hlt
      clear hc
      have HT := Lib.hid (fun (q : (fun j => badC (S j)) k = true) => anyTo_at (P := fun j => badC (S j)) hlt q)
      have HF := Lib.hid (fun (q : (fun j => badC (S j)) k = false) => (show anyTo (fun j => badC (S j)) (k + 1) = false by rw [anyTo, HN.out, Bool.false_or]; exact q))
      obtain ⟨y, hy⟩ : ∃ y, y = S k := ⟨_, rfl⟩
      dsimp only at HT HF
      rw [← hy] at c0 c1 HT HF
      clear hy
      cases q : badC (y) with
      | true =>
        have HI := Lib.hid (HT.out q)
        go_wp2_with fail
        refine (cloud1_any y _).mono ?_
        rintro e w1 ⟨rfl, hb⟩
        have B1 := Lib.hid (hB.tr hb)
        clear hb
        rw [q]
        go_wp2_with fail
        go_ret
        exact ⟨⟨_, rfl, by rw [HI.out]; simp⟩, B1.out⟩
      | false =>
        have HI := Lib.hid (HF.out q)
        go_wp2_with fail
        refine (cloud1_any y _).mono ?_
        rintro e w1 ⟨rfl, hb⟩
        have B1 := Lib.hid (hB.tr hb)
        clear hb
        rw [q]
        go_wp2_with fail
        go_roundw
        case rel => exact ⟨k + 1, by omega, by go_num, HI.out, B1.out⟩
        case measure => simp [RowKit.intOf]; omega
    · obtain rfl : k = n := by omega
      go_wp2_with fail
      go_ret
      exact ⟨⟨_, rfl, by rw [HN.out]; rfl⟩, hB⟩
set_option maxRecDepth 100000 in
set_option maxHeartbeats 1600000 in
theorem con_clouds (A : Option Addr) (n c : Nat) (S : Nat → Sp2) (w : World) (hA : Spl w A n S) (hn : n ≤ maxLen) :
    Calls Try.prog 85 #[.slice A n c, .func (.func 103) #[] #[]] w fun e w' => e = .returned (.bool (anyTo (fun j => badC (S j)) n)) ∧ Bl w w' := by
  have HX := Lib.hid (idx_clouds A n c S  w hA hn )
  clear hA
  go_enter Try.func85, Try.ntmps85
  go_wp2_with fail
  refine (HX.out).mono ?_
  rintro e w1 ⟨⟨z, rfl, hz⟩, hb⟩
  go_wp2_with fail
  go_ret
  exact ⟨by first | rfl | exact ret_boolN hz, hb⟩
set_option maxRecDepth 100000 in
set_option maxHeartbeats 1600000 in
theorem idx_clear (A : Option Addr) (n c : Nat) (S : Nat → Sp2) (x : Ch) (p : Nat) (w : World) (hA : Spl w A n S) (hn : n ≤ maxLen) (h1 : w.cell? ⟨p, 1, none⟩ = some (.int .i64 x.fr)) (h2 : w.cell? ⟨p, 2, none⟩ = some (.int .i64 x.to)) :
    Calls Try.prog 107 #[.slice A n c, .func (.func 86) #[] #[.pointer (some ⟨p, 0, none⟩)]] w fun e w' => (∃ z : Int, e = .returned (.int .i64 z) ∧ decide (0 ≤ z) = anyTo (fun j => inC8w x (S j)) n) ∧ Bl w w' := by
  have HA := Lib.hid hA
  clear hA
  unfold maxLen at hn
  go_enter Try.func107, Try.ntmps107
  go_wp2_with fail
  go_loopw [8] (fun i wr => ∃ k : Nat, k ≤ n ∧ i = .int .i64 k ∧ Hid (anyTo (fun j => inC8w x (S j)) k = false) ∧ Bl w wr) (fun i _ => n - (RowKit.intOf i).toNat)
  case atStart => exact ⟨0, Nat.zero_le _, rfl, rfl, Bl.rf _⟩
  case round =>
    obtain ⟨k, hk, rfl, HN, hB⟩ := hrel
    by_cases hlt : k < n
    · obtain ⟨b', off, rfl, hbb, hc⟩ := (HA.out.below hB) (by omega)
      obtain ⟨c0, c1⟩ := hc k hlt
      clear hc
      have HT := Lib.hid (fun (q : (fun j => inC8w x (S j)) k = true) => anyTo_at (P := fun j => inC8w x (S j)) hlt q)
      have HF := Lib.hid (fun (q : (fun j => inC8w x (S j)) k = false) => (show anyTo (fun j => inC8w x (S j)) (k + 1) = false by rw [anyTo, HN.out, Bool.false_or]; exact q))
      obtain ⟨y, hy⟩ : ∃ y, y = S k := ⟨_, rfl⟩
      dsimp only at HT HF
      rw [← hy] at c0 c1 HT HF
      clear hy
      have p1 := kcb hB h1
      have p2 := kcb hB h2
      cases q : inC8w x (y) with
      | true =>
        have HI := Lib.hid (HT.out q)
        go_wp2_with fail
        refine (clear1_any y x p _ p1 p2).mono ?_
        rintro e w1 ⟨rfl, hb⟩
        have B1 := Lib.hid (hB.tr hb)
        clear hb
        rw [q]
        go_wp2_with fail
        go_ret
        exact ⟨⟨_, rfl, by rw [HI.out]; simp⟩, B1.out⟩
      | false =>
        have HI := Lib.hid (HF.out q)
        go_wp2_with fail
        refine (clear1_any y x p _ p1 p2).mono ?_
        rintro e w1 ⟨rfl, hb⟩
        have B1 := Lib.hid (hB.tr hb)
        clear hb
        rw [q]
        go_wp2_with fail
        go_roundw
        case rel => exact ⟨k + 1, by omega, by go_num, HI.out, B1.out⟩
        case measure => simp [RowKit.intOf]; omega
    · obtain rfl : k = n := by omega
      go_wp2_with fail
      go_ret
      exact ⟨⟨_, rfl, by rw [HN.out]; rfl⟩, hB⟩
set_option maxRecDepth 100000 in
set_option maxHeartbeats 1600000 in
theorem con_clear (A : Option Addr) (n c : Nat) (S : Nat → Sp2) (x : Ch) (p : Nat) (w : World) (hA : Spl w A n S) (hn : n ≤ maxLen) (h1 : w.cell? ⟨p, 1, none⟩ = some (.int .i64 x.fr)) (h2 : w.cell? ⟨p, 2, none⟩ = some (.int .i64 x.to)) :
    Calls Try.prog 85 #[.slice A n c, .func (.func 86) #[] #[.pointer (some ⟨p, 0, none⟩)]] w fun e w' => e = .returned (.bool (anyTo (fun j => inC8w x (S j)) n)) ∧ Bl w w' := by
  have HX := Lib.hid (idx_clear A n c S x p w hA hn h1 h2)
  clear hA
  go_enter Try.func85, Try.ntmps85
  go_wp2_with fail
  refine (HX.out).mono ?_
  rintro e w1 ⟨⟨z, rfl, hz⟩, hb⟩
  go_wp2_with fail
  go_ret
  exact ⟨by first | rfl | exact ret_boolN hz, hb⟩
set_option maxRecDepth 100000 in
set_option maxHeartbeats 1600000 in
theorem idx_stand (A : Option Addr) (n c : Nat) (S : Nat → Ch) (x : Ch) (p : Nat) (w : World) (hA : Chl w A n S) (hn : n ≤ maxLen) (h0 : w.cell? ⟨p, 0, none⟩ = some (.string x.nm)) :
    Calls Try.prog 133 #[.slice A n c, .func (.func 110) #[] #[.pointer (some ⟨p, 0, none⟩)]] w fun e w' => (∃ z : Int, e = .returned (.int .i64 z) ∧ decide (0 ≤ z) = anyTo (fun j => decide ((S j).nm = x.nm)) n) ∧ Bl w w' := by
  have HA := Lib.hid hA
  clear hA
  unfold maxLen at hn
  go_enter Try.func133, Try.ntmps133
  go_wp2_with fail
  go_loopw [8] (fun i wr => ∃ k : Nat, k ≤ n ∧ i = .int .i64 k ∧ Hid (anyTo (fun j => decide ((S j).nm = x.nm)) k = false) ∧ Bl w wr) (fun i _ => n - (RowKit.intOf i).toNat)
  case atStart => exact ⟨0, Nat.zero_le _, rfl, rfl, Bl.rf _⟩
  case round =>
    obtain ⟨k, hk, rfl, HN, hB⟩ := hrel
    by_cases hlt : k < n
    · obtain ⟨b', off, rfl, hbb, hc⟩ := (HA.out.below hB) (by omega)
      obtain ⟨c0, c1, c2, c3, c4⟩ := hc k hlt
      clear hc
      have HT := Lib.hid (fun (q : (fun j => decide ((S j).nm = x.nm)) k = true) => anyTo_at (P := fun j => decide ((S j).nm = x.nm)) hlt q)
      have HF := Lib.hid (fun (q : (fun j => decide ((S j).nm = x.nm)) k = false) => (show anyTo (fun j => decide ((S j).nm = x.nm)) (k + 1) = false by rw [anyTo, HN.out, Bool.false_or]; exact q))
      obtain ⟨y, hy⟩ : ∃ y, y = S k := ⟨_, rfl⟩
      dsimp only at HT HF
      rw [← hy] at c0 c1 c2 c3 c4 HT HF
      clear hy
      have p0 := kcb hB h0
      cases q : decide ((y).nm = x.nm) with
      | true =>
        have HI := Lib.hid (HT.out q)
        go_wp2_with fail
        refine (stand1_any y x p _ p0).mono ?_
        rintro e w1 ⟨rfl, hb⟩
        have B1 := Lib.hid (hB.tr hb)
        clear hb
        rw [q]
        go_wp2_with fail
        go_ret
        exact ⟨⟨_, rfl, by rw [HI.out]; simp⟩, B1.out⟩
      | false =>
        have HI := Lib.hid (HF.out q)
        go_wp2_with fail
        refine (stand1_any y x p _ p0).mono ?_
        rintro e w1 ⟨rfl, hb⟩
        have B1 := Lib.hid (hB.tr hb)
        clear hb
        rw [q]
        go_wp2_with fail
        go_roundw
        case rel => exact ⟨k + 1, by omega, by go_num, HI.out, B1.out⟩
        case measure => simp [RowKit.intOf]; omega
    · obtain rfl : k = n := by omega
      go_wp2_with fail
      go_ret
      exact ⟨⟨_, rfl, by rw [HN.out]; rfl⟩, hB⟩
set_option maxRecDepth 100000 in
set_option maxHeartbeats 1600000 in
theorem con_stand (A : Option Addr) (n c : Nat) (S : Nat → Ch) (x : Ch) (p : Nat) (w : World) (hA : Chl w A n S) (hn : n ≤ maxLen) (h0 : w.cell? ⟨p, 0, none⟩ = some (.string x.nm)) :
    Calls Try.prog 109 #[.slice A n c, .func (.func 110) #[] #[.pointer (some ⟨p, 0, none⟩)]] w fun e w' => e = .returned (.bool (anyTo (fun j => decide ((S j).nm = x.nm)) n)) ∧ Bl w w' := by
  have HX := Lib.hid (idx_stand A n c S x p w hA hn h0)
  clear hA
  go_enter Try.func109, Try.ntmps109
  go_wp2_with fail
  refine (HX.out).mono ?_
  rintro e w1 ⟨⟨z, rfl, hz⟩, hb⟩
  go_wp2_with fail
  go_ret
  exact ⟨by first | rfl | exact ret_boolN hz, hb⟩
def cldB (S : Nat → Sp2) (n : Nat) : Bool := decide (n ≤ 50) && !anyTo (fun j => badC (S j)) n
set_option maxRecDepth 100000 in
set_option maxHeartbeats 1600000 in
theorem areClouds_any (A : Option Addr) (n c : Nat) (S : Nat → Sp2) (w : World) (hA : Spl w A n S) (hn : n ≤ maxLen) : Calls Try.prog 70 #[.slice A n c] w fun e w' => e = .returned (.bool (cldB S n)) ∧ Bl w w' := by
  have HX := Lib.hid (fun (X : World) (hb : Bl w X) => con_clouds A n c S X (hA.below hb) hn)
  clear hA
  unfold maxLen at hn
  by_cases h : 50 < n
  · have HR := Lib.hid (show cldB S n = false by simp [cldB]; omega)
    go_enter Try.func70, Try.ntmps70
    go_wp2_with fail
    go_ret
    exact ⟨ret_boolN HR.out.symm, Bl.rf _⟩
  · have HR := Lib.hid (show cldB S n = !anyTo (fun j => badC (S j)) n by unfold cldB; rw [decide_eq_true (show n ≤ 50 by omega), Bool.true_and])
    go_enter Try.func70, Try.ntmps70
    go_wp2_with fail
    refine (HX.out _ (by first | exact Bl.rf _ | go_grown)).mono ?_
    rintro e1 w1 ⟨rfl, hb⟩
    go_wp2_with fail
    go_ret
    exact ⟨ret_boolN HR.out.symm, by first | exact hb | exact Bl.tr (by go_grown) hb⟩
def clrB (S : Nat → Sp2) (n : Nat) (x : Ch) : Bool := !anyTo (fun j => inC8w x (S j)) n
set_option maxRecDepth 100000 in
set_option maxHeartbeats 1600000 in
theorem isClear_any (x : Ch) (A : Option Addr) (n c : Nat) (S : Nat → Sp2) (w : World) (hA : Spl w A n S) (hn : n ≤ maxLen) : Calls Try.prog 44 #[encC x, .slice A n c] w fun e w' => e = .returned (.bool (clrB S n x)) ∧ Bl w w' := by
  have HX := Lib.hid (fun (X : World) (hb : Bl w X) => con_clear A n c S x w.heap.size X (hA.below hb) hn)
  clear hA
  have HR := Lib.hid (show clrB S n x = !anyTo (fun j => inC8w x (S j)) n from rfl)
  go_enter Try.func44, Try.ntmps44
  go_wp2_with fail
  refine (HX.out _ (by go_grown) (by go_cell) (by go_cell)).mono ?_
  rintro e1 w1 ⟨rfl, hb⟩
  go_wp2_with fail
  go_ret
  exact ⟨ret_boolN HR.out.symm, Bl.tr (by go_grown) hb⟩
end Go.Proofs.Ytbmenpfpeadckaa
