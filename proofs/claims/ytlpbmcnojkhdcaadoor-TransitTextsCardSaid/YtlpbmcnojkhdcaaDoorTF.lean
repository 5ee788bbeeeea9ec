/-
  Contracts of package transit and of its reference: crossings and differences.
-/
import Derived.Test.YtlpbmcnojkhdcaaDoorTE
import Derived.BigQuiet
import Derived.Deep.QuietTactic
namespace Go.Proofs.YtlpbmcnojkhdcaaDoor
open Go.RowKit
set_option linter.unusedSimpArgs false
set_option linter.unusedVariables false

def smK (f g : Nat → Int) (l : Int) : Nat → Int
  | 0 => 0
  | k + 1 => smK f g l k + (if g k = -1 then 0 else 1000 * g k - f k * l)
def cnK (g : Nat → Int) : Nat → Nat
  | 0 => 0
  | k + 1 => cnK g k + (if g k = -1 then 0 else 1)
theorem cnK_le (g : Nat → Int) (k : Nat) : cnK g k ≤ k := by
  induction k with
  | zero => exact Nat.le_refl _
  | succ k ih => simp only [cnK]; split <;> omega
theorem wl_bd {x l : Int} (h1 : -100000 ≤ x) (h2 : x ≤ 100000) (h3 : 1000 ≤ l) (h4 : l ≤ 10000) : -1000000000 ≤ x * l ∧ x * l ≤ 1000000000 := by
  have : (x * l).natAbs ≤ 100000 * 10000 := by rw [Int.natAbs_mul]; exact Nat.mul_le_mul (by omega) (by omega)
  omega
theorem smK_bd (f g : Nat → Int) (l : Int) (m : Nat) (h3 : 1000 ≤ l) (h4 : l ≤ 10000) (hf : ∀ k, k < m → -100000 ≤ f k ∧ f k ≤ 100000) (hg : ∀ k, k < m → -1 ≤ g k ∧ g k ≤ 86399999) (k : Nat) (hk : k ≤ m) : -100000000000 * (k : Int) ≤ smK f g l k ∧ smK f g l k ≤ 100000000000 * (k : Int) := by
  induction k with
  | zero => simp [smK]
  | succ k ih =>
    have i1 := ih (by omega)
    have i2 := hf k (by omega)
    have i3 := hg k (by omega)
    have i4 := wl_bd i2.1 i2.2 h3 h4
    simp only [smK]
    split <;> constructor <;> omega
/-- A crossing, or its error. -/
def crossF (n : Nat) (f : Nat → Int) (e : Int) (s : ByteArray) (a h l : Int) (m : Nat) (g : Nat → Int) : Int × Int :=
  if fitB n f e s a h l m g = true then (if cnK g m = 0 then (0, 8) else (smK f g l m / (1000 * (cnK g m : Int)), 0)) else (0, 1)
/-- A difference, or its error. -/
def diffF (n : Nat) (f : Nat → Int) (e : Int) (s : ByteArray) (a h l : Int) (m : Nat) (g : Nat → Int) : Int × Int :=
  if (crossF n f e s a h l m g).2 = 0 then (fold3 (a - (crossF n f e s a h l m g).1), 0) else (0, (crossF n f e s a h l m g).2)
structure FitsIt (n : Nat) (f : Nat → Int) (e : Int) (s : ByteArray) (a h l : Int) (m : Nat) (g : Nat → Int) : Prop where
  mn : m = n
  n7 : n ≤ 7
  n1 : 1 ≤ n
  lo : 1000 ≤ l
  hi : l ≤ 10000
  alo : 0 ≤ a
  ahi : a ≤ 86399999
  hlo : -10000 ≤ h
  hhi : h ≤ 10000
  elo : 0 ≤ e
  ehi : e ≤ 10000
  fb : ∀ k, k < m → -100000 ≤ f k ∧ f k ≤ 100000
  gb : ∀ k, k < m → -1 ≤ g k ∧ g k ≤ 86399999
theorem fitsIt {n : Nat} {f : Nat → Int} {e : Int} {s : ByteArray} {a h l : Int} {m : Nat} {g : Nat → Int} (q : fitB n f e s a h l m g = true) : FitsIt n f e s a h l m g := by
  simp only [fitB, tuB, stB, Bool.and_eq_true, decide_eq_true_eq, inB_iff] at q
  obtain ⟨⟨⟨⟨⟨⟨q1, q2⟩, q3⟩, q4⟩, ⟨⟨q5, q6⟩, q7⟩, q8⟩, q9⟩, q10⟩ := q
  subst q9
  exact ⟨rfl, q2, q1, q8.1, q8.2, q6.1, q6.2, q7.1, q7.2, q3.1, q3.2, fun k hk => tuTo_at q4 hk, fun k hk => tmTo_at q10 hk⟩
theorem cross_bd {n : Nat} {f : Nat → Int} {e : Int} {s : ByteArray} {a h l : Int} {m : Nat} {g : Nat → Int} : -800000000000 ≤ (crossF n f e s a h l m g).1 ∧ (crossF n f e s a h l m g).1 ≤ 800000000000 := by
  unfold crossF
  split
  · rename_i q
    have F := fitsIt q
    have b := smK_bd f g l m F.lo F.hi F.fb F.gb m (Nat.le_refl _)
    have h7 := F.n7
    have hm := F.mn
    split
    · simp
    · rename_i z
      have hd : (0 : Int) < 1000 * (cnK g m : Int) := by omega
      have b1 := Int.ediv_le_self (1000 * (cnK g m : Int)) (a := smK f g l m)
      have l1 : -800000000000 ≤ smK f g l m / (1000 * (cnK g m : Int)) := by
        rw [Int.le_ediv_iff_mul_le hd]
        have : 1000 * (cnK g m : Int) * 1 ≤ 1000 * (cnK g m : Int) := by omega
        have h1 : (-800000000000 : Int) * (1000 * (cnK g m : Int)) ≤ -800000000000 := by omega
        omega
      have l2 : smK f g l m / (1000 * (cnK g m : Int)) ≤ 800000000000 := by
        have : smK f g l m / (1000 * (cnK g m : Int)) < 800000000001 := by
          rw [Int.ediv_lt_iff_lt_mul hd]
          omega
        omega
      exact ⟨l1, l2⟩
  · simp
theorem Bl.dq (w : World) (n : Nat) : Bl w (w.drewN n) := ⟨rfl, rfl, rfl, Nat.le_refl _, fun _ _ => rfl⟩

set_option maxHeartbeats 1600000 in
theorem cross_any (A : Option Addr) (n c : Nat) (f : Nat → Int) (e : Int) (s : ByteArray) (a h l : Int) (B : Option Addr) (m d : Nat) (g : Nat → Int) (w : World) (hn : n ≤ maxLen) (hm : m ≤ maxLen) (hs : s.size ≤ maxLen) (hA : Sl w A n f) (hB : Sl w B m g) :
    Calls Tryd.prog 10 #[.agg #[.slice A n c, .int .i64 e], .agg #[.string s, .int .i64 a, .int .i64 h, .int .i64 l, .slice B m d]] w fun e' w' => e' = .returned (rI (crossF n f e s a h l m g)) ∧ Bl w w' := by
  have HM := Lib.hid hm
  have HNN := Lib.hid hn
  have HS := Lib.hid hs
  have HA := Lib.hid hA
  have HB := Lib.hid hB
  clear hA hB hs hm hn
  by_cases q : fitB n f e s a h l m g = true
  · have HF := Lib.hid q
    have F := fitsIt q
    have HC := Lib.hid (show crossF n f e s a h l m g = (if cnK g m = 0 then (0, 8) else (smK f g l m / (1000 * (cnK g m : Int)), 0)) by rw [crossF, if_pos q])
    clear q
    obtain ⟨mn, n7, n1, l1, l2, a1, a2, h1, h2, e1, e2, fb, gb⟩ := F
    have SB := Lib.hid (smK_bd f g l m l1 l2 fb gb)
    have FB := Lib.hid fb
    have GB := Lib.hid gb
    have nm1 : n ≤ m := by omega
    have nm2 : m ≤ n := by omega
    clear fb gb mn
    go_enter Tryd.func10, Tryd.ntmps10
    go_wp2_with fail
    refine (fits_any A n c f e s a h l B m d g _ HNN.out HM.out HS.out (HA.out.below (by go_grown)) (HB.out.below (by go_grown))).mono ?_
    rintro e1 w1 ⟨rfl, hb⟩
    have x0 := kc hb (b := w.heap.size) (o := 0) (v := .slice A n c) (by go_cell)
    have x1 := kc hb (b := w.heap.size) (o := 1) (v := .int .i64 e) (by go_cell)
    have x2 := kc hb (b := w.heap.size + 1) (o := 0) (v := .string s) (by go_cell)
    have x3 := kc hb (b := w.heap.size + 1) (o := 1) (v := .int .i64 a) (by go_cell)
    have x4 := kc hb (b := w.heap.size + 1) (o := 2) (v := .int .i64 h) (by go_cell)
    have x5 := kc hb (b := w.heap.size + 1) (o := 3) (v := .int .i64 l) (by go_cell)
    have x6 := kc hb (b := w.heap.size + 1) (o := 4) (v := .slice B m d) (by go_cell)
    have B1 : Bl w w1 := Below.trans (by go_grown) (hb.mono (by (try simp only [World.size_alloc, World.size_setCell, World.size_drew]); omega))
    have z1 := B1.size
    clear hb
    rw [HF.out]
    go_wp2_with fail
    have HA1 := Lib.hid (show Sl w1 A n f from HA.out.below B1)
    have HB1 := Lib.hid (show Sl w1 B m g from HB.out.below B1)
    go_loopw [6, 7, 17] (fun sm tk i wr => ∃ k N : Nat, k ≤ m ∧ i = .int .i64 k ∧ sm = .int .i64 (smK f g l k) ∧ tk = .int .i64 (cnK g k : Nat) ∧ wr = w1.drewN N) (fun _ _ i _ => m - (intOf i).toNat)
    case atStart => exact ⟨0, 0, Nat.zero_le _, rfl, rfl, rfl, rfl⟩
    case round =>
      obtain ⟨k, N, hk, rfl, rfl, rfl, rfl⟩ := hrel
      have cb := cnK_le g k
      by_cases hlt : k < m
      · obtain ⟨b, off, eB, hbb, hc⟩ := HB1.out (by omega)
        obtain ⟨b', off', eA, hbb', hc'⟩ := HA1.out (by omega)
        subst eA eB
        have c1 := hc k hlt
        have c2 := hc' k (by omega)
        clear hc hc'
        obtain ⟨f1, f2⟩ := FB.out k hlt
        obtain ⟨g1, g2⟩ := GB.out k hlt
        obtain ⟨p1, p2⟩ := wl_bd f1 f2 l1 l2
        obtain ⟨s1, s2⟩ := SB.out k hk
        by_cases q : g k = -1
        · have S1 := Lib.hid (show smK f g l (k + 1) = smK f g l k by simp [smK, q])
          have C1 := Lib.hid (show cnK g (k + 1) = cnK g k by simp [cnK, q])
          have q1 : (g k != -1) = false := by simp [q]
          clear q
          go_wp2_with fail
          go_roundw
          case rel => exact ⟨k + 1, N, by omega, by go_num, by rw [S1.out], by rw [C1.out], rfl⟩
          case measure => simp [intOf]; omega
        · have S1 := Lib.hid (show smK f g l (k + 1) = smK f g l k + (1000 * g k - f k * l) by simp [smK, q])
          have C1 := Lib.hid (show cnK g (k + 1) = cnK g k + 1 by simp [cnK, q])
          have q1 : (g k != -1) = true := by simp [q]
          clear q
          have e1 : IntKind.i64.wrap (1000 * g k) = 1000 * g k := IntWalk.i64_in _ (by omega)
          have e2 : IntKind.i64.wrap (f k * l) = f k * l := IntWalk.i64_in _ (by omega)
          have e3 : IntKind.i64.wrap (1000 * g k - f k * l) = 1000 * g k - f k * l := IntWalk.i64_in _ (by omega)
          have e4 : IntKind.i64.wrap (smK f g l k + (1000 * g k - f k * l)) = smK f g l k + (1000 * g k - f k * l) := IntWalk.i64_in _ (by omega)
          go_wp2_with fail
          go_quiet (fail)
          clear e1 e2 e3 e4
          go_wp2_with fail
          go_roundw
          case rel => exact ⟨k + 1, _, by omega, by go_num, by rw [S1.out], by rw [C1.out]; go_num, rfl⟩
          case measure => simp [intOf]; omega
      · obtain rfl : m = k := by omega
        obtain ⟨s1, s2⟩ := SB.out m (Nat.le_refl _)
        by_cases q : cnK g m = 0
        · have HC2 := Lib.hid (show crossF n f e s a h l m g = (0, 8) by rw [HC.out, if_pos q])
          have q1 : ((cnK g m : Int) == 0) = true := by simp [q]
          clear q
          go_wp2_with fail
          go_ret2
          exact ⟨by rw [HC2.out]; rfl, B1.tr (Bl.dq _ _)⟩
        · have HC2 := Lib.hid (show crossF n f e s a h l m g = (smK f g l m / (1000 * (cnK g m : Int)), 0) by rw [HC.out, if_neg q])
          have q1 : ((cnK g m : Int) == 0) = false := by simp; omega
          have q2 : 0 < (cnK g m : Int) := by omega
          clear q
          go_wp2_with fail
          refine (quoDown_any _ _ _ (by omega) (by omega) (by omega) (by omega)).mono ?_
          rintro e2 w2 ⟨rfl, rfl⟩
          go_wp2_with fail
          go_ret2
          exact ⟨by rw [HC2.out]; rfl, B1.tr (Bl.dq _ _)⟩
  · have HF := Lib.hid (show fitB n f e s a h l m g = false by simpa using q)
    have HC := Lib.hid (show crossF n f e s a h l m g = (0, 1) by rw [crossF, if_neg q])
    clear q
    go_enter Tryd.func10, Tryd.ntmps10
    go_wp2_with fail
    refine (fits_any A n c f e s a h l B m d g _ HNN.out HM.out HS.out (HA.out.below (by go_grown)) (HB.out.below (by go_grown))).mono ?_
    rintro e1 w1 ⟨rfl, hb⟩
    have x0 := kc hb (b := w.heap.size) (o := 0) (v := .slice A n c) (by go_cell)
    have x1 := kc hb (b := w.heap.size) (o := 1) (v := .int .i64 e) (by go_cell)
    have x2 := kc hb (b := w.heap.size + 1) (o := 0) (v := .string s) (by go_cell)
    have x3 := kc hb (b := w.heap.size + 1) (o := 1) (v := .int .i64 a) (by go_cell)
    have x4 := kc hb (b := w.heap.size + 1) (o := 2) (v := .int .i64 h) (by go_cell)
    have x5 := kc hb (b := w.heap.size + 1) (o := 3) (v := .int .i64 l) (by go_cell)
    have x6 := kc hb (b := w.heap.size + 1) (o := 4) (v := .slice B m d) (by go_cell)
    have B1 : Bl w w1 := Below.trans (by go_grown) (hb.mono (by (try simp only [World.size_alloc, World.size_setCell, World.size_drew]); omega))
    have z1 := B1.size
    clear hb
    rw [HF.out]
    go_wp2_with fail
    go_ret2
    exact ⟨by rw [HC.out]; rfl, by go_grown⟩
