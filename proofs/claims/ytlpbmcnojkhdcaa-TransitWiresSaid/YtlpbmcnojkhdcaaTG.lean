/-
  Contracts of package transit and of its reference: differences; the law's wide and awake.
-/
import Derived.Test.YtlpbmcnojkhdcaaTF
namespace Go.Proofs.Ytlpbmcnojkhdcaa
open Go.RowKit
set_option linter.unusedSimpArgs false
set_option linter.unusedVariables false

theorem cross_ok {n : Nat} {f : Nat → Int} {e : Int} {s : ByteArray} {a h l : Int} {m : Nat} {g : Nat → Int} (q : (crossF n f e s a h l m g).2 = 0) : 0 ≤ a ∧ a ≤ 86399999 := by
  unfold crossF at q
  by_cases hf : fitB n f e s a h l m g = true
  · have F := fitsIt hf
    exact ⟨F.alo, F.ahi⟩
  · rw [if_neg hf] at q
    simp at q

set_option maxHeartbeats 1600000 in
theorem diff_any (A : Option Addr) (n c : Nat) (f : Nat → Int) (e : Int) (s : ByteArray) (a h l : Int) (B : Option Addr) (m d : Nat) (g : Nat → Int) (w : World) (hn : n ≤ maxLen) (hm : m ≤ maxLen) (hs : s.size ≤ maxLen) (hA : Sl w A n f) (hB : Sl w B m g) :
    Calls Try.prog 16 #[.agg #[.slice A n c, .int .i64 e], .agg #[.string s, .int .i64 a, .int .i64 h, .int .i64 l, .slice B m d]] w fun e' w' => e' = .returned (rI (diffF n f e s a h l m g)) ∧ Bl w w' := by
  have HM := Lib.hid hm
  have HNN := Lib.hid hn
  have HS := Lib.hid hs
  have HA := Lib.hid hA
  have HB := Lib.hid hB
  clear hA hB hs hm hn
  obtain ⟨r1, r2, hr⟩ : ∃ r1 r2, crossF n f e s a h l m g = (r1, r2) := ⟨_, _, rfl⟩
  have CB := cross_bd (n := n) (f := f) (e := e) (s := s) (a := a) (h := h) (l := l) (m := m) (g := g)
  have CA := cross_ok (n := n) (f := f) (e := e) (s := s) (a := a) (h := h) (l := l) (m := m) (g := g)
  have HD := Lib.hid (show diffF n f e s a h l m g = if r2 = 0 then (fold3 (a - r1), 0) else (0, r2) by rw [diffF, hr])
  rw [hr] at CB CA
  obtain ⟨cb1, cb2⟩ := CB
  have CA2 := Lib.hid CA
  clear CA
  dsimp only at cb1 cb2
  have HR := Lib.hid hr
  clear hr
  by_cases q : r2 = 0
  · obtain ⟨a1, a2⟩ := CA2.out q
    have HD2 := Lib.hid (show diffF n f e s a h l m g = (fold3 (a - r1), 0) by rw [HD.out, if_pos q])
    subst q
    go_enter Try.func16, Try.ntmps16
    go_wp2_with fail
    refine (cross_any A n c f e s a h l B m d g _ HNN.out HM.out HS.out (HA.out.below (by go_grown)) (HB.out.below (by go_grown))).mono ?_
    rintro e1 w1 ⟨rfl, hb⟩
    have x0 := kc hb (b := w.heap.size) (o := 0) (v := .slice A n c) (by go_cell)
    have x1 := kc hb (b := w.heap.size) (o := 1) (v := .int .i64 e) (by go_cell)
    have x2 := kc hb (b := w.heap.size + 1) (o := 0) (v := .string s) (by go_cell)
    have x3 := kc hb (b := w.heap.size + 1) (o := 1) (v := .int .i64 a) (by go_cell)
    have x4 := kc hb (b := w.heap.size + 1) (o := 2) (v := .int .i64 h) (by go_cell)
    have x5 := kc hb (b := w.heap.size + 1) (o := 3) (v := .int .i64 l) (by go_cell)
    have x6 := kc hb (b := w.heap.size + 1) (o := 4) (v := .slice B m d) (by go_cell)
    have B1 : Bl w w1 := Below.trans (by go_grown) (hb.mono (by (try simp only [World.size_alloc, World.size_setCell, World.size_drew]); omega))
    have z1 := B1.size
    clear hb
    rw [HR.out]
    unfold rI
    go_wp2_with fail
    refine (folded_any _ _).mono ?_
    rintro e2 w2 ⟨rfl, rfl⟩
    rw [show foldF (a - r1) = (fold3 (a - r1), 0) by rw [foldF, if_pos ⟨by omega, by omega⟩]]
    unfold rI
    go_wp2_with fail
    go_ret2
    exact ⟨by rw [HD2.out]; rfl, by go_grown⟩
  · have HD2 := Lib.hid (show diffF n f e s a h l m g = (0, r2) by rw [HD.out, if_neg q])
    have q1 : (r2 != 0) = true := by simpa using q
    clear q
    go_enter Try.func16, Try.ntmps16
    go_wp2_with fail
    refine (cross_any A n c f e s a h l B m d g _ HNN.out HM.out HS.out (HA.out.below (by go_grown)) (HB.out.below (by go_grown))).mono ?_
    rintro e1 w1 ⟨rfl, hb⟩
    have x0 := kc hb (b := w.heap.size) (o := 0) (v := .slice A n c) (by go_cell)
    have x1 := kc hb (b := w.heap.size) (o := 1) (v := .int .i64 e) (by go_cell)
    have x2 := kc hb (b := w.heap.size + 1) (o := 0) (v := .string s) (by go_cell)
    have x3 := kc hb (b := w.heap.size + 1) (o := 1) (v := .int .i64 a) (by go_cell)
    have x4 := kc hb (b := w.heap.size + 1) (o := 2) (v := .int .i64 h) (by go_cell)
    have x5 := kc hb (b := w.heap.size + 1) (o := 3) (v := .int .i64 l) (by go_cell)
    have x6 := kc hb (b := w.heap.size + 1) (o := 4) (v := .slice B m d) (by go_cell)
    have B1 : Bl w w1 := Below.trans (by go_grown) (hb.mono (by (try simp only [World.size_alloc, World.size_setCell, World.size_drew]); omega))
    have z1 := B1.size
    clear hb
    rw [HR.out]
    unfold rI
    go_wp2_with fail
    go_ret2
    exact ⟨by rw [HD2.out]; rfl, by go_grown⟩

set_option maxHeartbeats 1600000 in
theorem rdiff_any (A : Option Addr) (n c : Nat) (f : Nat → Int) (e : Int) (s : ByteArray) (a h l : Int) (B : Option Addr) (m d : Nat) (g : Nat → Int) (w : World) (hn : n ≤ maxLen) (hm : m ≤ maxLen) (hs : s.size ≤ maxLen) (hA : Sl w A n f) (hB : Sl w B m g) :
    Calls Try.prog 17 #[.agg #[.slice A n c, .int .i64 e], .agg #[.string s, .int .i64 a, .int .i64 h, .int .i64 l, .slice B m d]] w fun e' w' => e' = .returned (rI (diffF n f e s a h l m g)) ∧ Bl w w' := by
  have HM := Lib.hid hm
  have HNN := Lib.hid hn
  have HS := Lib.hid hs
  have HA := Lib.hid hA
  have HB := Lib.hid hB
  clear hA hB hs hm hn
  obtain ⟨r1, r2, hr⟩ : ∃ r1 r2, crossF n f e s a h l m g = (r1, r2) := ⟨_, _, rfl⟩
  have CB := cross_bd (n := n) (f := f) (e := e) (s := s) (a := a) (h := h) (l := l) (m := m) (g := g)
  have CA := cross_ok (n := n) (f := f) (e := e) (s := s) (a := a) (h := h) (l := l) (m := m) (g := g)
  have HD := Lib.hid (show diffF n f e s a h l m g = if r2 = 0 then (fold3 (a - r1), 0) else (0, r2) by rw [diffF, hr])
  rw [hr] at CB CA
  obtain ⟨cb1, cb2⟩ := CB
  have CA2 := Lib.hid CA
  clear CA
  dsimp only at cb1 cb2
  have HR := Lib.hid hr
  clear hr
  by_cases q : r2 = 0
  · obtain ⟨a1, a2⟩ := CA2.out q
    have HD2 := Lib.hid (show diffF n f e s a h l m g = (fold3 (a - r1), 0) by rw [HD.out, if_pos q])
    subst q
    go_enter Try.func17, Try.ntmps17
    go_wp2_with fail
    refine (rcross_any A n c f e s a h l B m d g _ HNN.out HM.out HS.out (HA.out.below (by go_grown)) (HB.out.below (by go_grown))).mono ?_
    rintro e1 w1 ⟨rfl, hb⟩
    have x0 := kc hb (b := w.heap.size) (o := 0) (v := .slice A n c) (by go_cell)
    have x1 := kc hb (b := w.heap.size) (o := 1) (v := .int .i64 e) (by go_cell)
    have x2 := kc hb (b := w.heap.size + 1) (o := 0) (v := .string s) (by go_cell)
    have x3 := kc hb (b := w.heap.size + 1) (o := 1) (v := .int .i64 a) (by go_cell)
    have x4 := kc hb (b := w.heap.size + 1) (o := 2) (v := .int .i64 h) (by go_cell)
    have x5 := kc hb (b := w.heap.size + 1) (o := 3) (v := .int .i64 l) (by go_cell)
    have x6 := kc hb (b := w.heap.size + 1) (o := 4) (v := .slice B m d) (by go_cell)
    have B1 : Bl w w1 := Below.trans (by go_grown) (hb.mono (by (try simp only [World.size_alloc, World.size_setCell, World.size_drew]); omega))
    have z1 := B1.size
    clear hb
    rw [HR.out]
    unfold rI
    go_wp2_with fail
    refine (rfold_any _ _ (by omega) (by omega)).mono ?_
    rintro e2 w2 ⟨rfl, rfl⟩
    go_wp2_with fail
    go_ret2
    exact ⟨by rw [HD2.out]; rfl, by go_grown⟩
  · have HD2 := Lib.hid (show diffF n f e s a h l m g = (0, r2) by rw [HD.out, if_neg q])
    have q1 : (r2 != 0) = true := by simpa using q
    clear q
    go_enter Try.func17, Try.ntmps17
    go_wp2_with fail
    refine (rcross_any A n c f e s a h l B m d g _ HNN.out HM.out HS.out (HA.out.below (by go_grown)) (HB.out.below (by go_grown))).mono ?_
    rintro e1 w1 ⟨rfl, hb⟩
    have x0 := kc hb (b := w.heap.size) (o := 0) (v := .slice A n c) (by go_cell)
    have x1 := kc hb (b := w.heap.size) (o := 1) (v := .int .i64 e) (by go_cell)
    have x2 := kc hb (b := w.heap.size + 1) (o := 0) (v := .string s) (by go_cell)
    have x3 := kc hb (b := w.heap.size + 1) (o := 1) (v := .int .i64 a) (by go_cell)
    have x4 := kc hb (b := w.heap.size + 1) (o := 2) (v := .int .i64 h) (by go_cell)
    have x5 := kc hb (b := w.heap.size + 1) (o := 3) (v := .int .i64 l) (by go_cell)
    have x6 := kc hb (b := w.heap.size + 1) (o := 4) (v := .slice B m d) (by go_cell)
    have B1 : Bl w w1 := Below.trans (by go_grown) (hb.mono (by (try simp only [World.size_alloc, World.size_setCell, World.size_drew]); omega))
    have z1 := B1.size
    clear hb
    rw [HR.out]
    unfold rI
    go_wp2_with fail
    go_ret2
    exact ⟨by rw [HD2.out]; rfl, by go_grown⟩

/-- What a transit reads as. -/
structure Tra where
  s : ByteArray
  a : Int
  h : Int
  l : Int
  B : Option Addr
  m : Nat
  d : Nat
/-- A slice of transits reads as a function. -/
def Tl (w : World) (A : Option Addr) (n : Nat) (T : Nat → Tra) : Prop :=
  0 < n → ∃ b off, A = some ⟨b, off, none⟩ ∧ b < w.heap.size ∧ ∀ j, j < n →
    w.cell? ⟨b, off + j * 5, none⟩ = some (.string (T j).s) ∧ w.cell? ⟨b, off + j * 5 + 1, none⟩ = some (.int .i64 (T j).a) ∧ w.cell? ⟨b, off + j * 5 + 2, none⟩ = some (.int .i64 (T j).h) ∧
    w.cell? ⟨b, off + j * 5 + 3, none⟩ = some (.int .i64 (T j).l) ∧ w.cell? ⟨b, off + j * 5 + 4, none⟩ = some (.slice (T j).B (T j).m (T j).d)
theorem Tl.keep {w w' : World} {A : Option Addr} {n : Nat} {T : Nat → Tra} (h : Tl w A n T) (hs : w.heap.size ≤ w'.heap.size) (hk : ∀ p : Addr, p.block < w.heap.size → w'.cell? p = w.cell? p) : Tl w' A n T := fun hn => by
  obtain ⟨b, off, e, hb, hc⟩ := h hn
  exact ⟨b, off, e, Nat.lt_of_lt_of_le hb hs, fun j hj => by
    obtain ⟨c0, c1, c2, c3, c4⟩ := hc j hj
    exact ⟨(hk _ hb).trans c0, (hk _ hb).trans c1, (hk _ hb).trans c2, (hk _ hb).trans c3, (hk _ hb).trans c4⟩⟩
theorem Tl.below {w w' : World} {A : Option Addr} {n : Nat} {T : Nat → Tra} (h : Tl w A n T) (hb : Bl w w') : Tl w' A n T := h.keep hb.size fun _ hp => hb.cell hp
/-- A bool. -/
def SomeB (w : World) (e : Ending) (w' : World) : Prop := ∃ v : Bool, e = .returned (.bool v) ∧ Bl w w'

set_option maxHeartbeats 1600000 in
theorem wide_any (A : Option Addr) (n c : Nat) (e : Int) (L : Option Addr) (k d : Nat) (T : Nat → Tra) (w : World) (hn : n ≤ maxLen) (hk : k ≤ maxLen) (hL : Tl w L k T) :
    Calls Try.prog 12 #[.agg #[.slice A n c, .int .i64 e], .slice L k d] w (SomeB w) := by
  have HL := Lib.hid hL
  clear hL
  unfold maxLen at hn hk
  go_enter Try.func12, Try.ntmps12
  go_wp2_with fail
  go_loopw [5, 13] (fun z i wr => ∃ (j : Nat) (y : Int), j ≤ k ∧ i = .int .i64 j ∧ z = .int .i64 y ∧ Bl w wr) (fun _ i _ => k - (intOf i).toNat)
  case atStart => exact ⟨0, _, Nat.zero_le _, rfl, rfl, by go_grown⟩
  case round =>
    obtain ⟨j, y, hj, rfl, rfl, hB⟩ := hrel
    have zB := hB.size
    by_cases hlt : j < k
    · obtain ⟨b, off, rfl, hbb, hc⟩ := (HL.out.below hB) (by omega)
      obtain ⟨c0, c1, c2, c3, c4⟩ := hc j hlt
      clear hc
      go_wp2_with fail
      go_roundw
      case rel => exact ⟨j + 1, _, by omega, by go_num, rfl, by go_grown⟩
      case measure => simp [intOf]; omega
    · go_wp2_with fail
      all_goals (go_ret; exact ⟨_, rfl, by go_grown⟩)

def exF (k : Nat) : Int := if k = 0 then -10000 else if k = 1 then 0 else 10000
def exG (k : Nat) : Int := if k = 0 then 80000 else if k = 1 then -1 else 120000
theorem ex_cross : crossF 3 exF 0 ⟨#[97]⟩ 0 0 2000 3 exG = (100000, 0) := by decide +kernel
theorem ex_fold : foldF 43200000 = (-43200000, 0) := by decide +kernel
theorem sl3 {w : World} {b : Nat} {x y z : Int} (f : Nat → Int) (h0 : w.cell? ⟨b, 0, none⟩ = some (.int .i64 x)) (h1 : w.cell? ⟨b, 1, none⟩ = some (.int .i64 y)) (h2 : w.cell? ⟨b, 2, none⟩ = some (.int .i64 z))
    (e0 : f 0 = x) (e1 : f 1 = y) (e2 : f 2 = z) : Sl w (some ⟨b, 0, none⟩) 3 f := fun _ =>
  ⟨b, 0, rfl, World.block_lt_of_cell? w ⟨b, 0, none⟩ h0, fun j hj => by
    rw [Nat.zero_add]
    match j, hj with
    | 0, _ => rw [h0, e0]
    | 1, _ => rw [h1, e1]
    | 2, _ => rw [h2, e2]⟩

set_option maxHeartbeats 1600000 in
theorem awake3_any (w : World) : Calls Try.prog 13 #[] w fun e w' => e = .returned (.bool true) ∧ Bl w w' := by
  go_enter Try.func13, Try.ntmps13
  go_wp2_with fail
  obtain ⟨W, hW⟩ : ∃ W, W = ((w.alloc (Obj.cells #[.int .i64 (-10000), .int .i64 0, .int .i64 10000] 3)).alloc (Obj.cells #[.slice (some ⟨w.heap.size, 0, none⟩) 3 3, .int .i64 0] 24)).alloc (Obj.cells #[.int .i64 80000, .int .i64 (-1), .int .i64 120000] 3) := ⟨_, rfl⟩
  have S1 : Sl W (some ⟨w.heap.size, 0, none⟩) 3 exF := sl3 (x := -10000) (y := 0) (z := 10000) exF (by rw [hW]; go_cell) (by rw [hW]; go_cell) (by rw [hW]; go_cell) rfl rfl rfl
  have S2 : Sl W (some ⟨w.heap.size + 1 + 1, 0, none⟩) 3 exG := sl3 (x := 80000) (y := -1) (z := 120000) exG (by rw [hW]; go_cell) (by rw [hW]; go_cell) (by rw [hW]; go_cell) rfl rfl rfl
  have BW : Bl w W := by rw [hW]; go_grown
  rw [← hW]
  clear hW
  refine (cross_any _ 3 3 exF 0 ⟨#[97]⟩ 0 0 2000 _ 3 3 exG W (by decide) (by decide) (by decide) S1 S2).mono ?_
  rintro e1 w1 ⟨rfl, hb⟩
  have B1 : Bl w w1 := BW.tr hb
  clear hb S1 S2
  rw [ex_cross]
  unfold rI
  go_wp2_with fail
  refine (folded_any _ _).mono ?_
  rintro e2 w2 ⟨rfl, rfl⟩
  rw [ex_fold]
  unfold rI
  go_wp2_with fail
  go_ret
  exact ⟨rfl, B1⟩
end Go.Proofs.Ytlpbmcnojkhdcaa
