/-
  Contracts of package ball and of its reference: the reference's Verdict, and Off of both.
-/
import Derived.Test.YtoigbppnfjmojaaBK
import Derived.Test.YtoigbppnfjmojaaBL
import Derived.BigQuiet
import Derived.Deep.QuietTactic
namespace Go.Proofs.Ytoigbppnfjmojaa
open Go.RowKit Go.Shelf
set_option linter.unusedSimpArgs false
set_option linter.unusedVariables false

theorem fst0 (E : Nat → Evt) (ki : Int) (n : Nat) : fstF E ki 0 n = match idxF E ki n with
    | some k => k
    | none => n := by
  unfold fstF
  rw [Nat.sub_zero, show (fun j => E (0 + j)) = E from funext fun j => by rw [Nat.zero_add]]
  cases idxF E ki n with
  | none => rfl
  | some k => exact Nat.zero_add k
theorem fst_le (E : Nat → Evt) (ki : Int) {a n : Nat} (h : a ≤ n) : fstF E ki a n ≤ n := by
  unfold fstF
  cases h1 : idxF (fun j => E (a + j)) ki (n - a) with
  | none => exact Nat.le_refl _
  | some k => have := (idxF_some.1 h1).1; show a + k ≤ n; omega
theorem fst_lt (E : Nat → Evt) (ki : Int) {a n : Nat} (h : a ≤ n) : fstF E ki a n < n ↔ hasF E ki a (n - a) := by
  unfold fstF
  cases h1 : idxF (fun j => E (a + j)) ki (n - a) with
  | none =>
    have := idxF_none.1 h1
    exact ⟨fun h2 => absurd h2 (Nat.lt_irrefl _), fun ⟨j, h2, h3⟩ => absurd h3 (this j h2)⟩
  | some k =>
    have := idxF_some.1 h1
    exact ⟨fun _ => ⟨k, this.1, this.2.1⟩, fun _ => (show a + k < n by have := this.1; omega)⟩
theorem fst_lt0 (E : Nat → Evt) (ki : Int) {k n : Nat} (h : k ≤ n) : fstF E ki 0 n < k ↔ hasF E ki 0 k := by
  rw [fst0]
  cases h1 : idxF E ki n with
  | none =>
    have := idxF_none.1 h1
    exact ⟨fun h2 => absurd h2 (by show ¬ n < k; omega), fun ⟨j, h2, h3⟩ => absurd (by simpa using h3) (this j (by omega))⟩
  | some i =>
    have := idxF_some.1 h1
    refine ⟨fun h2 => ⟨i, h2, by simpa using this.2.1⟩, fun ⟨j, h2, h3⟩ => ?_⟩
    rcases Nat.lt_or_ge i k with h4 | h4
    · exact h4
    · exact absurd (by simpa using h3) (this.2.2 j (by omega))
/-- What Off returns. -/
def offR (M : Mst) (E : Nat → Evt) (n : Nat) : Int × Int := if (runR M E n).2.2 = 0 then (match idxF E 4 n with
    | none => (0, 8)
    | some k => (if verL M E n = 3 then (E k).t - (M.no + M.ag) else (E k).t - M.no, 0)) else (0, (runR M E n).2.2)
theorem offR_eq {M : Mst} {E : Nat → Evt} {n : Nat} (hM : VM M) (hn : n ≤ 100) : offR M E n = offF M E n := by
  have e : runR M E n = ((runF M E n).1, (((runF M E n).2.1 : Nat) : Int), (runF M E n).2.2) := by unfold runR; rw [if_pos hM, if_neg (by omega)]
  unfold offR offF
  rw [e]
  rfl
theorem verR_ok {M : Mst} {E : Nat → Evt} {n : Nat} (h : (runR M E n).2.2 = 0) : verR M E n = (verL M E n, 0) := by unfold verR; rw [if_pos h]
set_option maxRecDepth 100000 in
set_option maxHeartbeats 3200000 in
theorem off_bad (M : Mst) (A : Option Addr) (n c : Nat) (E : Nat → Evt) (w : World) (hA : El w A n E) (hn : n ≤ maxLen) (hc : n ≤ c) (hc2 : c ≤ maxLen) (h : (runR M E n).2.2 ≠ 0) :
    Calls Try.prog 14 #[encM M, .slice A n c] w fun e w' => e = .returned (.tuple #[.int .i64 (offR M E n).1, .int .i64 (offR M E n).2]) ∧ Bl w w' := by
  have HA := Lib.hid hA
  have HN := Lib.hid hn
  clear hA hn
  have HCC := Lib.hid hc2
  clear hc2
  obtain ⟨e, he⟩ : ∃ e, (runR M E n).2.2 = e := ⟨_, rfl⟩
  have HW := Lib.hid (show verR M E n = (0, e) by unfold verR; rw [if_neg h, he])
  have HV := Lib.hid (show offR M E n = (0, e) by unfold offR; rw [if_neg h, he])
  have he2 : (e != 0) = true := by rw [he] at h; simpa using h
  clear h he
  go_enter Try.func14, Try.ntmps14
  go_wp2_with fail
  refine (ver_any M A n c E _ (HA.out.below (by go_grown)) HN.out hc HCC.out).mono ?_
  rintro q1 w1 ⟨rfl, hb⟩
  have m0 := kcb hb (b := w.heap.size) (o := 0) (v := .int .i64 M.no) (by first | assumption | (refine cellUp ?_; assumption) | go_cell)
  have m1 := kcb hb (b := w.heap.size) (o := 1) (v := .int .i64 M.hf) (by first | assumption | (refine cellUp ?_; assumption) | go_cell)
  have m2 := kcb hb (b := w.heap.size) (o := 2) (v := .int .i64 M.fu) (by first | assumption | (refine cellUp ?_; assumption) | go_cell)
  have m3 := kcb hb (b := w.heap.size) (o := 3) (v := .int .i64 M.la) (by first | assumption | (refine cellUp ?_; assumption) | go_cell)
  have m4 := kcb hb (b := w.heap.size) (o := 4) (v := .int .i64 M.ag) (by first | assumption | (refine cellUp ?_; assumption) | go_cell)
  have m5 := kcb hb (b := w.heap.size) (o := 5) (v := .int .i64 M.wi) (by first | assumption | (refine cellUp ?_; assumption) | go_cell)
  have B1 : Bl w w1 := Below.trans (by go_grown) (hb.mono (by (try simp only [World.size_alloc, World.size_setCell]); omega))
  have l1 := ltb m5
  have zz1 := B1.size
  clear hb
  rw [HW.out]
  go_wp2_with fail
  go_ret2
  exact ⟨by rw [HV.out]; rfl, by go_grown⟩
set_option maxRecDepth 100000 in
set_option maxHeartbeats 3200000 in
theorem off_none (M : Mst) (A : Option Addr) (n c : Nat) (E : Nat → Evt) (w : World) (hA : El w A n E) (hn : n ≤ maxLen) (hc : n ≤ c) (hc2 : c ≤ maxLen) (h : (runR M E n).2.2 = 0) (hi : idxF E 4 n = none) :
    Calls Try.prog 14 #[encM M, .slice A n c] w fun e w' => e = .returned (.tuple #[.int .i64 (offR M E n).1, .int .i64 (offR M E n).2]) ∧ Bl w w' := by
  have HA := Lib.hid hA
  have HN := Lib.hid hn
  clear hA hn
  have HCC := Lib.hid hc2
  clear hc2
  obtain ⟨v, hv⟩ : ∃ v, verL M E n = v := ⟨_, rfl⟩
  have HW := Lib.hid (show verR M E n = (v, 0) by rw [verR_ok h, hv])
  have HV := Lib.hid (show offR M E n = (0, 8) by unfold offR; rw [if_pos h, hi])
  have HD := Lib.hid (show idxV (idxF E 4 n) = -1 by rw [hi]; rfl)
  clear h hv hi
  go_enter Try.func14, Try.ntmps14
  go_wp2_with fail
  refine (ver_any M A n c E _ (HA.out.below (by go_grown)) HN.out hc HCC.out).mono ?_
  rintro q1 w1 ⟨rfl, hb⟩
  have m0 := kcb hb (b := w.heap.size) (o := 0) (v := .int .i64 M.no) (by first | assumption | (refine cellUp ?_; assumption) | go_cell)
  have m1 := kcb hb (b := w.heap.size) (o := 1) (v := .int .i64 M.hf) (by first | assumption | (refine cellUp ?_; assumption) | go_cell)
  have m2 := kcb hb (b := w.heap.size) (o := 2) (v := .int .i64 M.fu) (by first | assumption | (refine cellUp ?_; assumption) | go_cell)
  have m3 := kcb hb (b := w.heap.size) (o := 3) (v := .int .i64 M.la) (by first | assumption | (refine cellUp ?_; assumption) | go_cell)
  have m4 := kcb hb (b := w.heap.size) (o := 4) (v := .int .i64 M.ag) (by first | assumption | (refine cellUp ?_; assumption) | go_cell)
  have m5 := kcb hb (b := w.heap.size) (o := 5) (v := .int .i64 M.wi) (by first | assumption | (refine cellUp ?_; assumption) | go_cell)
  have B1 : Bl w w1 := Below.trans (by go_grown) (hb.mono (by (try simp only [World.size_alloc, World.size_setCell]); omega))
  have l1 := ltb m5
  have zz1 := B1.size
  clear hb
  rw [HW.out]
  go_wp2_with fail
  refine (firstDrop_any A n c E _ (HA.out.below (by go_grown)) HN.out).mono ?_
  rintro q2 w2 ⟨rfl, hb⟩
  have m0 := kcb hb (b := w.heap.size) (o := 0) (v := .int .i64 M.no) (by first | assumption | (refine cellUp ?_; assumption) | go_cell)
  have m1 := kcb hb (b := w.heap.size) (o := 1) (v := .int .i64 M.hf) (by first | assumption | (refine cellUp ?_; assumption) | go_cell)
  have m2 := kcb hb (b := w.heap.size) (o := 2) (v := .int .i64 M.fu) (by first | assumption | (refine cellUp ?_; assumption) | go_cell)
  have m3 := kcb hb (b := w.heap.size) (o := 3) (v := .int .i64 M.la) (by first | assumption | (refine cellUp ?_; assumption) | go_cell)
  have m4 := kcb hb (b := w.heap.size) (o := 4) (v := .int .i64 M.ag) (by first | assumption | (refine cellUp ?_; assumption) | go_cell)
  have m5 := kcb hb (b := w.heap.size) (o := 5) (v := .int .i64 M.wi) (by first | assumption | (refine cellUp ?_; assumption) | go_cell)
  have B2 : Bl w w2 := Below.trans (by go_grown) (hb.mono (by (try simp only [World.size_alloc, World.size_setCell]); omega))
  have l2 := ltb m5
  have zz2 := B2.size
  clear hb
  rw [HD.out]
  go_wp2_with fail
  go_ret2
  exact ⟨by rw [HV.out]; rfl, by go_grown⟩
set_option maxRecDepth 100000 in
set_option maxHeartbeats 3200000 in
theorem off_some (M : Mst) (A : Option Addr) (n c : Nat) (E : Nat → Evt) (w : World) (hA : El w A n E) (hn : n ≤ maxLen) (hc : n ≤ c) (hc2 : c ≤ maxLen) (h : (runR M E n).2.2 = 0) (k : Nat) (hi : idxF E 4 n = some k) :
    Calls Try.prog 14 #[encM M, .slice A n c] w fun e w' => e = .returned (.tuple #[.int .i64 (offR M E n).1, .int .i64 (offR M E n).2]) ∧ Bl w w' := by
  have HA := Lib.hid hA
  have HN := Lib.hid hn
  clear hA hn
  have HCC := Lib.hid hc2
  clear hc2
  obtain ⟨hM, h100, hok⟩ := runR_ok h
  have HM := Lib.hid hM
  have hkn := (idxF_some.1 hi).1
  obtain ⟨v, hv⟩ : ∃ v, verL M E n = v := ⟨_, rfl⟩
  have HW := Lib.hid (show verR M E n = (v, 0) by rw [verR_ok h, hv])
  have HV := Lib.hid (show offR M E n = (if v = 3 then (E k).t - (M.no + M.ag) else (E k).t - M.no, 0) by unfold offR; rw [if_pos h, hi, hv])
  have HD := Lib.hid (show idxV (idxF E 4 n) = (k : Int) by rw [hi]; rfl)
  have vno0 := HM.out.no0
  have vno1 := HM.out.no1
  have vfu0 := HM.out.fu0
  have vhf0 := HM.out.hf0
  have vhf1 := HM.out.hf1
  have vag0 := HM.out.ag0
  have vag1 := HM.out.ag1
  have vla0 := HM.out.la0
  have vla1 := HM.out.la1
  have ht0 := (runF_ve hok k hkn).t0
  have ht1 := (runF_ve hok k hkn).t1
  obtain ⟨b, off, rfl, hbb, hcc⟩ := HA.out (by omega)
  obtain ⟨y0, y1, y2⟩ := hcc k hkn
  clear hcc hM hok hv h hi
  by_cases q : v = 3
  · have hq : (v == 3) = true := by simp [q]
    have HV := Lib.hid (show offR M E n = ((E k).t - (M.no + M.ag), 0) by rw [HV.out, if_pos q])
    clear q
    go_enter Try.func14, Try.ntmps14
    go_wp2_with fail
    refine (ver_any M (some ⟨b, off, none⟩) n c E _ (HA.out.below (by go_grown)) HN.out hc HCC.out).mono ?_
    rintro q1 w1 ⟨rfl, hb⟩
    have m0 := kcb hb (b := w.heap.size) (o := 0) (v := .int .i64 M.no) (by first | assumption | (refine cellUp ?_; assumption) | go_cell)
    have m1 := kcb hb (b := w.heap.size) (o := 1) (v := .int .i64 M.hf) (by first | assumption | (refine cellUp ?_; assumption) | go_cell)
    have m2 := kcb hb (b := w.heap.size) (o := 2) (v := .int .i64 M.fu) (by first | assumption | (refine cellUp ?_; assumption) | go_cell)
    have m3 := kcb hb (b := w.heap.size) (o := 3) (v := .int .i64 M.la) (by first | assumption | (refine cellUp ?_; assumption) | go_cell)
    have m4 := kcb hb (b := w.heap.size) (o := 4) (v := .int .i64 M.ag) (by first | assumption | (refine cellUp ?_; assumption) | go_cell)
    have m5 := kcb hb (b := w.heap.size) (o := 5) (v := .int .i64 M.wi) (by first | assumption | (refine cellUp ?_; assumption) | go_cell)
    have y0 := kcb hb (b := b) (o := off + k * 3) (v := .int .i64 (E k).t) (by first | assumption | (refine cellUp ?_; assumption) | go_cell)
    have y1 := kcb hb (b := b) (o := off + k * 3 + 1) (v := .int .i64 (E k).ki) (by first | assumption | (refine cellUp ?_; assumption) | go_cell)
    have y2 := kcb hb (b := b) (o := off + k * 3 + 2) (v := .int .i64 (E k).n) (by first | assumption | (refine cellUp ?_; assumption) | go_cell)
    have B1 : Bl w w1 := Below.trans (by go_grown) (hb.mono (by (try simp only [World.size_alloc, World.size_setCell]); omega))
    have l1 := ltb y2
    have l1_1 := ltb m5
    have zz1 := B1.size
    clear hb
    rw [HW.out]
    have ly1 := ltb y0
    have lm1 := ltb m0
    go_wp2_with fail
    refine (firstDrop_any (some ⟨b, off, none⟩) n c E _ (HA.out.below (by go_grown)) HN.out).mono ?_
    rintro q2 w2 ⟨rfl, hb⟩
    have m0 := kcb hb (b := w.heap.size) (o := 0) (v := .int .i64 M.no) (by first | assumption | (refine cellUp ?_; assumption) | go_cell)
    have m1 := kcb hb (b := w.heap.size) (o := 1) (v := .int .i64 M.hf) (by first | assumption | (refine cellUp ?_; assumption) | go_cell)
    have m2 := kcb hb (b := w.heap.size) (o := 2) (v := .int .i64 M.fu) (by first | assumption | (refine cellUp ?_; assumption) | go_cell)
    have m3 := kcb hb (b := w.heap.size) (o := 3) (v := .int .i64 M.la) (by first | assumption | (refine cellUp ?_; assumption) | go_cell)
    have m4 := kcb hb (b := w.heap.size) (o := 4) (v := .int .i64 M.ag) (by first | assumption | (refine cellUp ?_; assumption) | go_cell)
    have m5 := kcb hb (b := w.heap.size) (o := 5) (v := .int .i64 M.wi) (by first | assumption | (refine cellUp ?_; assumption) | go_cell)
    have y0 := kcb hb (b := b) (o := off + k * 3) (v := .int .i64 (E k).t) (by first | assumption | (refine cellUp ?_; assumption) | go_cell)
    have y1 := kcb hb (b := b) (o := off + k * 3 + 1) (v := .int .i64 (E k).ki) (by first | assumption | (refine cellUp ?_; assumption) | go_cell)
    have y2 := kcb hb (b := b) (o := off + k * 3 + 2) (v := .int .i64 (E k).n) (by first | assumption | (refine cellUp ?_; assumption) | go_cell)
    have B2 : Bl w w2 := Below.trans (by go_grown) (hb.mono (by (try simp only [World.size_alloc, World.size_setCell]); omega))
    have l2 := ltb y2
    have l2_1 := ltb m5
    have zz2 := B2.size
    clear hb
    rw [HD.out]
    have ly2 := ltb y0
    have lm2 := ltb m0
    go_wp2_with fail
    have HV := Lib.hid (show offR M E n = (IntKind.i64.wrap ((E k).t - (M.no + M.ag)), 0) by rw [HV.out, IntWalk.i64_in _ (by omega)])
    refine wp_region_noPanic ?_
    refine wp_region_held_drew (S := fun w' => Bl w w' ∧ w'.cell? ⟨w.heap.size, 0, none⟩ = some (.int .i64 M.no) ∧ w'.cell? ⟨w.heap.size, 1, none⟩ = some (.int .i64 M.hf) ∧ w'.cell? ⟨w.heap.size, 2, none⟩ = some (.int .i64 M.fu) ∧ w'.cell? ⟨w.heap.size, 3, none⟩ = some (.int .i64 M.la) ∧ w'.cell? ⟨w.heap.size, 4, none⟩ = some (.int .i64 M.ag) ∧ w'.cell? ⟨w.heap.size, 5, none⟩ = some (.int .i64 M.wi) ∧ w'.cell? ⟨b, off + k * 3, none⟩ = some (.int .i64 (E k).t) ∧ w'.cell? ⟨b, off + k * 3 + 1, none⟩ = some (.int .i64 (E k).ki) ∧ w'.cell? ⟨b, off + k * 3 + 2, none⟩ = some (.int .i64 (E k).n)) (by kernel_rfl) (⟨B2.tr (Bl.d1 _), kcb (Bl.d1 _) m0, kcb (Bl.d1 _) m1, kcb (Bl.d1 _) m2, kcb (Bl.d1 _) m3, kcb (Bl.d1 _) m4, kcb (Bl.d1 _) m5, kcb (Bl.d1 _) y0, kcb (Bl.d1 _) y1, kcb (Bl.d1 _) y2⟩) (fun hH => ?_)
    refine wpAnyH_take (i := 0) (oi := ({ dst := some 24, op := Go.Op.move (Go.Operand.tmp 1), type := 24, pos := "verdict.go:43", after := #[], guard := none } : Oper)) (v := ?_) rfl (by kernel_rfl) (by kernel_rfl) (by kernel_rfl) (fun _ _ _ h => h) (Or.inl ⟨by rfl, ?_⟩) hH ?_
    rotate_left
    · intro w hSw; (try dsimp only at hSw); go_simp; try with_reducible rfl
    try simp only [Act.put, List.setIfInBounds_toArray, List.set_cons_zero, List.set_cons_succ]
    refine wpAnyH_take (i := 1) (oi := ({ dst := some 25, op := Go.Op.move (Go.Operand.tmp 8), type := 3, pos := "verdict.go:43", after := #[], guard := none } : Oper)) (v := ?_) rfl (by kernel_rfl) (by kernel_rfl) (by kernel_rfl) (fun _ _ _ h => h) (Or.inl ⟨by rfl, ?_⟩) hH ?_
    rotate_left
    · intro w hSw; (try dsimp only at hSw); go_simp; try with_reducible rfl
    try simp only [Act.put, List.setIfInBounds_toArray, List.set_cons_zero, List.set_cons_succ]
    refine wpAnyH_take (i := 2) (oi := ({ dst := some 26, op := Go.Op.indexAddr 24 (Go.Operand.tmp 24) (Go.Operand.tmp 25), type := 0, pos := "verdict.go:43", after := #[{ on := 0, ground := Go.Ground.data }, { on := 1, ground := Go.Ground.data }], guard := none } : Oper)) (v := ?_) rfl (by kernel_rfl) (by kernel_rfl) (by kernel_rfl) (fun _ _ _ h => h) (Or.inl ⟨by rfl, ?_⟩) hH ?_
    rotate_left
    · intro w hSw; (try dsimp only at hSw); go_simp; try with_reducible rfl
    try simp only [Act.put, List.setIfInBounds_toArray, List.set_cons_zero, List.set_cons_succ]
    refine wpAnyH_take (i := 3) (oi := ({ dst := some 27, op := Go.Op.fieldAddr 42 (Go.Operand.tmp 26) 0, type := 0, pos := "verdict.go:43", after := #[{ on := 2, ground := Go.Ground.data }], guard := none } : Oper)) (v := ?_) rfl (by kernel_rfl) (by kernel_rfl) (by kernel_rfl) (fun _ _ _ h => h) (Or.inl ⟨by rfl, ?_⟩) hH ?_
    rotate_left
    · intro w hSw; (try dsimp only at hSw); go_simp; try with_reducible rfl
    try simp only [Act.put, List.setIfInBounds_toArray, List.set_cons_zero, List.set_cons_succ]
    refine wpAnyH_take (i := 4) (oi := ({ dst := some 28, op := Go.Op.load 3 (Go.Operand.tmp 27), type := 3, pos := "verdict.go:43", after := #[{ on := 3, ground := Go.Ground.data }], guard := none } : Oper)) (v := ?_) rfl (by kernel_rfl) (by kernel_rfl) (by kernel_rfl) (fun _ _ _ h => h) (Or.inl ⟨by rfl, ?_⟩) hH ?_
    rotate_left
    · intro w hSw; (try dsimp only at hSw); go_simp; try with_reducible rfl
    try simp only [Act.put, List.setIfInBounds_toArray, List.set_cons_zero, List.set_cons_succ]
    refine wpAnyH_take (i := 5) (oi := ({ dst := some 29, op := Go.Op.load 23 (Go.Operand.tmp 2), type := 23, pos := "verdict.go:43", after := #[], guard := none } : Oper)) (v := ?_) rfl (by kernel_rfl) (by kernel_rfl) (by kernel_rfl) (fun _ _ _ h => h) (Or.inl ⟨by rfl, ?_⟩) hH ?_
    rotate_left
    · intro w hSw; (try dsimp only at hSw); go_simp; try with_reducible rfl
    try simp only [Act.put, List.setIfInBounds_toArray, List.set_cons_zero, List.set_cons_succ]
    refine wpAnyH_ready (rs := [6]) (by kernel_rfl) (by simp) ?_
    refine AllReadyH.cons (o := ({ dst := some 30, op := Go.Op.call { callee := Go.Callee.value (Go.Operand.func 20), args := #[Go.Operand.tmp 29], argTypes := #[23] }, type := 3, pos := "verdict.go:43", after := #[{ on := 5, ground := Go.Ground.data }], guard := none } : Oper)) rfl (fun K hK => ?_) AllReadyH.nil
    go_simp
    go_at_call 20
    refine (again_any M _ (by omega) (by omega)).mono ?_
    rintro e9 v5 ⟨rfl, hb⟩
    refine hK.out _ _ ⟨hH.1.tr hb, kcb hb hH.2.1, kcb hb hH.2.2.1, kcb hb hH.2.2.2.1, kcb hb hH.2.2.2.2.1, kcb hb hH.2.2.2.2.2.1, kcb hb hH.2.2.2.2.2.2.1, kcb hb hH.2.2.2.2.2.2.2.1, kcb hb hH.2.2.2.2.2.2.2.2.1, kcb hb hH.2.2.2.2.2.2.2.2.2⟩ (fun hH' => ?_)
    clear hH
    have hH := hH'
    clear hH' hK K
    try simp only [Act.put, List.setIfInBounds_toArray, List.set_cons_zero, List.set_cons_succ]
    refine wpAnyH_take (i := 7) (oi := ({ dst := some 31, op := Go.Op.binOp Go.BinOp.sub 3 (Go.Operand.tmp 28) (Go.Operand.tmp 30) 3, type := 3, pos := "verdict.go:43", after := #[{ on := 4, ground := Go.Ground.data }, { on := 6, ground := Go.Ground.data }], guard := none } : Oper)) (v := ?_) rfl (by kernel_rfl) (by kernel_rfl) (by kernel_rfl) (fun _ _ _ h => h) (Or.inl ⟨by rfl, ?_⟩) hH ?_
    rotate_left
    · intro w hSw; (try dsimp only at hSw); go_simp; try with_reducible rfl
    try simp only [Act.put, List.setIfInBounds_toArray, List.set_cons_zero, List.set_cons_succ]
    refine wpAnyH_take (i := 8) (oi := ({ dst := some 4, op := Go.Op.assign (Go.Operand.tmp 31), type := 3, pos := "verdict.go:43", after := #[{ on := 7, ground := Go.Ground.data }, { on := 6, ground := Go.Ground.chain }, { on := 0, ground := Go.Ground.phase }, { on := 1, ground := Go.Ground.phase }, { on := 2, ground := Go.Ground.phase }, { on := 3, ground := Go.Ground.phase }, { on := 4, ground := Go.Ground.phase }, { on := 5, ground := Go.Ground.phase }, { on := 6, ground := Go.Ground.phase }, { on := 7, ground := Go.Ground.phase }], guard := none } : Oper)) (v := ?_) rfl (by kernel_rfl) (by kernel_rfl) (by kernel_rfl) (fun _ _ _ h => h) (Or.inl ⟨by rfl, ?_⟩) hH ?_
    rotate_left
    · intro w hSw; (try dsimp only at hSw); go_simp; try with_reducible rfl
    try simp only [Act.put, List.setIfInBounds_toArray, List.set_cons_zero, List.set_cons_succ]
    refine wpAnyH_take (i := 9) (oi := ({ dst := some 5, op := Go.Op.assign (Go.Operand.const (Go.Value.int Go.IntKind.i64 0)), type := 25, pos := "verdict.go:43", after := #[{ on := 8, ground := Go.Ground.chain }, { on := 0, ground := Go.Ground.phase }, { on := 1, ground := Go.Ground.phase }, { on := 2, ground := Go.Ground.phase }, { on := 3, ground := Go.Ground.phase }, { on := 4, ground := Go.Ground.phase }, { on := 5, ground := Go.Ground.phase }, { on := 6, ground := Go.Ground.phase }, { on := 7, ground := Go.Ground.phase }, { on := 8, ground := Go.Ground.phase }], guard := none } : Oper)) (v := ?_) rfl (by kernel_rfl) (by kernel_rfl) (by kernel_rfl) (fun _ _ _ h => h) (Or.inl ⟨by rfl, ?_⟩) hH ?_
    rotate_left
    · intro w hSw; (try dsimp only at hSw); go_simp; try with_reducible rfl
    try simp only [Act.put, List.setIfInBounds_toArray, List.set_cons_zero, List.set_cons_succ]
    refine wpAnyH_done (by kernel_rfl) ?_ _
    refine NoPanic.normal ?_
    go_wp2_with fail
    go_ret2
    exact ⟨by rw [HV.out]; rfl, hH.1⟩
  · have hq : (v == 3) = false := by simp [q]
    have HV := Lib.hid (show offR M E n = ((E k).t - M.no, 0) by rw [HV.out, if_neg q])
    clear q
    go_enter Try.func14, Try.ntmps14
    go_wp2_with fail
    refine (ver_any M (some ⟨b, off, none⟩) n c E _ (HA.out.below (by go_grown)) HN.out hc HCC.out).mono ?_
    rintro q1 w1 ⟨rfl, hb⟩
    have m0 := kcb hb (b := w.heap.size) (o := 0) (v := .int .i64 M.no) (by first | assumption | (refine cellUp ?_; assumption) | go_cell)
    have m1 := kcb hb (b := w.heap.size) (o := 1) (v := .int .i64 M.hf) (by first | assumption | (refine cellUp ?_; assumption) | go_cell)
    have m2 := kcb hb (b := w.heap.size) (o := 2) (v := .int .i64 M.fu) (by first | assumption | (refine cellUp ?_; assumption) | go_cell)
    have m3 := kcb hb (b := w.heap.size) (o := 3) (v := .int .i64 M.la) (by first | assumption | (refine cellUp ?_; assumption) | go_cell)
    have m4 := kcb hb (b := w.heap.size) (o := 4) (v := .int .i64 M.ag) (by first | assumption | (refine cellUp ?_; assumption) | go_cell)
    have m5 := kcb hb (b := w.heap.size) (o := 5) (v := .int .i64 M.wi) (by first | assumption | (refine cellUp ?_; assumption) | go_cell)
    have y0 := kcb hb (b := b) (o := off + k * 3) (v := .int .i64 (E k).t) (by first | assumption | (refine cellUp ?_; assumption) | go_cell)
    have y1 := kcb hb (b := b) (o := off + k * 3 + 1) (v := .int .i64 (E k).ki) (by first | assumption | (refine cellUp ?_; assumption) | go_cell)
    have y2 := kcb hb (b := b) (o := off + k * 3 + 2) (v := .int .i64 (E k).n) (by first | assumption | (refine cellUp ?_; assumption) | go_cell)
    have B1 : Bl w w1 := Below.trans (by go_grown) (hb.mono (by (try simp only [World.size_alloc, World.size_setCell]); omega))
    have l1 := ltb y2
    have l1_1 := ltb m5
    have zz1 := B1.size
    clear hb
    rw [HW.out]
    have ly1 := ltb y0
    have lm1 := ltb m0
    go_wp2_with fail
    refine (firstDrop_any (some ⟨b, off, none⟩) n c E _ (HA.out.below (by go_grown)) HN.out).mono ?_
    rintro q2 w2 ⟨rfl, hb⟩
    have m0 := kcb hb (b := w.heap.size) (o := 0) (v := .int .i64 M.no) (by first | assumption | (refine cellUp ?_; assumption) | go_cell)
    have m1 := kcb hb (b := w.heap.size) (o := 1) (v := .int .i64 M.hf) (by first | assumption | (refine cellUp ?_; assumption) | go_cell)
    have m2 := kcb hb (b := w.heap.size) (o := 2) (v := .int .i64 M.fu) (by first | assumption | (refine cellUp ?_; assumption) | go_cell)
    have m3 := kcb hb (b := w.heap.size) (o := 3) (v := .int .i64 M.la) (by first | assumption | (refine cellUp ?_; assumption) | go_cell)
    have m4 := kcb hb (b := w.heap.size) (o := 4) (v := .int .i64 M.ag) (by first | assumption | (refine cellUp ?_; assumption) | go_cell)
    have m5 := kcb hb (b := w.heap.size) (o := 5) (v := .int .i64 M.wi) (by first | assumption | (refine cellUp ?_; assumption) | go_cell)
    have y0 := kcb hb (b := b) (o := off + k * 3) (v := .int .i64 (E k).t) (by first | assumption | (refine cellUp ?_; assumption) | go_cell)
    have y1 := kcb hb (b := b) (o := off + k * 3 + 1) (v := .int .i64 (E k).ki) (by first | assumption | (refine cellUp ?_; assumption) | go_cell)
    have y2 := kcb hb (b := b) (o := off + k * 3 + 2) (v := .int .i64 (E k).n) (by first | assumption | (refine cellUp ?_; assumption) | go_cell)
    have B2 : Bl w w2 := Below.trans (by go_grown) (hb.mono (by (try simp only [World.size_alloc, World.size_setCell]); omega))
    have l2 := ltb y2
    have l2_1 := ltb m5
    have zz2 := B2.size
    clear hb
    rw [HD.out]
    have ly2 := ltb y0
    have lm2 := ltb m0
    go_wp2_with fail
    go_quiet (fail)
    go_wp2_with fail
    go_ret2
    exact ⟨by rw [HV.out]; rfl, Bl.tr (by go_grown) (Bl.db _ _)⟩
theorem off_any (M : Mst) (A : Option Addr) (n c : Nat) (E : Nat → Evt) (w : World) (hA : El w A n E) (hn : n ≤ maxLen) (hc : n ≤ c) (hc2 : c ≤ maxLen) :
    Calls Try.prog 14 #[encM M, .slice A n c] w fun e w' => e = .returned (.tuple #[.int .i64 (offR M E n).1, .int .i64 (offR M E n).2]) ∧ Bl w w' := by
  by_cases h : (runR M E n).2.2 = 0
  · cases hi : idxF E 4 n with
    | none => exact off_none M A n c E w hA hn hc hc2 h hi
    | some k => exact off_some M A n c E w hA hn hc hc2 h k hi
  · exact off_bad M A n c E w hA hn hc hc2 h
end Go.Proofs.Ytoigbppnfjmojaa
