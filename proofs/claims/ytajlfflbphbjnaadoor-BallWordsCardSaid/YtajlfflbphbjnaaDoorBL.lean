/-
  Contracts of package ball: Verdict.
-/
import Derived.Test.YtajlfflbphbjnaaDoorBJ
namespace Go.Proofs.YtajlfflbphbjnaaDoor
open Go.RowKit Go.Shelf
set_option linter.unusedSimpArgs false
set_option linter.unusedVariables false

/-- What Verdict returns. -/
def verR (M : Mst) (E : Nat → Evt) (n : Nat) : Int × Int := if (runR M E n).2.2 = 0 then (verL M E n, 0) else (0, (runR M E n).2.2)
theorem runR_ok {M : Mst} {E : Nat → Evt} {n : Nat} (h : (runR M E n).2.2 = 0) : VM M ∧ n ≤ 100 ∧ (runF M E n).2.2 = 0 := by
  unfold runR at h
  split at h
  · rename_i hM
    split at h
    · simp at h
    · rename_i h2; exact ⟨hM, by omega, h⟩
  · simp at h
theorem verR_eq {M : Mst} {E : Nat → Evt} {n : Nat} (hM : VM M) (hn : n ≤ 100) : verR M E n = verF M E n := by
  have e : runR M E n = ((runF M E n).1, (((runF M E n).2.1 : Nat) : Int), (runF M E n).2.2) := by unfold runR; rw [if_pos hM, if_neg (by omega)]
  unfold verR verF
  rw [e]
set_option maxRecDepth 100000 in
set_option maxHeartbeats 3200000 in
theorem ver_bad (M : Mst) (A : Option Addr) (n c : Nat) (E : Nat → Evt) (w : World) (hA : El w A n E) (hn : n ≤ maxLen) (hc : n ≤ c) (hc2 : c ≤ maxLen) (h : (runR M E n).2.2 ≠ 0) :
    Calls Tryd.prog 13 #[encM M, .slice A n c] w fun e w' => e = .returned (.tuple #[.int .i64 (verR M E n).1, .int .i64 (verR M E n).2]) ∧ Bl w w' := by
  have HA := Lib.hid hA
  have HN := Lib.hid hn
  have HCC := Lib.hid hc2
  clear hA hn hc2
  obtain ⟨s, k, e, hr⟩ : ∃ s k e, runR M E n = (s, k, e) := ⟨_, _, _, rfl⟩
  have HR := Lib.hid hr
  have he : (e != 0) = true := by rw [hr] at h; simpa using h
  have HV := Lib.hid (show verR M E n = (0, e) by unfold verR; rw [if_neg h, hr])
  clear h hr
  go_enter Tryd.func13, Tryd.ntmps13
  go_wp2_with fail
  refine (run_any M A n c E _ (HA.out.below (by go_grown)) HN.out hc HCC.out).mono ?_
  rintro q1 w1 ⟨rfl, hb⟩
  have m0 := kcb hb (b := w.heap.size) (o := 0) (v := .int .i64 M.no) (by first | assumption | (refine cellUp ?_; assumption) | go_cell)
  have m1 := kcb hb (b := w.heap.size) (o := 1) (v := .int .i64 M.hf) (by first | assumption | (refine cellUp ?_; assumption) | go_cell)
  have m2 := kcb hb (b := w.heap.size) (o := 2) (v := .int .i64 M.fu) (by first | assumption | (refine cellUp ?_; assumption) | go_cell)
  have m3 := kcb hb (b := w.heap.size) (o := 3) (v := .int .i64 M.la) (by first | assumption | (refine cellUp ?_; assumption) | go_cell)
  have m4 := kcb hb (b := w.heap.size) (o := 4) (v := .int .i64 M.ag) (by first | assumption | (refine cellUp ?_; assumption) | go_cell)
  have m5 := kcb hb (b := w.heap.size) (o := 5) (v := .int .i64 M.wi) (by first | assumption | (refine cellUp ?_; assumption) | go_cell)
  have B1 : Bl w w1 := Below.trans (by go_grown) (hb.mono (by (try simp only [World.size_alloc, World.size_setCell]); omega))
  have l1 := ltb m5
  have zz1 := B1.size
  clear hb
  rw [HR.out]
  go_wp2_with fail
  go_ret2
  exact ⟨by rw [HV.out]; rfl, by go_grown⟩
set_option maxRecDepth 100000 in
set_option maxHeartbeats 3200000 in
theorem ver_none (M : Mst) (A : Option Addr) (n c : Nat) (E : Nat → Evt) (w : World) (hA : El w A n E) (hn : n ≤ maxLen) (hc : n ≤ c) (hc2 : c ≤ maxLen) (h : (runR M E n).2.2 = 0) (hi : idxF E 4 n = none) :
    Calls Tryd.prog 13 #[encM M, .slice A n c] w fun e w' => e = .returned (.tuple #[.int .i64 (verR M E n).1, .int .i64 (verR M E n).2]) ∧ Bl w w' := by
  have HA := Lib.hid hA
  have HN := Lib.hid hn
  have HCC := Lib.hid hc2
  clear hA hn hc2
  obtain ⟨v, hv⟩ : ∃ v : Int, (if hasF E 6 0 n then (4 : Int) else 5) = v := ⟨_, rfl⟩
  have HV := Lib.hid (show verR M E n = (v, 0) by unfold verR verL; rw [if_pos h, hi]; simp only [hv])
  obtain ⟨hM, h100, hok⟩ := runR_ok h
  obtain ⟨s, k', e, hr⟩ : ∃ s k e, runR M E n = (s, k, e) := ⟨_, _, _, rfl⟩
  obtain rfl : e = 0 := by rw [hr] at h; exact h
  have HR := Lib.hid hr
  have HM := Lib.hid hM
  have HVE := Lib.hid (runF_ve hok)
  clear hr hM hok h
  have HI := Lib.hid (show idxV (idxF E 4 n) = -1 by rw [hi]; rfl)
  clear hi
  go_enter Tryd.func13, Tryd.ntmps13
  go_wp2_with fail
  refine (run_any M A n c E _ (HA.out.below (by go_grown)) HN.out hc HCC.out).mono ?_
  rintro q1 w1 ⟨rfl, hb⟩
  have m0 := kcb hb (b := w.heap.size) (o := 0) (v := .int .i64 M.no) (by first | assumption | (refine cellUp ?_; assumption) | go_cell)
  have m1 := kcb hb (b := w.heap.size) (o := 1) (v := .int .i64 M.hf) (by first | assumption | (refine cellUp ?_; assumption) | go_cell)
  have m2 := kcb hb (b := w.heap.size) (o := 2) (v := .int .i64 M.fu) (by first | assumption | (refine cellUp ?_; assumption) | go_cell)
  have m3 := kcb hb (b := w.heap.size) (o := 3) (v := .int .i64 M.la) (by first | assumption | (refine cellUp ?_; assumption) | go_cell)
  have m4 := kcb hb (b := w.heap.size) (o := 4) (v := .int .i64 M.ag) (by first | assumption | (refine cellUp ?_; assumption) | go_cell)
  have m5 := kcb hb (b := w.heap.size) (o := 5) (v := .int .i64 M.wi) (by first | assumption | (refine cellUp ?_; assumption) | go_cell)
  have B1 : Bl w w1 := Below.trans (by go_grown) (hb.mono (by (try simp only [World.size_alloc, World.size_setCell]); omega))
  have l1 := ltb m5
  have zz1 := B1.size
  clear hb
  rw [HR.out]
  go_wp2_with fail
  refine (firstDrop_any A n c E _ (HA.out.below (by go_grown)) HN.out).mono ?_
  rintro q2 w2 ⟨rfl, hb⟩
  have m0 := kcb hb (b := w.heap.size) (o := 0) (v := .int .i64 M.no) (by first | assumption | (refine cellUp ?_; assumption) | go_cell)
  have m1 := kcb hb (b := w.heap.size) (o := 1) (v := .int .i64 M.hf) (by first | assumption | (refine cellUp ?_; assumption) | go_cell)
  have m2 := kcb hb (b := w.heap.size) (o := 2) (v := .int .i64 M.fu) (by first | assumption | (refine cellUp ?_; assumption) | go_cell)
  have m3 := kcb hb (b := w.heap.size) (o := 3) (v := .int .i64 M.la) (by first | assumption | (refine cellUp ?_; assumption) | go_cell)
  have m4 := kcb hb (b := w.heap.size) (o := 4) (v := .int .i64 M.ag) (by first | assumption | (refine cellUp ?_; assumption) | go_cell)
  have m5 := kcb hb (b := w.heap.size) (o := 5) (v := .int .i64 M.wi) (by first | assumption | (refine cellUp ?_; assumption) | go_cell)
  have B2 : Bl w w2 := Below.trans (by go_grown) (hb.mono (by (try simp only [World.size_alloc, World.size_setCell]); omega))
  have l2 := ltb m5
  have zz2 := B2.size
  clear hb
  rw [HI.out]
  go_wp2_with fail
  refine (told_any A n c E 4 5 _ (HA.out.below (by go_grown)) HN.out).mono ?_
  rintro q3 w3 ⟨rfl, hb⟩
  have m0 := kcb hb (b := w.heap.size) (o := 0) (v := .int .i64 M.no) (by first | assumption | (refine cellUp ?_; assumption) | go_cell)
  have m1 := kcb hb (b := w.heap.size) (o := 1) (v := .int .i64 M.hf) (by first | assumption | (refine cellUp ?_; assumption) | go_cell)
  have m2 := kcb hb (b := w.heap.size) (o := 2) (v := .int .i64 M.fu) (by first | assumption | (refine cellUp ?_; assumption) | go_cell)
  have m3 := kcb hb (b := w.heap.size) (o := 3) (v := .int .i64 M.la) (by first | assumption | (refine cellUp ?_; assumption) | go_cell)
  have m4 := kcb hb (b := w.heap.size) (o := 4) (v := .int .i64 M.ag) (by first | assumption | (refine cellUp ?_; assumption) | go_cell)
  have m5 := kcb hb (b := w.heap.size) (o := 5) (v := .int .i64 M.wi) (by first | assumption | (refine cellUp ?_; assumption) | go_cell)
  have B3 : Bl w w3 := Below.trans (by go_grown) (hb.mono (by (try simp only [World.size_alloc, World.size_setCell]); omega))
  have l3 := ltb m5
  have zz3 := B3.size
  clear hb
  rw [hv]
  go_wp2_with fail
  go_ret2
  exact ⟨by rw [HV.out]; rfl, by go_grown⟩
set_option maxRecDepth 100000 in
set_option maxHeartbeats 3200000 in
theorem ver_some (M : Mst) (A : Option Addr) (n c : Nat) (E : Nat → Evt) (w : World) (hA : El w A n E) (hn : n ≤ maxLen) (hc : n ≤ c) (hc2 : c ≤ maxLen) (h : (runR M E n).2.2 = 0) (k : Nat) (hi : idxF E 4 n = some k) :
    Calls Tryd.prog 13 #[encM M, .slice A n c] w fun e w' => e = .returned (.tuple #[.int .i64 (verR M E n).1, .int .i64 (verR M E n).2]) ∧ Bl w w' := by
  have HA := Lib.hid hA
  have HN := Lib.hid hn
  have HCC := Lib.hid hc2
  clear hA hn hc2
  have hv0 := show verR M E n = (verL M E n, 0) from by unfold verR; rw [if_pos h]
  obtain ⟨hM, h100, hok⟩ := runR_ok h
  obtain ⟨s, k', e, hr⟩ : ∃ s k e, runR M E n = (s, k, e) := ⟨_, _, _, rfl⟩
  obtain rfl : e = 0 := by rw [hr] at h; exact h
  have HR := Lib.hid hr
  have HM := Lib.hid hM
  have HVE := Lib.hid (runF_ve hok)
  clear hr hM hok h
  obtain ⟨v, hv⟩ : ∃ v : Int, (if hasF (fun j => E (k + j)) 6 0 (n - k) then (1 : Int) else 2) = v := ⟨_, rfl⟩
  have hkn := (idxF_some.1 hi).1
  have hkc : k ≤ c := by omega
  have HI := Lib.hid (show idxV (idxF E 4 n) = (k : Int) by rw [hi]; rfl)
  have HV := Lib.hid (show verR M E n = (if inT M.no M.la (E k).t then 0 else if hasF E 6 0 k ∧ inT (M.no + M.ag) M.la (E k).t then 3 else if hasF E 6 k (n - k) then 1 else 2, 0) by rw [hv0]; unfold verL; rw [hi])
  clear hv0 hi
  have vno0 := HM.out.no0
  have vno1 := HM.out.no1
  have vfu0 := HM.out.fu0
  have vhf0 := HM.out.hf0
  have vhf1 := HM.out.hf1
  have vag0 := HM.out.ag0
  have vag1 := HM.out.ag1
  have vla0 := HM.out.la0
  have vla1 := HM.out.la1
  have ht0 := (HVE.out k hkn).t0
  have ht1 := (HVE.out k hkn).t1
  obtain ⟨b, off, rfl, hbb, hcc⟩ := HA.out (by omega)
  obtain ⟨y0, y1, y2⟩ := hcc k hkn
  clear hcc
  by_cases q : inT M.no M.la (E k).t
  · have Q := Lib.hid (show decide (inT M.no M.la (E k).t) = true from decide_eq_true q)
    have HV := Lib.hid (show verR M E n = (0, 0) by rw [HV.out, if_pos q])
    clear q
    go_enter Tryd.func13, Tryd.ntmps13
    go_wp2_with fail
    refine (run_any M (some ⟨b, off, none⟩) n c E _ (HA.out.below (by go_grown)) HN.out hc HCC.out).mono ?_
    rintro q1 w1 ⟨rfl, hb⟩
    have m0 := kcb hb (b := w.heap.size) (o := 0) (v := .int .i64 M.no) (by first | assumption | (refine cellUp ?_; assumption) | go_cell)
    have m1 := kcb hb (b := w.heap.size) (o := 1) (v := .int .i64 M.hf) (by first | assumption | (refine cellUp ?_; assumption) | go_cell)
    have m2 := kcb hb (b := w.heap.size) (o := 2) (v := .int .i64 M.fu) (by first | assumption | (refine cellUp ?_; assumption) | go_cell)
    have m3 := kcb hb (b := w.heap.size) (o := 3) (v := .int .i64 M.la) (by first | assumption | (refine cellUp ?_; assumption) | go_cell)
    have m4 := kcb hb (b := w.heap.size) (o := 4) (v := .int .i64 M.ag) (by first | assumption | (refine cellUp ?_; assumption) | go_cell)
    have m5 := kcb hb (b := w.heap.size) (o := 5) (v := .int .i64 M.wi) (by first | assumption | (refine cellUp ?_; assumption) | go_cell)
    have y0 := kcb hb (b := b) (o := off + k * 3) (v := .int .i64 (E k).t) (by first | assumption | (refine cellUp ?_; assumption) | go_cell)
    have y1 := kcb hb (b := b) (o := off + k * 3 + 1) (v := .int .i64 (E k).ki) (by first | assumption | (refine cellUp ?_; assumption) | go_cell)
    have y2 := kcb hb (b := b) (o := off + k * 3 + 2) (v := .int .i64 (E k).n) (by first | assumption | (refine cellUp ?_; assumption) | go_cell)
    have B1 : Bl w w1 := Below.trans (by go_grown) (hb.mono (by (try simp only [World.size_alloc, World.size_setCell]); omega))
    have l1 := ltb y2
    have l1_1 := ltb m5
    have zz1 := B1.size
    clear hb
    rw [HR.out]
    have ly1 := ltb y0
    have lm1 := ltb m0
    go_wp2_with fail
    refine (firstDrop_any (some ⟨b, off, none⟩) n c E _ (HA.out.below (by go_grown)) HN.out).mono ?_
    rintro q2 w2 ⟨rfl, hb⟩
    have m0 := kcb hb (b := w.heap.size) (o := 0) (v := .int .i64 M.no) (by first | assumption | (refine cellUp ?_; assumption) | go_cell)
    have m1 := kcb hb (b := w.heap.size) (o := 1) (v := .int .i64 M.hf) (by first | assumption | (refine cellUp ?_; assumption) | go_cell)
    have m2 := kcb hb (b := w.heap.size) (o := 2) (v := .int .i64 M.fu) (by first | assumption | (refine cellUp ?_; assumption) | go_cell)
    have m3 := kcb hb (b := w.heap.size) (o := 3) (v := .int .i64 M.la) (by first | assumption | (refine cellUp ?_; assumption) | go_cell)
    have m4 := kcb hb (b := w.heap.size) (o := 4) (v := .int .i64 M.ag) (by first | assumption | (refine cellUp ?_; assumption) | go_cell)
    have m5 := kcb hb (b := w.heap.size) (o := 5) (v := .int .i64 M.wi) (by first | assumption | (refine cellUp ?_; assumption) | go_cell)
    have y0 := kcb hb (b := b) (o := off + k * 3) (v := .int .i64 (E k).t) (by first | assumption | (refine cellUp ?_; assumption) | go_cell)
    have y1 := kcb hb (b := b) (o := off + k * 3 + 1) (v := .int .i64 (E k).ki) (by first | assumption | (refine cellUp ?_; assumption) | go_cell)
    have y2 := kcb hb (b := b) (o := off + k * 3 + 2) (v := .int .i64 (E k).n) (by first | assumption | (refine cellUp ?_; assumption) | go_cell)
    have B2 : Bl w w2 := Below.trans (by go_grown) (hb.mono (by (try simp only [World.size_alloc, World.size_setCell]); omega))
    have l2 := ltb y2
    have l2_1 := ltb m5
    have zz2 := B2.size
    clear hb
    rw [HI.out]
    have ly2 := ltb y0
    have lm2 := ltb m0
    go_wp2_with fail
    refine wp_region_noPanic ?_
    refine wp_region_held_drew (S := fun w' => Bl w w' ∧ w'.cell? ⟨w.heap.size, 0, none⟩ = some (.int .i64 M.no) ∧ w'.cell? ⟨w.heap.size, 1, none⟩ = some (.int .i64 M.hf) ∧ w'.cell? ⟨w.heap.size, 2, none⟩ = some (.int .i64 M.fu) ∧ w'.cell? ⟨w.heap.size, 3, none⟩ = some (.int .i64 M.la) ∧ w'.cell? ⟨w.heap.size, 4, none⟩ = some (.int .i64 M.ag) ∧ w'.cell? ⟨w.heap.size, 5, none⟩ = some (.int .i64 M.wi) ∧ w'.cell? ⟨b, off + k * 3, none⟩ = some (.int .i64 (E k).t) ∧ w'.cell? ⟨b, off + k * 3 + 1, none⟩ = some (.int .i64 (E k).ki) ∧ w'.cell? ⟨b, off + k * 3 + 2, none⟩ = some (.int .i64 (E k).n)) (by kernel_rfl) (⟨B2.tr (Bl.d1 _), kcb (Bl.d1 _) m0, kcb (Bl.d1 _) m1, kcb (Bl.d1 _) m2, kcb (Bl.d1 _) m3, kcb (Bl.d1 _) m4, kcb (Bl.d1 _) m5, kcb (Bl.d1 _) y0, kcb (Bl.d1 _) y1, kcb (Bl.d1 _) y2⟩) (fun hH => ?_)
    refine wpAnyH_take (i := 0) (oi := ({ dst := some 26, op := Go.Op.load 35 (Go.Operand.tmp 2), type := 35, pos := "verdict.go:22", after := #[], guard := none } : Oper)) (v := ?_) rfl (by kernel_rfl) (by kernel_rfl) (by kernel_rfl) (fun _ _ _ h => h) (Or.inl ⟨by rfl, ?_⟩) hH ?_
    rotate_left
    · intro w hSw; (try dsimp only at hSw); go_simp; try with_reducible rfl
    try simp only [Act.put, List.setIfInBounds_toArray, List.set_cons_zero, List.set_cons_succ]
    refine wpAnyH_take (i := 1) (oi := ({ dst := some 27, op := Go.Op.fieldAddr 35 (Go.Operand.tmp 2) 0, type := 0, pos := "verdict.go:22", after := #[], guard := none } : Oper)) (v := ?_) rfl (by kernel_rfl) (by kernel_rfl) (by kernel_rfl) (fun _ _ _ h => h) (Or.inl ⟨by rfl, ?_⟩) hH ?_
    rotate_left
    · intro w hSw; (try dsimp only at hSw); go_simp; try with_reducible rfl
    try simp only [Act.put, List.setIfInBounds_toArray, List.set_cons_zero, List.set_cons_succ]
    refine wpAnyH_take (i := 2) (oi := ({ dst := some 28, op := Go.Op.load 3 (Go.Operand.tmp 27), type := 3, pos := "verdict.go:22", after := #[{ on := 1, ground := Go.Ground.data }], guard := none } : Oper)) (v := ?_) rfl (by kernel_rfl) (by kernel_rfl) (by kernel_rfl) (fun _ _ _ h => h) (Or.inl ⟨by rfl, ?_⟩) hH ?_
    rotate_left
    · intro w hSw; (try dsimp only at hSw); go_simp; try with_reducible rfl
    try simp only [Act.put, List.setIfInBounds_toArray, List.set_cons_zero, List.set_cons_succ]
    refine wpAnyH_take (i := 4) (oi := ({ dst := some 30, op := Go.Op.move (Go.Operand.tmp 1), type := 31, pos := "verdict.go:22", after := #[], guard := none } : Oper)) (v := ?_) rfl (by kernel_rfl) (by kernel_rfl) (by kernel_rfl) (fun _ _ _ h => h) (Or.inl ⟨by rfl, ?_⟩) hH ?_
    rotate_left
    · intro w hSw; (try dsimp only at hSw); go_simp; try with_reducible rfl
    try simp only [Act.put, List.setIfInBounds_toArray, List.set_cons_zero, List.set_cons_succ]
    refine wpAnyH_take (i := 5) (oi := ({ dst := some 31, op := Go.Op.move (Go.Operand.tmp 9), type := 3, pos := "verdict.go:22", after := #[], guard := none } : Oper)) (v := ?_) rfl (by kernel_rfl) (by kernel_rfl) (by kernel_rfl) (fun _ _ _ h => h) (Or.inl ⟨by rfl, ?_⟩) hH ?_
    rotate_left
    · intro w hSw; (try dsimp only at hSw); go_simp; try with_reducible rfl
    try simp only [Act.put, List.setIfInBounds_toArray, List.set_cons_zero, List.set_cons_succ]
    refine wpAnyH_take (i := 6) (oi := ({ dst := some 32, op := Go.Op.indexAddr 31 (Go.Operand.tmp 30) (Go.Operand.tmp 31), type := 0, pos := "verdict.go:22", after := #[{ on := 4, ground := Go.Ground.data }, { on := 5, ground := Go.Ground.data }], guard := none } : Oper)) (v := ?_) rfl (by kernel_rfl) (by kernel_rfl) (by kernel_rfl) (fun _ _ _ h => h) (Or.inl ⟨by rfl, ?_⟩) hH ?_
    rotate_left
    · intro w hSw; (try dsimp only at hSw); go_simp; try with_reducible rfl
    try simp only [Act.put, List.setIfInBounds_toArray, List.set_cons_zero, List.set_cons_succ]
    refine wpAnyH_take (i := 7) (oi := ({ dst := some 33, op := Go.Op.load 38 (Go.Operand.tmp 32), type := 38, pos := "verdict.go:22", after := #[{ on := 6, ground := Go.Ground.data }], guard := none } : Oper)) (v := ?_) rfl (by kernel_rfl) (by kernel_rfl) (by kernel_rfl) (fun _ _ _ h => h) (Or.inl ⟨by rfl, ?_⟩) hH ?_
    rotate_left
    · intro w hSw; (try dsimp only at hSw); go_simp; try with_reducible rfl
    try simp only [Act.put, List.setIfInBounds_toArray, List.set_cons_zero, List.set_cons_succ]
    refine wpAnyH_ready (rs := [3]) (by kernel_rfl) (by simp) ?_
    refine AllReadyH.cons (o := ({ dst := some 29, op := Go.Op.call { callee := Go.Callee.value (Go.Operand.func 22), args := #[Go.Operand.tmp 26, Go.Operand.tmp 28], argTypes := #[35, 3] }, type := 58, pos := "verdict.go:22", after := #[{ on := 0, ground := Go.Ground.data }, { on := 2, ground := Go.Ground.data }], guard := none } : Oper)) rfl (fun K hK => ?_) AllReadyH.nil
    go_simp
    go_at_call 22
    refine (inTime_any M M.no _).mono ?_
    rintro e9 v1 ⟨rfl, hv1⟩
    have hb : Bl w2.drew v1 := by rw [hv1]; go_grown
    have hp1 : v1.cell? ⟨w2.drew.heap.size + 1, 0, none⟩ = some (.int .i64 M.no) := by rw [hv1]; go_cell
    have hm1 : MastAt v1 w2.drew.heap.size M := by rw [hv1]; exact ⟨by go_cell, by go_cell, by go_cell, by go_cell, by go_cell, by go_cell⟩
    clear hv1
    refine hK.out _ _ ⟨hH.1.tr hb, kcb hb hH.2.1, kcb hb hH.2.2.1, kcb hb hH.2.2.2.1, kcb hb hH.2.2.2.2.1, kcb hb hH.2.2.2.2.2.1, kcb hb hH.2.2.2.2.2.2.1, kcb hb hH.2.2.2.2.2.2.2.1, kcb hb hH.2.2.2.2.2.2.2.2.1, kcb hb hH.2.2.2.2.2.2.2.2.2⟩ (fun hH' => ?_)
    clear hH
    have hH := hH'
    clear hH' hK K
    try simp only [Act.put, List.setIfInBounds_toArray, List.set_cons_zero, List.set_cons_succ]
    refine wpAnyH_ready (rs := [8]) (by kernel_rfl) (by simp) ?_
    refine AllReadyH.cons (o := ({ dst := some 34, op := Go.Op.call { callee := Go.Callee.value (Go.Operand.tmp 29), args := #[Go.Operand.tmp 33], argTypes := #[38] }, type := 4, pos := "verdict.go:22", after := #[{ on := 3, ground := Go.Ground.data }, { on := 7, ground := Go.Ground.data }, { on := 3, ground := Go.Ground.chain }], guard := none } : Oper)) rfl (fun K hK => ?_) AllReadyH.nil
    go_simp
    go_at_call 32
    refine (inTime1_any M M.no (E k).t (E k).ki (E k).n _ _ _ (by omega) (by omega) vla0 vla1 hp1 hm1).mono ?_
    rintro e9 v2 ⟨rfl, hb⟩
    rw [Q.out]
    refine hK.out _ _ ⟨hH.1.tr hb, kcb hb hH.2.1, kcb hb hH.2.2.1, kcb hb hH.2.2.2.1, kcb hb hH.2.2.2.2.1, kcb hb hH.2.2.2.2.2.1, kcb hb hH.2.2.2.2.2.2.1, kcb hb hH.2.2.2.2.2.2.2.1, kcb hb hH.2.2.2.2.2.2.2.2.1, kcb hb hH.2.2.2.2.2.2.2.2.2⟩ (fun hH' => ?_)
    clear hH
    have hH := hH'
    clear hH' hK K
    try simp only [Act.put, List.setIfInBounds_toArray, List.set_cons_zero, List.set_cons_succ]
    refine wpAnyH_done (by kernel_rfl) ?_ _
    refine NoPanic.normal ?_
    have B3 := hH.1
    have m0 := hH.2.1
    have m1 := hH.2.2.1
    have m2 := hH.2.2.2.1
    have m3 := hH.2.2.2.2.1
    have m4 := hH.2.2.2.2.2.1
    have m5 := hH.2.2.2.2.2.2.1
    have y0 := hH.2.2.2.2.2.2.2.1
    have y1 := hH.2.2.2.2.2.2.2.2.1
    have y2 := hH.2.2.2.2.2.2.2.2.2
    clear hH hp1 hm1
    have l3 := ltb m0
    have ly3 := ltb y0
    go_wp2_with fail
    go_ret2
    exact ⟨by rw [HV.out]; rfl, by go_grown⟩
  · have Q := Lib.hid (show decide (inT M.no M.la (E k).t) = false from decide_eq_false q)
    have HV := Lib.hid (HV.out.trans (by rw [if_neg q]))
    clear q
    by_cases f : hasF E 6 0 k
    · have F := Lib.hid (show decide (hasF E 6 0 k) = true from decide_eq_true f)
      by_cases g : inT (M.no + M.ag) M.la (E k).t
      · have G := Lib.hid (show decide (inT (M.no + M.ag) M.la (E k).t) = true from decide_eq_true g)
        have HV := Lib.hid (show verR M E n = (3, 0) by rw [HV.out, if_pos ⟨f, g⟩])
        clear f g
        go_enter Tryd.func13, Tryd.ntmps13
        go_wp2_with fail
        refine (run_any M (some ⟨b, off, none⟩) n c E _ (HA.out.below (by go_grown)) HN.out hc HCC.out).mono ?_
        rintro q1 w1 ⟨rfl, hb⟩
        have m0 := kcb hb (b := w.heap.size) (o := 0) (v := .int .i64 M.no) (by first | assumption | (refine cellUp ?_; assumption) | go_cell)
        have m1 := kcb hb (b := w.heap.size) (o := 1) (v := .int .i64 M.hf) (by first | assumption | (refine cellUp ?_; assumption) | go_cell)
        have m2 := kcb hb (b := w.heap.size) (o := 2) (v := .int .i64 M.fu) (by first | assumption | (refine cellUp ?_; assumption) | go_cell)
        have m3 := kcb hb (b := w.heap.size) (o := 3) (v := .int .i64 M.la) (by first | assumption | (refine cellUp ?_; assumption) | go_cell)
        have m4 := kcb hb (b := w.heap.size) (o := 4) (v := .int .i64 M.ag) (by first | assumption | (refine cellUp ?_; assumption) | go_cell)
        have m5 := kcb hb (b := w.heap.size) (o := 5) (v := .int .i64 M.wi) (by first | assumption | (refine cellUp ?_; assumption) | go_cell)
        have y0 := kcb hb (b := b) (o := off + k * 3) (v := .int .i64 (E k).t) (by first | assumption | (refine cellUp ?_; assumption) | go_cell)
        have y1 := kcb hb (b := b) (o := off + k * 3 + 1) (v := .int .i64 (E k).ki) (by first | assumption | (refine cellUp ?_; assumption) | go_cell)
        have y2 := kcb hb (b := b) (o := off + k * 3 + 2) (v := .int .i64 (E k).n) (by first | assumption | (refine cellUp ?_; assumption) | go_cell)
        have B1 : Bl w w1 := Below.trans (by go_grown) (hb.mono (by (try simp only [World.size_alloc, World.size_setCell]); omega))
        have l1 := ltb y2
        have l1_1 := ltb m5
        have zz1 := B1.size
        clear hb
        rw [HR.out]
        have ly1 := ltb y0
        have lm1 := ltb m0
        go_wp2_with fail
        refine (firstDrop_any (some ⟨b, off, none⟩) n c E _ (HA.out.below (by go_grown)) HN.out).mono ?_
        rintro q2 w2 ⟨rfl, hb⟩
        have m0 := kcb hb (b := w.heap.size) (o := 0) (v := .int .i64 M.no) (by first | assumption | (refine cellUp ?_; assumption) | go_cell)
        have m1 := kcb hb (b := w.heap.size) (o := 1) (v := .int .i64 M.hf) (by first | assumption | (refine cellUp ?_; assumption) | go_cell)
        have m2 := kcb hb (b := w.heap.size) (o := 2) (v := .int .i64 M.fu) (by first | assumption | (refine cellUp ?_; assumption) | go_cell)
        have m3 := kcb hb (b := w.heap.size) (o := 3) (v := .int .i64 M.la) (by first | assumption | (refine cellUp ?_; assumption) | go_cell)
        have m4 := kcb hb (b := w.heap.size) (o := 4) (v := .int .i64 M.ag) (by first | assumption | (refine cellUp ?_; assumption) | go_cell)
        have m5 := kcb hb (b := w.heap.size) (o := 5) (v := .int .i64 M.wi) (by first | assumption | (refine cellUp ?_; assumption) | go_cell)
        have y0 := kcb hb (b := b) (o := off + k * 3) (v := .int .i64 (E k).t) (by first | assumption | (refine cellUp ?_; assumption) | go_cell)
        have y1 := kcb hb (b := b) (o := off + k * 3 + 1) (v := .int .i64 (E k).ki) (by first | assumption | (refine cellUp ?_; assumption) | go_cell)
        have y2 := kcb hb (b := b) (o := off + k * 3 + 2) (v := .int .i64 (E k).n) (by first | assumption | (refine cellUp ?_; assumption) | go_cell)
        have B2 : Bl w w2 := Below.trans (by go_grown) (hb.mono (by (try simp only [World.size_alloc, World.size_setCell]); omega))
        have l2 := ltb y2
        have l2_1 := ltb m5
        have zz2 := B2.size
        clear hb
        rw [HI.out]
        have ly2 := ltb y0
        have lm2 := ltb m0
        go_wp2_with fail
        refine wp_region_noPanic ?_
        refine wp_region_held_drew (S := fun w' => Bl w w' ∧ w'.cell? ⟨w.heap.size, 0, none⟩ = some (.int .i64 M.no) ∧ w'.cell? ⟨w.heap.size, 1, none⟩ = some (.int .i64 M.hf) ∧ w'.cell? ⟨w.heap.size, 2, none⟩ = some (.int .i64 M.fu) ∧ w'.cell? ⟨w.heap.size, 3, none⟩ = some (.int .i64 M.la) ∧ w'.cell? ⟨w.heap.size, 4, none⟩ = some (.int .i64 M.ag) ∧ w'.cell? ⟨w.heap.size, 5, none⟩ = some (.int .i64 M.wi) ∧ w'.cell? ⟨b, off + k * 3, none⟩ = some (.int .i64 (E k).t) ∧ w'.cell? ⟨b, off + k * 3 + 1, none⟩ = some (.int .i64 (E k).ki) ∧ w'.cell? ⟨b, off + k * 3 + 2, none⟩ = some (.int .i64 (E k).n)) (by kernel_rfl) (⟨B2.tr (Bl.d1 _), kcb (Bl.d1 _) m0, kcb (Bl.d1 _) m1, kcb (Bl.d1 _) m2, kcb (Bl.d1 _) m3, kcb (Bl.d1 _) m4, kcb (Bl.d1 _) m5, kcb (Bl.d1 _) y0, kcb (Bl.d1 _) y1, kcb (Bl.d1 _) y2⟩) (fun hH => ?_)
        refine wpAnyH_take (i := 0) (oi := ({ dst := some 26, op := Go.Op.load 35 (Go.Operand.tmp 2), type := 35, pos := "verdict.go:22", after := #[], guard := none } : Oper)) (v := ?_) rfl (by kernel_rfl) (by kernel_rfl) (by kernel_rfl) (fun _ _ _ h => h) (Or.inl ⟨by rfl, ?_⟩) hH ?_
        rotate_left
        · intro w hSw; (try dsimp only at hSw); go_simp; try with_reducible rfl
        try simp only [Act.put, List.setIfInBounds_toArray, List.set_cons_zero, List.set_cons_succ]
        refine wpAnyH_take (i := 1) (oi := ({ dst := some 27, op := Go.Op.fieldAddr 35 (Go.Operand.tmp 2) 0, type := 0, pos := "verdict.go:22", after := #[], guard := none } : Oper)) (v := ?_) rfl (by kernel_rfl) (by kernel_rfl) (by kernel_rfl) (fun _ _ _ h => h) (Or.inl ⟨by rfl, ?_⟩) hH ?_
        rotate_left
        · intro w hSw; (try dsimp only at hSw); go_simp; try with_reducible rfl
        try simp only [Act.put, List.setIfInBounds_toArray, List.set_cons_zero, List.set_cons_succ]
        refine wpAnyH_take (i := 2) (oi := ({ dst := some 28, op := Go.Op.load 3 (Go.Operand.tmp 27), type := 3, pos := "verdict.go:22", after := #[{ on := 1, ground := Go.Ground.data }], guard := none } : Oper)) (v := ?_) rfl (by kernel_rfl) (by kernel_rfl) (by kernel_rfl) (fun _ _ _ h => h) (Or.inl ⟨by rfl, ?_⟩) hH ?_
        rotate_left
        · intro w hSw; (try dsimp only at hSw); go_simp; try with_reducible rfl
        try simp only [Act.put, List.setIfInBounds_toArray, List.set_cons_zero, List.set_cons_succ]
        refine wpAnyH_take (i := 4) (oi := ({ dst := some 30, op := Go.Op.move (Go.Operand.tmp 1), type := 31, pos := "verdict.go:22", after := #[], guard := none } : Oper)) (v := ?_) rfl (by kernel_rfl) (by kernel_rfl) (by kernel_rfl) (fun _ _ _ h => h) (Or.inl ⟨by rfl, ?_⟩) hH ?_
        rotate_left
        · intro w hSw; (try dsimp only at hSw); go_simp; try with_reducible rfl
        try simp only [Act.put, List.setIfInBounds_toArray, List.set_cons_zero, List.set_cons_succ]
        refine wpAnyH_take (i := 5) (oi := ({ dst := some 31, op := Go.Op.move (Go.Operand.tmp 9), type := 3, pos := "verdict.go:22", after := #[], guard := none } : Oper)) (v := ?_) rfl (by kernel_rfl) (by kernel_rfl) (by kernel_rfl) (fun _ _ _ h => h) (Or.inl ⟨by rfl, ?_⟩) hH ?_
        rotate_left
        · intro w hSw; (try dsimp only at hSw); go_simp; try with_reducible rfl
        try simp only [Act.put, List.setIfInBounds_toArray, List.set_cons_zero, List.set_cons_succ]
        refine wpAnyH_take (i := 6) (oi := ({ dst := some 32, op := Go.Op.indexAddr 31 (Go.Operand.tmp 30) (Go.Operand.tmp 31), type := 0, pos := "verdict.go:22", after := #[{ on := 4, ground := Go.Ground.data }, { on := 5, ground := Go.Ground.data }], guard := none } : Oper)) (v := ?_) rfl (by kernel_rfl) (by kernel_rfl) (by kernel_rfl) (fun _ _ _ h => h) (Or.inl ⟨by rfl, ?_⟩) hH ?_
        rotate_left
        · intro w hSw; (try dsimp only at hSw); go_simp; try with_reducible rfl
        try simp only [Act.put, List.setIfInBounds_toArray, List.set_cons_zero, List.set_cons_succ]
        refine wpAnyH_take (i := 7) (oi := ({ dst := some 33, op := Go.Op.load 38 (Go.Operand.tmp 32), type := 38, pos := "verdict.go:22", after := #[{ on := 6, ground := Go.Ground.data }], guard := none } : Oper)) (v := ?_) rfl (by kernel_rfl) (by kernel_rfl) (by kernel_rfl) (fun _ _ _ h => h) (Or.inl ⟨by rfl, ?_⟩) hH ?_
        rotate_left
        · intro w hSw; (try dsimp only at hSw); go_simp; try with_reducible rfl
        try simp only [Act.put, List.setIfInBounds_toArray, List.set_cons_zero, List.set_cons_succ]
        refine wpAnyH_ready (rs := [3]) (by kernel_rfl) (by simp) ?_
        refine AllReadyH.cons (o := ({ dst := some 29, op := Go.Op.call { callee := Go.Callee.value (Go.Operand.func 22), args := #[Go.Operand.tmp 26, Go.Operand.tmp 28], argTypes := #[35, 3] }, type := 58, pos := "verdict.go:22", after := #[{ on := 0, ground := Go.Ground.data }, { on := 2, ground := Go.Ground.data }], guard := none } : Oper)) rfl (fun K hK => ?_) AllReadyH.nil
        go_simp
        go_at_call 22
        refine (inTime_any M M.no _).mono ?_
        rintro e9 v1 ⟨rfl, hv1⟩
        have hb : Bl w2.drew v1 := by rw [hv1]; go_grown
        have hp1 : v1.cell? ⟨w2.drew.heap.size + 1, 0, none⟩ = some (.int .i64 M.no) := by rw [hv1]; go_cell
        have hm1 : MastAt v1 w2.drew.heap.size M := by rw [hv1]; exact ⟨by go_cell, by go_cell, by go_cell, by go_cell, by go_cell, by go_cell⟩
        clear hv1
        refine hK.out _ _ ⟨hH.1.tr hb, kcb hb hH.2.1, kcb hb hH.2.2.1, kcb hb hH.2.2.2.1, kcb hb hH.2.2.2.2.1, kcb hb hH.2.2.2.2.2.1, kcb hb hH.2.2.2.2.2.2.1, kcb hb hH.2.2.2.2.2.2.2.1, kcb hb hH.2.2.2.2.2.2.2.2.1, kcb hb hH.2.2.2.2.2.2.2.2.2⟩ (fun hH' => ?_)
        clear hH
        have hH := hH'
        clear hH' hK K
        try simp only [Act.put, List.setIfInBounds_toArray, List.set_cons_zero, List.set_cons_succ]
        refine wpAnyH_ready (rs := [8]) (by kernel_rfl) (by simp) ?_
        refine AllReadyH.cons (o := ({ dst := some 34, op := Go.Op.call { callee := Go.Callee.value (Go.Operand.tmp 29), args := #[Go.Operand.tmp 33], argTypes := #[38] }, type := 4, pos := "verdict.go:22", after := #[{ on := 3, ground := Go.Ground.data }, { on := 7, ground := Go.Ground.data }, { on := 3, ground := Go.Ground.chain }], guard := none } : Oper)) rfl (fun K hK => ?_) AllReadyH.nil
        go_simp
        go_at_call 32
        refine (inTime1_any M M.no (E k).t (E k).ki (E k).n _ _ _ (by omega) (by omega) vla0 vla1 hp1 hm1).mono ?_
        rintro e9 v2 ⟨rfl, hb⟩
        rw [Q.out]
        refine hK.out _ _ ⟨hH.1.tr hb, kcb hb hH.2.1, kcb hb hH.2.2.1, kcb hb hH.2.2.2.1, kcb hb hH.2.2.2.2.1, kcb hb hH.2.2.2.2.2.1, kcb hb hH.2.2.2.2.2.2.1, kcb hb hH.2.2.2.2.2.2.2.1, kcb hb hH.2.2.2.2.2.2.2.2.1, kcb hb hH.2.2.2.2.2.2.2.2.2⟩ (fun hH' => ?_)
        clear hH
        have hH := hH'
        clear hH' hK K
        try simp only [Act.put, List.setIfInBounds_toArray, List.set_cons_zero, List.set_cons_succ]
        refine wpAnyH_done (by kernel_rfl) ?_ _
        refine NoPanic.normal ?_
        have B3 := hH.1
        have m0 := hH.2.1
        have m1 := hH.2.2.1
        have m2 := hH.2.2.2.1
        have m3 := hH.2.2.2.2.1
        have m4 := hH.2.2.2.2.2.1
        have m5 := hH.2.2.2.2.2.2.1
        have y0 := hH.2.2.2.2.2.2.2.1
        have y1 := hH.2.2.2.2.2.2.2.2.1
        have y2 := hH.2.2.2.2.2.2.2.2.2
        clear hH hp1 hm1
        have l3 := ltb m0
        have ly3 := ltb y0
        go_wp2_with fail
        refine wp_region_noPanic ?_
        refine wp_region_held_drew (S := fun w' => Bl w w' ∧ w'.cell? ⟨w.heap.size, 0, none⟩ = some (.int .i64 M.no) ∧ w'.cell? ⟨w.heap.size, 1, none⟩ = some (.int .i64 M.hf) ∧ w'.cell? ⟨w.heap.size, 2, none⟩ = some (.int .i64 M.fu) ∧ w'.cell? ⟨w.heap.size, 3, none⟩ = some (.int .i64 M.la) ∧ w'.cell? ⟨w.heap.size, 4, none⟩ = some (.int .i64 M.ag) ∧ w'.cell? ⟨w.heap.size, 5, none⟩ = some (.int .i64 M.wi) ∧ w'.cell? ⟨b, off + k * 3, none⟩ = some (.int .i64 (E k).t) ∧ w'.cell? ⟨b, off + k * 3 + 1, none⟩ = some (.int .i64 (E k).ki) ∧ w'.cell? ⟨b, off + k * 3 + 2, none⟩ = some (.int .i64 (E k).n)) (by kernel_rfl) (⟨B3.tr (Bl.d1 _), kcb (Bl.d1 _) m0, kcb (Bl.d1 _) m1, kcb (Bl.d1 _) m2, kcb (Bl.d1 _) m3, kcb (Bl.d1 _) m4, kcb (Bl.d1 _) m5, kcb (Bl.d1 _) y0, kcb (Bl.d1 _) y1, kcb (Bl.d1 _) y2⟩) (fun hH => ?_)
        refine wpAnyH_take (i := 0) (oi := ({ dst := some 35, op := Go.Op.move (Go.Operand.tmp 1), type := 31, pos := "verdict.go:26", after := #[], guard := none } : Oper)) (v := ?_) rfl (by kernel_rfl) (by kernel_rfl) (by kernel_rfl) (fun _ _ _ h => h) (Or.inl ⟨by rfl, ?_⟩) hH ?_
        rotate_left
        · intro w hSw; (try dsimp only at hSw); go_simp; (try rw [if_pos hkc]); try with_reducible rfl
        try simp only [Act.put, List.setIfInBounds_toArray, List.set_cons_zero, List.set_cons_succ]
        refine wpAnyH_take (i := 1) (oi := ({ dst := some 36, op := Go.Op.move (Go.Operand.tmp 9), type := 3, pos := "verdict.go:26", after := #[], guard := none } : Oper)) (v := ?_) rfl (by kernel_rfl) (by kernel_rfl) (by kernel_rfl) (fun _ _ _ h => h) (Or.inl ⟨by rfl, ?_⟩) hH ?_
        rotate_left
        · intro w hSw; (try dsimp only at hSw); go_simp; (try rw [if_pos hkc]); try with_reducible rfl
        try simp only [Act.put, List.setIfInBounds_toArray, List.set_cons_zero, List.set_cons_succ]
        refine wpAnyH_take (i := 2) (oi := ({ dst := some 37, op := Go.Op.slice 31 (Go.Operand.tmp 35) none (some (Go.Operand.tmp 36)) none, type := 31, pos := "verdict.go:26", after := #[{ on := 0, ground := Go.Ground.data }, { on := 1, ground := Go.Ground.data }], guard := none } : Oper)) (v := ?_) rfl (by kernel_rfl) (by kernel_rfl) (by kernel_rfl) (fun _ _ _ h => h) (Or.inl ⟨by rfl, ?_⟩) hH ?_
        rotate_left
        · intro w hSw; (try dsimp only at hSw); go_simp; (try rw [if_pos hkc]); try with_reducible rfl
        try simp only [Act.put, List.setIfInBounds_toArray, List.set_cons_zero, List.set_cons_succ]
        refine wpAnyH_ready (rs := [3]) (by kernel_rfl) (by simp) ?_
        refine AllReadyH.cons (o := ({ dst := some 38, op := Go.Op.call { callee := Go.Callee.value (Go.Operand.func 24), args := #[Go.Operand.const (Go.Value.int Go.IntKind.i64 6)], argTypes := #[3] }, type := 58, pos := "verdict.go:26", after := #[], guard := none } : Oper)) rfl (fun K hK => ?_) AllReadyH.nil
        go_simp
        go_at_call 24
        refine (isOf_any _ _).mono ?_
        rintro e9 v3 ⟨rfl, hv3⟩
        have hb : Bl v2.drew v3 := by rw [hv3]; go_grown
        have hp3 : v3.cell? ⟨v2.drew.heap.size, 0, none⟩ = some (.int .i64 6) := by rw [hv3]; go_cell
        clear hv3
        refine hK.out _ _ ⟨hH.1.tr hb, kcb hb hH.2.1, kcb hb hH.2.2.1, kcb hb hH.2.2.2.1, kcb hb hH.2.2.2.2.1, kcb hb hH.2.2.2.2.2.1, kcb hb hH.2.2.2.2.2.2.1, kcb hb hH.2.2.2.2.2.2.2.1, kcb hb hH.2.2.2.2.2.2.2.2.1, kcb hb hH.2.2.2.2.2.2.2.2.2⟩ (fun hH' => ?_)
        clear hH
        have hH := hH'
        clear hH' hK K
        try simp only [Act.put, List.setIfInBounds_toArray, List.set_cons_zero, List.set_cons_succ]
        refine wpAnyH_ready (rs := [4]) (by kernel_rfl) (by simp) ?_
        refine AllReadyH.cons (o := ({ dst := some 39, op := Go.Op.call { callee := Go.Callee.value (Go.Operand.func 23), args := #[Go.Operand.tmp 37, Go.Operand.tmp 38], argTypes := #[31, 58] }, type := 4, pos := "verdict.go:26", after := #[{ on := 2, ground := Go.Ground.data }, { on := 3, ground := Go.Ground.data }, { on := 3, ground := Go.Ground.chain }], guard := none } : Oper)) rfl (fun K hK => ?_) AllReadyH.nil
        go_simp
        go_at_call 23
        refine (contains_any (some ⟨b, off, none⟩) k c E 6 _ _ ((HA.out.below hH.1).take (by omega)) (by have := HN.out; omega) hp3).mono ?_
        rintro e9 v4 ⟨rfl, hb⟩
        rw [F.out]
        refine hK.out _ _ ⟨hH.1.tr hb, kcb hb hH.2.1, kcb hb hH.2.2.1, kcb hb hH.2.2.2.1, kcb hb hH.2.2.2.2.1, kcb hb hH.2.2.2.2.2.1, kcb hb hH.2.2.2.2.2.2.1, kcb hb hH.2.2.2.2.2.2.2.1, kcb hb hH.2.2.2.2.2.2.2.2.1, kcb hb hH.2.2.2.2.2.2.2.2.2⟩ (fun hH' => ?_)
        clear hH
        have hH := hH'
        clear hH' hK K
        try simp only [Act.put, List.setIfInBounds_toArray, List.set_cons_zero, List.set_cons_succ]
        refine wpAnyH_take (i := 5) (oi := ({ dst := some 40, op := Go.Op.move (Go.Operand.tmp 39), type := 4, pos := "verdict.go:26", after := #[{ on := 4, ground := Go.Ground.data }, { on := 4, ground := Go.Ground.chain }], guard := none } : Oper)) (v := ?_) rfl (by kernel_rfl) (by kernel_rfl) (by kernel_rfl) (fun _ _ _ h => h) (Or.inl ⟨by rfl, ?_⟩) hH ?_
        rotate_left
        · intro w hSw; (try dsimp only at hSw); go_simp; (try rw [if_pos hkc]); try with_reducible rfl
        try simp only [Act.put, List.setIfInBounds_toArray, List.set_cons_zero, List.set_cons_succ]
        refine wpAnyH_take (i := 6) (oi := ({ dst := some 41, op := Go.Op.load 35 (Go.Operand.tmp 2), type := 35, pos := "verdict.go:26", after := #[{ on := 5, ground := Go.Ground.guard }], guard := some (5, true) } : Oper)) (v := ?_) rfl (by kernel_rfl) (by kernel_rfl) (by kernel_rfl) (fun _ _ _ h => h) (Or.inl ⟨by rfl, ?_⟩) hH ?_
        rotate_left
        · intro w hSw; (try dsimp only at hSw); go_simp; (try rw [if_pos hkc]); try with_reducible rfl
        try simp only [Act.put, List.setIfInBounds_toArray, List.set_cons_zero, List.set_cons_succ]
        refine wpAnyH_take (i := 7) (oi := ({ dst := some 42, op := Go.Op.load 35 (Go.Operand.tmp 2), type := 35, pos := "verdict.go:26", after := #[{ on := 5, ground := Go.Ground.guard }], guard := some (5, true) } : Oper)) (v := ?_) rfl (by kernel_rfl) (by kernel_rfl) (by kernel_rfl) (fun _ _ _ h => h) (Or.inl ⟨by rfl, ?_⟩) hH ?_
        rotate_left
        · intro w hSw; (try dsimp only at hSw); go_simp; (try rw [if_pos hkc]); try with_reducible rfl
        try simp only [Act.put, List.setIfInBounds_toArray, List.set_cons_zero, List.set_cons_succ]
        refine wpAnyH_take (i := 10) (oi := ({ dst := some 45, op := Go.Op.move (Go.Operand.tmp 1), type := 31, pos := "verdict.go:26", after := #[{ on := 5, ground := Go.Ground.guard }], guard := some (5, true) } : Oper)) (v := ?_) rfl (by kernel_rfl) (by kernel_rfl) (by kernel_rfl) (fun _ _ _ h => h) (Or.inl ⟨by rfl, ?_⟩) hH ?_
        rotate_left
        · intro w hSw; (try dsimp only at hSw); go_simp; (try rw [if_pos hkc]); try with_reducible rfl
        try simp only [Act.put, List.setIfInBounds_toArray, List.set_cons_zero, List.set_cons_succ]
        refine wpAnyH_take (i := 11) (oi := ({ dst := some 46, op := Go.Op.move (Go.Operand.tmp 9), type := 3, pos := "verdict.go:26", after := #[{ on := 5, ground := Go.Ground.guard }], guard := some (5, true) } : Oper)) (v := ?_) rfl (by kernel_rfl) (by kernel_rfl) (by kernel_rfl) (fun _ _ _ h => h) (Or.inl ⟨by rfl, ?_⟩) hH ?_
        rotate_left
        · intro w hSw; (try dsimp only at hSw); go_simp; (try rw [if_pos hkc]); try with_reducible rfl
        try simp only [Act.put, List.setIfInBounds_toArray, List.set_cons_zero, List.set_cons_succ]
        refine wpAnyH_take (i := 12) (oi := ({ dst := some 47, op := Go.Op.indexAddr 31 (Go.Operand.tmp 45) (Go.Operand.tmp 46), type := 0, pos := "verdict.go:26", after := #[{ on := 10, ground := Go.Ground.data }, { on := 11, ground := Go.Ground.data }, { on := 5, ground := Go.Ground.guard }], guard := some (5, true) } : Oper)) (v := ?_) rfl (by kernel_rfl) (by kernel_rfl) (by kernel_rfl) (fun _ _ _ h => h) (Or.inl ⟨by rfl, ?_⟩) hH ?_
        rotate_left
        · intro w hSw; (try dsimp only at hSw); go_simp; (try rw [if_pos hkc]); try with_reducible rfl
        try simp only [Act.put, List.setIfInBounds_toArray, List.set_cons_zero, List.set_cons_succ]
        refine wpAnyH_take (i := 13) (oi := ({ dst := some 48, op := Go.Op.load 38 (Go.Operand.tmp 47), type := 38, pos := "verdict.go:26", after := #[{ on := 12, ground := Go.Ground.data }, { on := 5, ground := Go.Ground.guard }], guard := some (5, true) } : Oper)) (v := ?_) rfl (by kernel_rfl) (by kernel_rfl) (by kernel_rfl) (fun _ _ _ h => h) (Or.inl ⟨by rfl, ?_⟩) hH ?_
        rotate_left
        · intro w hSw; (try dsimp only at hSw); go_simp; (try rw [if_pos hkc]); try with_reducible rfl
        try simp only [Act.put, List.setIfInBounds_toArray, List.set_cons_zero, List.set_cons_succ]
        refine wpAnyH_ready (rs := [8]) (by kernel_rfl) (by simp) ?_
        refine AllReadyH.cons (o := ({ dst := some 43, op := Go.Op.call { callee := Go.Callee.value (Go.Operand.func 25), args := #[Go.Operand.tmp 42], argTypes := #[35] }, type := 3, pos := "verdict.go:26", after := #[{ on := 7, ground := Go.Ground.data }, { on := 5, ground := Go.Ground.chain }, { on := 5, ground := Go.Ground.guard }], guard := some (5, true) } : Oper)) rfl (fun K hK => ?_) AllReadyH.nil
        go_simp
        go_at_call 25
        refine (again_any M _ (by omega) (by omega)).mono ?_
        rintro e9 v5 ⟨rfl, hb⟩
        refine hK.out _ _ ⟨hH.1.tr hb, kcb hb hH.2.1, kcb hb hH.2.2.1, kcb hb hH.2.2.2.1, kcb hb hH.2.2.2.2.1, kcb hb hH.2.2.2.2.2.1, kcb hb hH.2.2.2.2.2.2.1, kcb hb hH.2.2.2.2.2.2.2.1, kcb hb hH.2.2.2.2.2.2.2.2.1, kcb hb hH.2.2.2.2.2.2.2.2.2⟩ (fun hH' => ?_)
        clear hH
        have hH := hH'
        clear hH' hK K
        try simp only [Act.put, List.setIfInBounds_toArray, List.set_cons_zero, List.set_cons_succ]
        refine wpAnyH_ready (rs := [9]) (by kernel_rfl) (by simp) ?_
        refine AllReadyH.cons (o := ({ dst := some 44, op := Go.Op.call { callee := Go.Callee.value (Go.Operand.func 22), args := #[Go.Operand.tmp 41, Go.Operand.tmp 43], argTypes := #[35, 3] }, type := 58, pos := "verdict.go:26", after := #[{ on := 6, ground := Go.Ground.data }, { on := 8, ground := Go.Ground.data }, { on := 8, ground := Go.Ground.chain }, { on := 5, ground := Go.Ground.guard }], guard := some (5, true) } : Oper)) rfl (fun K hK => ?_) AllReadyH.nil
        go_simp
        go_at_call 22
        refine (inTime_any M (M.no + M.ag) _).mono ?_
        rintro e9 v6 ⟨rfl, hv6⟩
        have hb : Bl v5 v6 := by rw [hv6]; go_grown
        have hp6 : v6.cell? ⟨v5.heap.size + 1, 0, none⟩ = some (.int .i64 (M.no + M.ag)) := by rw [hv6]; go_cell
        have hm6 : MastAt v6 v5.heap.size M := by rw [hv6]; exact ⟨by go_cell, by go_cell, by go_cell, by go_cell, by go_cell, by go_cell⟩
        clear hv6
        refine hK.out _ _ ⟨hH.1.tr hb, kcb hb hH.2.1, kcb hb hH.2.2.1, kcb hb hH.2.2.2.1, kcb hb hH.2.2.2.2.1, kcb hb hH.2.2.2.2.2.1, kcb hb hH.2.2.2.2.2.2.1, kcb hb hH.2.2.2.2.2.2.2.1, kcb hb hH.2.2.2.2.2.2.2.2.1, kcb hb hH.2.2.2.2.2.2.2.2.2⟩ (fun hH' => ?_)
        clear hH
        have hH := hH'
        clear hH' hK K
        try simp only [Act.put, List.setIfInBounds_toArray, List.set_cons_zero, List.set_cons_succ]
        refine wpAnyH_ready (rs := [14]) (by kernel_rfl) (by simp) ?_
        refine AllReadyH.cons (o := ({ dst := some 49, op := Go.Op.call { callee := Go.Callee.value (Go.Operand.tmp 44), args := #[Go.Operand.tmp 48], argTypes := #[38] }, type := 4, pos := "verdict.go:26", after := #[{ on := 9, ground := Go.Ground.data }, { on := 13, ground := Go.Ground.data }, { on := 9, ground := Go.Ground.chain }, { on := 5, ground := Go.Ground.guard }], guard := some (5, true) } : Oper)) rfl (fun K hK => ?_) AllReadyH.nil
        go_simp
        go_at_call 32
        refine (inTime1_any M (M.no + M.ag) (E k).t (E k).ki (E k).n _ _ _ (by omega) (by omega) vla0 vla1 hp6 hm6).mono ?_
        rintro e9 v7 ⟨rfl, hb⟩
        rw [G.out]
        refine hK.out _ _ ⟨hH.1.tr hb, kcb hb hH.2.1, kcb hb hH.2.2.1, kcb hb hH.2.2.2.1, kcb hb hH.2.2.2.2.1, kcb hb hH.2.2.2.2.2.1, kcb hb hH.2.2.2.2.2.2.1, kcb hb hH.2.2.2.2.2.2.2.1, kcb hb hH.2.2.2.2.2.2.2.2.1, kcb hb hH.2.2.2.2.2.2.2.2.2⟩ (fun hH' => ?_)
        clear hH
        have hH := hH'
        clear hH' hK K
        try simp only [Act.put, List.setIfInBounds_toArray, List.set_cons_zero, List.set_cons_succ]
        refine wpAnyH_take (i := 15) (oi := ({ dst := some 50, op := Go.Op.pick (Go.Operand.tmp 40) (Go.Operand.tmp 49) (Go.Operand.const (Go.Value.bool false)), type := 4, pos := "verdict.go:26", after := #[{ on := 5, ground := Go.Ground.data }, { on := 14, ground := Go.Ground.data }], guard := none } : Oper)) (v := ?_) rfl (by kernel_rfl) (by kernel_rfl) (by kernel_rfl) (fun _ _ _ h => h) (Or.inl ⟨by rfl, ?_⟩) hH ?_
        rotate_left
        · intro w hSw; (try dsimp only at hSw); go_simp; (try rw [if_pos hkc]); try with_reducible rfl
        try simp only [Act.put, List.setIfInBounds_toArray, List.set_cons_zero, List.set_cons_succ]
        refine wpAnyH_done (by kernel_rfl) ?_ _
        refine NoPanic.normal ?_
        have HB := Lib.hid hH.1
        go_wp2_with fail
        go_ret2
        exact ⟨by rw [HV.out]; rfl, HB.out⟩
      · have G := Lib.hid (show decide (inT (M.no + M.ag) M.la (E k).t) = false from decide_eq_false g)
        have HV := Lib.hid (show verR M E n = (v, 0) by rw [HV.out, if_neg (fun h => g h.2)]; simp only [← hv, has_shift])
        clear f g
        go_enter Tryd.func13, Tryd.ntmps13
        go_wp2_with fail
        refine (run_any M (some ⟨b, off, none⟩) n c E _ (HA.out.below (by go_grown)) HN.out hc HCC.out).mono ?_
        rintro q1 w1 ⟨rfl, hb⟩
        have m0 := kcb hb (b := w.heap.size) (o := 0) (v := .int .i64 M.no) (by first | assumption | (refine cellUp ?_; assumption) | go_cell)
        have m1 := kcb hb (b := w.heap.size) (o := 1) (v := .int .i64 M.hf) (by first | assumption | (refine cellUp ?_; assumption) | go_cell)
        have m2 := kcb hb (b := w.heap.size) (o := 2) (v := .int .i64 M.fu) (by first | assumption | (refine cellUp ?_; assumption) | go_cell)
        have m3 := kcb hb (b := w.heap.size) (o := 3) (v := .int .i64 M.la) (by first | assumption | (refine cellUp ?_; assumption) | go_cell)
        have m4 := kcb hb (b := w.heap.size) (o := 4) (v := .int .i64 M.ag) (by first | assumption | (refine cellUp ?_; assumption) | go_cell)
        have m5 := kcb hb (b := w.heap.size) (o := 5) (v := .int .i64 M.wi) (by first | assumption | (refine cellUp ?_; assumption) | go_cell)
        have y0 := kcb hb (b := b) (o := off + k * 3) (v := .int .i64 (E k).t) (by first | assumption | (refine cellUp ?_; assumption) | go_cell)
        have y1 := kcb hb (b := b) (o := off + k * 3 + 1) (v := .int .i64 (E k).ki) (by first | assumption | (refine cellUp ?_; assumption) | go_cell)
        have y2 := kcb hb (b := b) (o := off + k * 3 + 2) (v := .int .i64 (E k).n) (by first | assumption | (refine cellUp ?_; assumption) | go_cell)
        have B1 : Bl w w1 := Below.trans (by go_grown) (hb.mono (by (try simp only [World.size_alloc, World.size_setCell]); omega))
        have l1 := ltb y2
        have l1_1 := ltb m5
        have zz1 := B1.size
        clear hb
        rw [HR.out]
        have ly1 := ltb y0
        have lm1 := ltb m0
        go_wp2_with fail
        refine (firstDrop_any (some ⟨b, off, none⟩) n c E _ (HA.out.below (by go_grown)) HN.out).mono ?_
        rintro q2 w2 ⟨rfl, hb⟩
        have m0 := kcb hb (b := w.heap.size) (o := 0) (v := .int .i64 M.no) (by first | assumption | (refine cellUp ?_; assumption) | go_cell)
        have m1 := kcb hb (b := w.heap.size) (o := 1) (v := .int .i64 M.hf) (by first | assumption | (refine cellUp ?_; assumption) | go_cell)
        have m2 := kcb hb (b := w.heap.size) (o := 2) (v := .int .i64 M.fu) (by first | assumption | (refine cellUp ?_; assumption) | go_cell)
        have m3 := kcb hb (b := w.heap.size) (o := 3) (v := .int .i64 M.la) (by first | assumption | (refine cellUp ?_; assumption) | go_cell)
        have m4 := kcb hb (b := w.heap.size) (o := 4) (v := .int .i64 M.ag) (by first | assumption | (refine cellUp ?_; assumption) | go_cell)
        have m5 := kcb hb (b := w.heap.size) (o := 5) (v := .int .i64 M.wi) (by first | assumption | (refine cellUp ?_; assumption) | go_cell)
        have y0 := kcb hb (b := b) (o := off + k * 3) (v := .int .i64 (E k).t) (by first | assumption | (refine cellUp ?_; assumption) | go_cell)
        have y1 := kcb hb (b := b) (o := off + k * 3 + 1) (v := .int .i64 (E k).ki) (by first | assumption | (refine cellUp ?_; assumption) | go_cell)
        have y2 := kcb hb (b := b) (o := off + k * 3 + 2) (v := .int .i64 (E k).n) (by first | assumption | (refine cellUp ?_; assumption) | go_cell)
        have B2 : Bl w w2 := Below.trans (by go_grown) (hb.mono (by (try simp only [World.size_alloc, World.size_setCell]); omega))
        have l2 := ltb y2
        have l2_1 := ltb m5
        have zz2 := B2.size
        clear hb
        rw [HI.out]
        have ly2 := ltb y0
        have lm2 := ltb m0
        go_wp2_with fail
        refine wp_region_noPanic ?_
        refine wp_region_held_drew (S := fun w' => Bl w w' ∧ w'.cell? ⟨w.heap.size, 0, none⟩ = some (.int .i64 M.no) ∧ w'.cell? ⟨w.heap.size, 1, none⟩ = some (.int .i64 M.hf) ∧ w'.cell? ⟨w.heap.size, 2, none⟩ = some (.int .i64 M.fu) ∧ w'.cell? ⟨w.heap.size, 3, none⟩ = some (.int .i64 M.la) ∧ w'.cell? ⟨w.heap.size, 4, none⟩ = some (.int .i64 M.ag) ∧ w'.cell? ⟨w.heap.size, 5, none⟩ = some (.int .i64 M.wi) ∧ w'.cell? ⟨b, off + k * 3, none⟩ = some (.int .i64 (E k).t) ∧ w'.cell? ⟨b, off + k * 3 + 1, none⟩ = some (.int .i64 (E k).ki) ∧ w'.cell? ⟨b, off + k * 3 + 2, none⟩ = some (.int .i64 (E k).n)) (by kernel_rfl) (⟨B2.tr (Bl.d1 _), kcb (Bl.d1 _) m0, kcb (Bl.d1 _) m1, kcb (Bl.d1 _) m2, kcb (Bl.d1 _) m3, kcb (Bl.d1 _) m4, kcb (Bl.d1 _) m5, kcb (Bl.d1 _) y0, kcb (Bl.d1 _) y1, kcb (Bl.d1 _) y2⟩) (fun hH => ?_)
        refine wpAnyH_take (i := 0) (oi := ({ dst := some 26, op := Go.Op.load 35 (Go.Operand.tmp 2), type := 35, pos := "verdict.go:22", after := #[], guard := none } : Oper)) (v := ?_) rfl (by kernel_rfl) (by kernel_rfl) (by kernel_rfl) (fun _ _ _ h => h) (Or.inl ⟨by rfl, ?_⟩) hH ?_
        rotate_left
        · intro w hSw; (try dsimp only at hSw); go_simp; try with_reducible rfl
        try simp only [Act.put, List.setIfInBounds_toArray, List.set_cons_zero, List.set_cons_succ]
        refine wpAnyH_take (i := 1) (oi := ({ dst := some 27, op := Go.Op.fieldAddr 35 (Go.Operand.tmp 2) 0, type := 0, pos := "verdict.go:22", after := #[], guard := none } : Oper)) (v := ?_) rfl (by kernel_rfl) (by kernel_rfl) (by kernel_rfl) (fun _ _ _ h => h) (Or.inl ⟨by rfl, ?_⟩) hH ?_
        rotate_left
        · intro w hSw; (try dsimp only at hSw); go_simp; try with_reducible rfl
        try simp only [Act.put, List.setIfInBounds_toArray, List.set_cons_zero, List.set_cons_succ]
        refine wpAnyH_take (i := 2) (oi := ({ dst := some 28, op := Go.Op.load 3 (Go.Operand.tmp 27), type := 3, pos := "verdict.go:22", after := #[{ on := 1, ground := Go.Ground.data }], guard := none } : Oper)) (v := ?_) rfl (by kernel_rfl) (by kernel_rfl) (by kernel_rfl) (fun _ _ _ h => h) (Or.inl ⟨by rfl, ?_⟩) hH ?_
        rotate_left
        · intro w hSw; (try dsimp only at hSw); go_simp; try with_reducible rfl
        try simp only [Act.put, List.setIfInBounds_toArray, List.set_cons_zero, List.set_cons_succ]
        refine wpAnyH_take (i := 4) (oi := ({ dst := some 30, op := Go.Op.move (Go.Operand.tmp 1), type := 31, pos := "verdict.go:22", after := #[], guard := none } : Oper)) (v := ?_) rfl (by kernel_rfl) (by kernel_rfl) (by kernel_rfl) (fun _ _ _ h => h) (Or.inl ⟨by rfl, ?_⟩) hH ?_
        rotate_left
        · intro w hSw; (try dsimp only at hSw); go_simp; try with_reducible rfl
        try simp only [Act.put, List.setIfInBounds_toArray, List.set_cons_zero, List.set_cons_succ]
        refine wpAnyH_take (i := 5) (oi := ({ dst := some 31, op := Go.Op.move (Go.Operand.tmp 9), type := 3, pos := "verdict.go:22", after := #[], guard := none } : Oper)) (v := ?_) rfl (by kernel_rfl) (by kernel_rfl) (by kernel_rfl) (fun _ _ _ h => h) (Or.inl ⟨by rfl, ?_⟩) hH ?_
        rotate_left
        · intro w hSw; (try dsimp only at hSw); go_simp; try with_reducible rfl
        try simp only [Act.put, List.setIfInBounds_toArray, List.set_cons_zero, List.set_cons_succ]
        refine wpAnyH_take (i := 6) (oi := ({ dst := some 32, op := Go.Op.indexAddr 31 (Go.Operand.tmp 30) (Go.Operand.tmp 31), type := 0, pos := "verdict.go:22", after := #[{ on := 4, ground := Go.Ground.data }, { on := 5, ground := Go.Ground.data }], guard := none } : Oper)) (v := ?_) rfl (by kernel_rfl) (by kernel_rfl) (by kernel_rfl) (fun _ _ _ h => h) (Or.inl ⟨by rfl, ?_⟩) hH ?_
        rotate_left
        · intro w hSw; (try dsimp only at hSw); go_simp; try with_reducible rfl
        try simp only [Act.put, List.setIfInBounds_toArray, List.set_cons_zero, List.set_cons_succ]
        refine wpAnyH_take (i := 7) (oi := ({ dst := some 33, op := Go.Op.load 38 (Go.Operand.tmp 32), type := 38, pos := "verdict.go:22", after := #[{ on := 6, ground := Go.Ground.data }], guard := none } : Oper)) (v := ?_) rfl (by kernel_rfl) (by kernel_rfl) (by kernel_rfl) (fun _ _ _ h => h) (Or.inl ⟨by rfl, ?_⟩) hH ?_
        rotate_left
        · intro w hSw; (try dsimp only at hSw); go_simp; try with_reducible rfl
        try simp only [Act.put, List.setIfInBounds_toArray, List.set_cons_zero, List.set_cons_succ]
        refine wpAnyH_ready (rs := [3]) (by kernel_rfl) (by simp) ?_
        refine AllReadyH.cons (o := ({ dst := some 29, op := Go.Op.call { callee := Go.Callee.value (Go.Operand.func 22), args := #[Go.Operand.tmp 26, Go.Operand.tmp 28], argTypes := #[35, 3] }, type := 58, pos := "verdict.go:22", after := #[{ on := 0, ground := Go.Ground.data }, { on := 2, ground := Go.Ground.data }], guard := none } : Oper)) rfl (fun K hK => ?_) AllReadyH.nil
        go_simp
        go_at_call 22
        refine (inTime_any M M.no _).mono ?_
        rintro e9 v1 ⟨rfl, hv1⟩
        have hb : Bl w2.drew v1 := by rw [hv1]; go_grown
        have hp1 : v1.cell? ⟨w2.drew.heap.size + 1, 0, none⟩ = some (.int .i64 M.no) := by rw [hv1]; go_cell
        have hm1 : MastAt v1 w2.drew.heap.size M := by rw [hv1]; exact ⟨by go_cell, by go_cell, by go_cell, by go_cell, by go_cell, by go_cell⟩
        clear hv1
        refine hK.out _ _ ⟨hH.1.tr hb, kcb hb hH.2.1, kcb hb hH.2.2.1, kcb hb hH.2.2.2.1, kcb hb hH.2.2.2.2.1, kcb hb hH.2.2.2.2.2.1, kcb hb hH.2.2.2.2.2.2.1, kcb hb hH.2.2.2.2.2.2.2.1, kcb hb hH.2.2.2.2.2.2.2.2.1, kcb hb hH.2.2.2.2.2.2.2.2.2⟩ (fun hH' => ?_)
        clear hH
        have hH := hH'
        clear hH' hK K
        try simp only [Act.put, List.setIfInBounds_toArray, List.set_cons_zero, List.set_cons_succ]
        refine wpAnyH_ready (rs := [8]) (by kernel_rfl) (by simp) ?_
        refine AllReadyH.cons (o := ({ dst := some 34, op := Go.Op.call { callee := Go.Callee.value (Go.Operand.tmp 29), args := #[Go.Operand.tmp 33], argTypes := #[38] }, type := 4, pos := "verdict.go:22", after := #[{ on := 3, ground := Go.Ground.data }, { on := 7, ground := Go.Ground.data }, { on := 3, ground := Go.Ground.chain }], guard := none } : Oper)) rfl (fun K hK => ?_) AllReadyH.nil
        go_simp
        go_at_call 32
        refine (inTime1_any M M.no (E k).t (E k).ki (E k).n _ _ _ (by omega) (by omega) vla0 vla1 hp1 hm1).mono ?_
        rintro e9 v2 ⟨rfl, hb⟩
        rw [Q.out]
        refine hK.out _ _ ⟨hH.1.tr hb, kcb hb hH.2.1, kcb hb hH.2.2.1, kcb hb hH.2.2.2.1, kcb hb hH.2.2.2.2.1, kcb hb hH.2.2.2.2.2.1, kcb hb hH.2.2.2.2.2.2.1, kcb hb hH.2.2.2.2.2.2.2.1, kcb hb hH.2.2.2.2.2.2.2.2.1, kcb hb hH.2.2.2.2.2.2.2.2.2⟩ (fun hH' => ?_)
        clear hH
        have hH := hH'
        clear hH' hK K
        try simp only [Act.put, List.setIfInBounds_toArray, List.set_cons_zero, List.set_cons_succ]
        refine wpAnyH_done (by kernel_rfl) ?_ _
        refine NoPanic.normal ?_
        have B3 := hH.1
        have m0 := hH.2.1
        have m1 := hH.2.2.1
        have m2 := hH.2.2.2.1
        have m3 := hH.2.2.2.2.1
        have m4 := hH.2.2.2.2.2.1
        have m5 := hH.2.2.2.2.2.2.1
        have y0 := hH.2.2.2.2.2.2.2.1
        have y1 := hH.2.2.2.2.2.2.2.2.1
        have y2 := hH.2.2.2.2.2.2.2.2.2
        clear hH hp1 hm1
        have l3 := ltb m0
        have ly3 := ltb y0
        go_wp2_with fail
        refine wp_region_noPanic ?_
        refine wp_region_held_drew (S := fun w' => Bl w w' ∧ w'.cell? ⟨w.heap.size, 0, none⟩ = some (.int .i64 M.no) ∧ w'.cell? ⟨w.heap.size, 1, none⟩ = some (.int .i64 M.hf) ∧ w'.cell? ⟨w.heap.size, 2, none⟩ = some (.int .i64 M.fu) ∧ w'.cell? ⟨w.heap.size, 3, none⟩ = some (.int .i64 M.la) ∧ w'.cell? ⟨w.heap.size, 4, none⟩ = some (.int .i64 M.ag) ∧ w'.cell? ⟨w.heap.size, 5, none⟩ = some (.int .i64 M.wi) ∧ w'.cell? ⟨b, off + k * 3, none⟩ = some (.int .i64 (E k).t) ∧ w'.cell? ⟨b, off + k * 3 + 1, none⟩ = some (.int .i64 (E k).ki) ∧ w'.cell? ⟨b, off + k * 3 + 2, none⟩ = some (.int .i64 (E k).n)) (by kernel_rfl) (⟨B3.tr (Bl.d1 _), kcb (Bl.d1 _) m0, kcb (Bl.d1 _) m1, kcb (Bl.d1 _) m2, kcb (Bl.d1 _) m3, kcb (Bl.d1 _) m4, kcb (Bl.d1 _) m5, kcb (Bl.d1 _) y0, kcb (Bl.d1 _) y1, kcb (Bl.d1 _) y2⟩) (fun hH => ?_)
        refine wpAnyH_take (i := 0) (oi := ({ dst := some 35, op := Go.Op.move (Go.Operand.tmp 1), type := 31, pos := "verdict.go:26", after := #[], guard := none } : Oper)) (v := ?_) rfl (by kernel_rfl) (by kernel_rfl) (by kernel_rfl) (fun _ _ _ h => h) (Or.inl ⟨by rfl, ?_⟩) hH ?_
        rotate_left
        · intro w hSw; (try dsimp only at hSw); go_simp; (try rw [if_pos hkc]); try with_reducible rfl
        try simp only [Act.put, List.setIfInBounds_toArray, List.set_cons_zero, List.set_cons_succ]
        refine wpAnyH_take (i := 1) (oi := ({ dst := some 36, op := Go.Op.move (Go.Operand.tmp 9), type := 3, pos := "verdict.go:26", after := #[], guard := none } : Oper)) (v := ?_) rfl (by kernel_rfl) (by kernel_rfl) (by kernel_rfl) (fun _ _ _ h => h) (Or.inl ⟨by rfl, ?_⟩) hH ?_
        rotate_left
        · intro w hSw; (try dsimp only at hSw); go_simp; (try rw [if_pos hkc]); try with_reducible rfl
        try simp only [Act.put, List.setIfInBounds_toArray, List.set_cons_zero, List.set_cons_succ]
        refine wpAnyH_take (i := 2) (oi := ({ dst := some 37, op := Go.Op.slice 31 (Go.Operand.tmp 35) none (some (Go.Operand.tmp 36)) none, type := 31, pos := "verdict.go:26", after := #[{ on := 0, ground := Go.Ground.data }, { on := 1, ground := Go.Ground.data }], guard := none } : Oper)) (v := ?_) rfl (by kernel_rfl) (by kernel_rfl) (by kernel_rfl) (fun _ _ _ h => h) (Or.inl ⟨by rfl, ?_⟩) hH ?_
        rotate_left
        · intro w hSw; (try dsimp only at hSw); go_simp; (try rw [if_pos hkc]); try with_reducible rfl
        try simp only [Act.put, List.setIfInBounds_toArray, List.set_cons_zero, List.set_cons_succ]
        refine wpAnyH_ready (rs := [3]) (by kernel_rfl) (by simp) ?_
        refine AllReadyH.cons (o := ({ dst := some 38, op := Go.Op.call { callee := Go.Callee.value (Go.Operand.func 24), args := #[Go.Operand.const (Go.Value.int Go.IntKind.i64 6)], argTypes := #[3] }, type := 58, pos := "verdict.go:26", after := #[], guard := none } : Oper)) rfl (fun K hK => ?_) AllReadyH.nil
        go_simp
        go_at_call 24
        refine (isOf_any _ _).mono ?_
        rintro e9 v3 ⟨rfl, hv3⟩
        have hb : Bl v2.drew v3 := by rw [hv3]; go_grown
        have hp3 : v3.cell? ⟨v2.drew.heap.size, 0, none⟩ = some (.int .i64 6) := by rw [hv3]; go_cell
        clear hv3
        refine hK.out _ _ ⟨hH.1.tr hb, kcb hb hH.2.1, kcb hb hH.2.2.1, kcb hb hH.2.2.2.1, kcb hb hH.2.2.2.2.1, kcb hb hH.2.2.2.2.2.1, kcb hb hH.2.2.2.2.2.2.1, kcb hb hH.2.2.2.2.2.2.2.1, kcb hb hH.2.2.2.2.2.2.2.2.1, kcb hb hH.2.2.2.2.2.2.2.2.2⟩ (fun hH' => ?_)
        clear hH
        have hH := hH'
        clear hH' hK K
        try simp only [Act.put, List.setIfInBounds_toArray, List.set_cons_zero, List.set_cons_succ]
        refine wpAnyH_ready (rs := [4]) (by kernel_rfl) (by simp) ?_
        refine AllReadyH.cons (o := ({ dst := some 39, op := Go.Op.call { callee := Go.Callee.value (Go.Operand.func 23), args := #[Go.Operand.tmp 37, Go.Operand.tmp 38], argTypes := #[31, 58] }, type := 4, pos := "verdict.go:26", after := #[{ on := 2, ground := Go.Ground.data }, { on := 3, ground := Go.Ground.data }, { on := 3, ground := Go.Ground.chain }], guard := none } : Oper)) rfl (fun K hK => ?_) AllReadyH.nil
        go_simp
        go_at_call 23
        refine (contains_any (some ⟨b, off, none⟩) k c E 6 _ _ ((HA.out.below hH.1).take (by omega)) (by have := HN.out; omega) hp3).mono ?_
        rintro e9 v4 ⟨rfl, hb⟩
        rw [F.out]
        refine hK.out _ _ ⟨hH.1.tr hb, kcb hb hH.2.1, kcb hb hH.2.2.1, kcb hb hH.2.2.2.1, kcb hb hH.2.2.2.2.1, kcb hb hH.2.2.2.2.2.1, kcb hb hH.2.2.2.2.2.2.1, kcb hb hH.2.2.2.2.2.2.2.1, kcb hb hH.2.2.2.2.2.2.2.2.1, kcb hb hH.2.2.2.2.2.2.2.2.2⟩ (fun hH' => ?_)
        clear hH
        have hH := hH'
        clear hH' hK K
        try simp only [Act.put, List.setIfInBounds_toArray, List.set_cons_zero, List.set_cons_succ]
        refine wpAnyH_take (i := 5) (oi := ({ dst := some 40, op := Go.Op.move (Go.Operand.tmp 39), type := 4, pos := "verdict.go:26", after := #[{ on := 4, ground := Go.Ground.data }, { on := 4, ground := Go.Ground.chain }], guard := none } : Oper)) (v := ?_) rfl (by kernel_rfl) (by kernel_rfl) (by kernel_rfl) (fun _ _ _ h => h) (Or.inl ⟨by rfl, ?_⟩) hH ?_
        rotate_left
        · intro w hSw; (try dsimp only at hSw); go_simp; (try rw [if_pos hkc]); try with_reducible rfl
        try simp only [Act.put, List.setIfInBounds_toArray, List.set_cons_zero, List.set_cons_succ]
        refine wpAnyH_take (i := 6) (oi := ({ dst := some 41, op := Go.Op.load 35 (Go.Operand.tmp 2), type := 35, pos := "verdict.go:26", after := #[{ on := 5, ground := Go.Ground.guard }], guard := some (5, true) } : Oper)) (v := ?_) rfl (by kernel_rfl) (by kernel_rfl) (by kernel_rfl) (fun _ _ _ h => h) (Or.inl ⟨by rfl, ?_⟩) hH ?_
        rotate_left
        · intro w hSw; (try dsimp only at hSw); go_simp; (try rw [if_pos hkc]); try with_reducible rfl
        try simp only [Act.put, List.setIfInBounds_toArray, List.set_cons_zero, List.set_cons_succ]
        refine wpAnyH_take (i := 7) (oi := ({ dst := some 42, op := Go.Op.load 35 (Go.Operand.tmp 2), type := 35, pos := "verdict.go:26", after := #[{ on := 5, ground := Go.Ground.guard }], guard := some (5, true) } : Oper)) (v := ?_) rfl (by kernel_rfl) (by kernel_rfl) (by kernel_rfl) (fun _ _ _ h => h) (Or.inl ⟨by rfl, ?_⟩) hH ?_
        rotate_left
        · intro w hSw; (try dsimp only at hSw); go_simp; (try rw [if_pos hkc]); try with_reducible rfl
        try simp only [Act.put, List.setIfInBounds_toArray, List.set_cons_zero, List.set_cons_succ]
        refine wpAnyH_take (i := 10) (oi := ({ dst := some 45, op := Go.Op.move (Go.Operand.tmp 1), type := 31, pos := "verdict.go:26", after := #[{ on := 5, ground := Go.Ground.guard }], guard := some (5, true) } : Oper)) (v := ?_) rfl (by kernel_rfl) (by kernel_rfl) (by kernel_rfl) (fun _ _ _ h => h) (Or.inl ⟨by rfl, ?_⟩) hH ?_
        rotate_left
        · intro w hSw; (try dsimp only at hSw); go_simp; (try rw [if_pos hkc]); try with_reducible rfl
        try simp only [Act.put, List.setIfInBounds_toArray, List.set_cons_zero, List.set_cons_succ]
        refine wpAnyH_take (i := 11) (oi := ({ dst := some 46, op := Go.Op.move (Go.Operand.tmp 9), type := 3, pos := "verdict.go:26", after := #[{ on := 5, ground := Go.Ground.guard }], guard := some (5, true) } : Oper)) (v := ?_) rfl (by kernel_rfl) (by kernel_rfl) (by kernel_rfl) (fun _ _ _ h => h) (Or.inl ⟨by rfl, ?_⟩) hH ?_
        rotate_left
        · intro w hSw; (try dsimp only at hSw); go_simp; (try rw [if_pos hkc]); try with_reducible rfl
        try simp only [Act.put, List.setIfInBounds_toArray, List.set_cons_zero, List.set_cons_succ]
        refine wpAnyH_take (i := 12) (oi := ({ dst := some 47, op := Go.Op.indexAddr 31 (Go.Operand.tmp 45) (Go.Operand.tmp 46), type := 0, pos := "verdict.go:26", after := #[{ on := 10, ground := Go.Ground.data }, { on := 11, ground := Go.Ground.data }, { on := 5, ground := Go.Ground.guard }], guard := some (5, true) } : Oper)) (v := ?_) rfl (by kernel_rfl) (by kernel_rfl) (by kernel_rfl) (fun _ _ _ h => h) (Or.inl ⟨by rfl, ?_⟩) hH ?_
        rotate_left
        · intro w hSw; (try dsimp only at hSw); go_simp; (try rw [if_pos hkc]); try with_reducible rfl
        try simp only [Act.put, List.setIfInBounds_toArray, List.set_cons_zero, List.set_cons_succ]
        refine wpAnyH_take (i := 13) (oi := ({ dst := some 48, op := Go.Op.load 38 (Go.Operand.tmp 47), type := 38, pos := "verdict.go:26", after := #[{ on := 12, ground := Go.Ground.data }, { on := 5, ground := Go.Ground.guard }], guard := some (5, true) } : Oper)) (v := ?_) rfl (by kernel_rfl) (by kernel_rfl) (by kernel_rfl) (fun _ _ _ h => h) (Or.inl ⟨by rfl, ?_⟩) hH ?_
        rotate_left
        · intro w hSw; (try dsimp only at hSw); go_simp; (try rw [if_pos hkc]); try with_reducible rfl
        try simp only [Act.put, List.setIfInBounds_toArray, List.set_cons_zero, List.set_cons_succ]
        refine wpAnyH_ready (rs := [8]) (by kernel_rfl) (by simp) ?_
        refine AllReadyH.cons (o := ({ dst := some 43, op := Go.Op.call { callee := Go.Callee.value (Go.Operand.func 25), args := #[Go.Operand.tmp 42], argTypes := #[35] }, type := 3, pos := "verdict.go:26", after := #[{ on := 7, ground := Go.Ground.data }, { on := 5, ground := Go.Ground.chain }, { on := 5, ground := Go.Ground.guard }], guard := some (5, true) } : Oper)) rfl (fun K hK => ?_) AllReadyH.nil
        go_simp
        go_at_call 25
        refine (again_any M _ (by omega) (by omega)).mono ?_
        rintro e9 v5 ⟨rfl, hb⟩
        refine hK.out _ _ ⟨hH.1.tr hb, kcb hb hH.2.1, kcb hb hH.2.2.1, kcb hb hH.2.2.2.1, kcb hb hH.2.2.2.2.1, kcb hb hH.2.2.2.2.2.1, kcb hb hH.2.2.2.2.2.2.1, kcb hb hH.2.2.2.2.2.2.2.1, kcb hb hH.2.2.2.2.2.2.2.2.1, kcb hb hH.2.2.2.2.2.2.2.2.2⟩ (fun hH' => ?_)
        clear hH
        have hH := hH'
        clear hH' hK K
        try simp only [Act.put, List.setIfInBounds_toArray, List.set_cons_zero, List.set_cons_succ]
        refine wpAnyH_ready (rs := [9]) (by kernel_rfl) (by simp) ?_
        refine AllReadyH.cons (o := ({ dst := some 44, op := Go.Op.call { callee := Go.Callee.value (Go.Operand.func 22), args := #[Go.Operand.tmp 41, Go.Operand.tmp 43], argTypes := #[35, 3] }, type := 58, pos := "verdict.go:26", after := #[{ on := 6, ground := Go.Ground.data }, { on := 8, ground := Go.Ground.data }, { on := 8, ground := Go.Ground.chain }, { on := 5, ground := Go.Ground.guard }], guard := some (5, true) } : Oper)) rfl (fun K hK => ?_) AllReadyH.nil
        go_simp
        go_at_call 22
        refine (inTime_any M (M.no + M.ag) _).mono ?_
        rintro e9 v6 ⟨rfl, hv6⟩
        have hb : Bl v5 v6 := by rw [hv6]; go_grown
        have hp6 : v6.cell? ⟨v5.heap.size + 1, 0, none⟩ = some (.int .i64 (M.no + M.ag)) := by rw [hv6]; go_cell
        have hm6 : MastAt v6 v5.heap.size M := by rw [hv6]; exact ⟨by go_cell, by go_cell, by go_cell, by go_cell, by go_cell, by go_cell⟩
        clear hv6
        refine hK.out _ _ ⟨hH.1.tr hb, kcb hb hH.2.1, kcb hb hH.2.2.1, kcb hb hH.2.2.2.1, kcb hb hH.2.2.2.2.1, kcb hb hH.2.2.2.2.2.1, kcb hb hH.2.2.2.2.2.2.1, kcb hb hH.2.2.2.2.2.2.2.1, kcb hb hH.2.2.2.2.2.2.2.2.1, kcb hb hH.2.2.2.2.2.2.2.2.2⟩ (fun hH' => ?_)
        clear hH
        have hH := hH'
        clear hH' hK K
        try simp only [Act.put, List.setIfInBounds_toArray, List.set_cons_zero, List.set_cons_succ]
        refine wpAnyH_ready (rs := [14]) (by kernel_rfl) (by simp) ?_
        refine AllReadyH.cons (o := ({ dst := some 49, op := Go.Op.call { callee := Go.Callee.value (Go.Operand.tmp 44), args := #[Go.Operand.tmp 48], argTypes := #[38] }, type := 4, pos := "verdict.go:26", after := #[{ on := 9, ground := Go.Ground.data }, { on := 13, ground := Go.Ground.data }, { on := 9, ground := Go.Ground.chain }, { on := 5, ground := Go.Ground.guard }], guard := some (5, true) } : Oper)) rfl (fun K hK => ?_) AllReadyH.nil
        go_simp
        go_at_call 32
        refine (inTime1_any M (M.no + M.ag) (E k).t (E k).ki (E k).n _ _ _ (by omega) (by omega) vla0 vla1 hp6 hm6).mono ?_
        rintro e9 v7 ⟨rfl, hb⟩
        rw [G.out]
        refine hK.out _ _ ⟨hH.1.tr hb, kcb hb hH.2.1, kcb hb hH.2.2.1, kcb hb hH.2.2.2.1, kcb hb hH.2.2.2.2.1, kcb hb hH.2.2.2.2.2.1, kcb hb hH.2.2.2.2.2.2.1, kcb hb hH.2.2.2.2.2.2.2.1, kcb hb hH.2.2.2.2.2.2.2.2.1, kcb hb hH.2.2.2.2.2.2.2.2.2⟩ (fun hH' => ?_)
        clear hH
        have hH := hH'
        clear hH' hK K
        try simp only [Act.put, List.setIfInBounds_toArray, List.set_cons_zero, List.set_cons_succ]
        refine wpAnyH_take (i := 15) (oi := ({ dst := some 50, op := Go.Op.pick (Go.Operand.tmp 40) (Go.Operand.tmp 49) (Go.Operand.const (Go.Value.bool false)), type := 4, pos := "verdict.go:26", after := #[{ on := 5, ground := Go.Ground.data }, { on := 14, ground := Go.Ground.data }], guard := none } : Oper)) (v := ?_) rfl (by kernel_rfl) (by kernel_rfl) (by kernel_rfl) (fun _ _ _ h => h) (Or.inl ⟨by rfl, ?_⟩) hH ?_
        rotate_left
        · intro w hSw; (try dsimp only at hSw); go_simp; (try rw [if_pos hkc]); try with_reducible rfl
        try simp only [Act.put, List.setIfInBounds_toArray, List.set_cons_zero, List.set_cons_succ]
        refine wpAnyH_done (by kernel_rfl) ?_ _
        refine NoPanic.normal ?_
        go_wp2_with fail
        refine (told_any (some ⟨b, off + k * 3, none⟩) (n - k) (c - k) (fun j => E (k + j)) 1 2 _ ((HA.out.below hH.1).drop (by omega)) (by have := HN.out; omega)).mono ?_
        rintro e9 v9 ⟨rfl, hb⟩
        rw [hv]
        have HB := Lib.hid (hH.1.tr hb)
        clear hH hb
        go_wp2_with fail
        go_ret2
        exact ⟨by rw [HV.out]; rfl, HB.out⟩
    · have F := Lib.hid (show decide (hasF E 6 0 k) = false from decide_eq_false f)
      have HV := Lib.hid (show verR M E n = (v, 0) by rw [HV.out, if_neg (fun h => f h.1)]; simp only [← hv, has_shift])
      clear f
      go_enter Tryd.func13, Tryd.ntmps13
      go_wp2_with fail
      refine (run_any M (some ⟨b, off, none⟩) n c E _ (HA.out.below (by go_grown)) HN.out hc HCC.out).mono ?_
      rintro q1 w1 ⟨rfl, hb⟩
      have m0 := kcb hb (b := w.heap.size) (o := 0) (v := .int .i64 M.no) (by first | assumption | (refine cellUp ?_; assumption) | go_cell)
      have m1 := kcb hb (b := w.heap.size) (o := 1) (v := .int .i64 M.hf) (by first | assumption | (refine cellUp ?_; assumption) | go_cell)
      have m2 := kcb hb (b := w.heap.size) (o := 2) (v := .int .i64 M.fu) (by first | assumption | (refine cellUp ?_; assumption) | go_cell)
      have m3 := kcb hb (b := w.heap.size) (o := 3) (v := .int .i64 M.la) (by first | assumption | (refine cellUp ?_; assumption) | go_cell)
      have m4 := kcb hb (b := w.heap.size) (o := 4) (v := .int .i64 M.ag) (by first | assumption | (refine cellUp ?_; assumption) | go_cell)
      have m5 := kcb hb (b := w.heap.size) (o := 5) (v := .int .i64 M.wi) (by first | assumption | (refine cellUp ?_; assumption) | go_cell)
      have y0 := kcb hb (b := b) (o := off + k * 3) (v := .int .i64 (E k).t) (by first | assumption | (refine cellUp ?_; assumption) | go_cell)
      have y1 := kcb hb (b := b) (o := off + k * 3 + 1) (v := .int .i64 (E k).ki) (by first | assumption | (refine cellUp ?_; assumption) | go_cell)
      have y2 := kcb hb (b := b) (o := off + k * 3 + 2) (v := .int .i64 (E k).n) (by first | assumption | (refine cellUp ?_; assumption) | go_cell)
      have B1 : Bl w w1 := Below.trans (by go_grown) (hb.mono (by (try simp only [World.size_alloc, World.size_setCell]); omega))
      have l1 := ltb y2
      have l1_1 := ltb m5
      have zz1 := B1.size
      clear hb
      rw [HR.out]
      have ly1 := ltb y0
      have lm1 := ltb m0
      go_wp2_with fail
      refine (firstDrop_any (some ⟨b, off, none⟩) n c E _ (HA.out.below (by go_grown)) HN.out).mono ?_
      rintro q2 w2 ⟨rfl, hb⟩
      have m0 := kcb hb (b := w.heap.size) (o := 0) (v := .int .i64 M.no) (by first | assumption | (refine cellUp ?_; assumption) | go_cell)
      have m1 := kcb hb (b := w.heap.size) (o := 1) (v := .int .i64 M.hf) (by first | assumption | (refine cellUp ?_; assumption) | go_cell)
      have m2 := kcb hb (b := w.heap.size) (o := 2) (v := .int .i64 M.fu) (by first | assumption | (refine cellUp ?_; assumption) | go_cell)
      have m3 := kcb hb (b := w.heap.size) (o := 3) (v := .int .i64 M.la) (by first | assumption | (refine cellUp ?_; assumption) | go_cell)
      have m4 := kcb hb (b := w.heap.size) (o := 4) (v := .int .i64 M.ag) (by first | assumption | (refine cellUp ?_; assumption) | go_cell)
      have m5 := kcb hb (b := w.heap.size) (o := 5) (v := .int .i64 M.wi) (by first | assumption | (refine cellUp ?_; assumption) | go_cell)
      have y0 := kcb hb (b := b) (o := off + k * 3) (v := .int .i64 (E k).t) (by first | assumption | (refine cellUp ?_; assumption) | go_cell)
      have y1 := kcb hb (b := b) (o := off + k * 3 + 1) (v := .int .i64 (E k).ki) (by first | assumption | (refine cellUp ?_; assumption) | go_cell)
      have y2 := kcb hb (b := b) (o := off + k * 3 + 2) (v := .int .i64 (E k).n) (by first | assumption | (refine cellUp ?_; assumption) | go_cell)
      have B2 : Bl w w2 := Below.trans (by go_grown) (hb.mono (by (try simp only [World.size_alloc, World.size_setCell]); omega))
      have l2 := ltb y2
      have l2_1 := ltb m5
      have zz2 := B2.size
      clear hb
      rw [HI.out]
      have ly2 := ltb y0
      have lm2 := ltb m0
      go_wp2_with fail
      refine wp_region_noPanic ?_
      refine wp_region_held_drew (S := fun w' => Bl w w' ∧ w'.cell? ⟨w.heap.size, 0, none⟩ = some (.int .i64 M.no) ∧ w'.cell? ⟨w.heap.size, 1, none⟩ = some (.int .i64 M.hf) ∧ w'.cell? ⟨w.heap.size, 2, none⟩ = some (.int .i64 M.fu) ∧ w'.cell? ⟨w.heap.size, 3, none⟩ = some (.int .i64 M.la) ∧ w'.cell? ⟨w.heap.size, 4, none⟩ = some (.int .i64 M.ag) ∧ w'.cell? ⟨w.heap.size, 5, none⟩ = some (.int .i64 M.wi) ∧ w'.cell? ⟨b, off + k * 3, none⟩ = some (.int .i64 (E k).t) ∧ w'.cell? ⟨b, off + k * 3 + 1, none⟩ = some (.int .i64 (E k).ki) ∧ w'.cell? ⟨b, off + k * 3 + 2, none⟩ = some (.int .i64 (E k).n)) (by kernel_rfl) (⟨B2.tr (Bl.d1 _), kcb (Bl.d1 _) m0, kcb (Bl.d1 _) m1, kcb (Bl.d1 _) m2, kcb (Bl.d1 _) m3, kcb (Bl.d1 _) m4, kcb (Bl.d1 _) m5, kcb (Bl.d1 _) y0, kcb (Bl.d1 _) y1, kcb (Bl.d1 _) y2⟩) (fun hH => ?_)
      refine wpAnyH_take (i := 0) (oi := ({ dst := some 26, op := Go.Op.load 35 (Go.Operand.tmp 2), type := 35, pos := "verdict.go:22", after := #[], guard := none } : Oper)) (v := ?_) rfl (by kernel_rfl) (by kernel_rfl) (by kernel_rfl) (fun _ _ _ h => h) (Or.inl ⟨by rfl, ?_⟩) hH ?_
      rotate_left
      · intro w hSw; (try dsimp only at hSw); go_simp; try with_reducible rfl
      try simp only [Act.put, List.setIfInBounds_toArray, List.set_cons_zero, List.set_cons_succ]
      refine wpAnyH_take (i := 1) (oi := ({ dst := some 27, op := Go.Op.fieldAddr 35 (Go.Operand.tmp 2) 0, type := 0, pos := "verdict.go:22", after := #[], guard := none } : Oper)) (v := ?_) rfl (by kernel_rfl) (by kernel_rfl) (by kernel_rfl) (fun _ _ _ h => h) (Or.inl ⟨by rfl, ?_⟩) hH ?_
      rotate_left
      · intro w hSw; (try dsimp only at hSw); go_simp; try with_reducible rfl
      try simp only [Act.put, List.setIfInBounds_toArray, List.set_cons_zero, List.set_cons_succ]
      refine wpAnyH_take (i := 2) (oi := ({ dst := some 28, op := Go.Op.load 3 (Go.Operand.tmp 27), type := 3, pos := "verdict.go:22", after := #[{ on := 1, ground := Go.Ground.data }], guard := none } : Oper)) (v := ?_) rfl (by kernel_rfl) (by kernel_rfl) (by kernel_rfl) (fun _ _ _ h => h) (Or.inl ⟨by rfl, ?_⟩) hH ?_
      rotate_left
      · intro w hSw; (try dsimp only at hSw); go_simp; try with_reducible rfl
      try simp only [Act.put, List.setIfInBounds_toArray, List.set_cons_zero, List.set_cons_succ]
      refine wpAnyH_take (i := 4) (oi := ({ dst := some 30, op := Go.Op.move (Go.Operand.tmp 1), type := 31, pos := "verdict.go:22", after := #[], guard := none } : Oper)) (v := ?_) rfl (by kernel_rfl) (by kernel_rfl) (by kernel_rfl) (fun _ _ _ h => h) (Or.inl ⟨by rfl, ?_⟩) hH ?_
      rotate_left
      · intro w hSw; (try dsimp only at hSw); go_simp; try with_reducible rfl
      try simp only [Act.put, List.setIfInBounds_toArray, List.set_cons_zero, List.set_cons_succ]
      refine wpAnyH_take (i := 5) (oi := ({ dst := some 31, op := Go.Op.move (Go.Operand.tmp 9), type := 3, pos := "verdict.go:22", after := #[], guard := none } : Oper)) (v := ?_) rfl (by kernel_rfl) (by kernel_rfl) (by kernel_rfl) (fun _ _ _ h => h) (Or.inl ⟨by rfl, ?_⟩) hH ?_
      rotate_left
      · intro w hSw; (try dsimp only at hSw); go_simp; try with_reducible rfl
      try simp only [Act.put, List.setIfInBounds_toArray, List.set_cons_zero, List.set_cons_succ]
      refine wpAnyH_take (i := 6) (oi := ({ dst := some 32, op := Go.Op.indexAddr 31 (Go.Operand.tmp 30) (Go.Operand.tmp 31), type := 0, pos := "verdict.go:22", after := #[{ on := 4, ground := Go.Ground.data }, { on := 5, ground := Go.Ground.data }], guard := none } : Oper)) (v := ?_) rfl (by kernel_rfl) (by kernel_rfl) (by kernel_rfl) (fun _ _ _ h => h) (Or.inl ⟨by rfl, ?_⟩) hH ?_
      rotate_left
      · intro w hSw; (try dsimp only at hSw); go_simp; try with_reducible rfl
      try simp only [Act.put, List.setIfInBounds_toArray, List.set_cons_zero, List.set_cons_succ]
      refine wpAnyH_take (i := 7) (oi := ({ dst := some 33, op := Go.Op.load 38 (Go.Operand.tmp 32), type := 38, pos := "verdict.go:22", after := #[{ on := 6, ground := Go.Ground.data }], guard := none } : Oper)) (v := ?_) rfl (by kernel_rfl) (by kernel_rfl) (by kernel_rfl) (fun _ _ _ h => h) (Or.inl ⟨by rfl, ?_⟩) hH ?_
      rotate_left
      · intro w hSw; (try dsimp only at hSw); go_simp; try with_reducible rfl
      try simp only [Act.put, List.setIfInBounds_toArray, List.set_cons_zero, List.set_cons_succ]
      refine wpAnyH_ready (rs := [3]) (by kernel_rfl) (by simp) ?_
      refine AllReadyH.cons (o := ({ dst := some 29, op := Go.Op.call { callee := Go.Callee.value (Go.Operand.func 22), args := #[Go.Operand.tmp 26, Go.Operand.tmp 28], argTypes := #[35, 3] }, type := 58, pos := "verdict.go:22", after := #[{ on := 0, ground := Go.Ground.data }, { on := 2, ground := Go.Ground.data }], guard := none } : Oper)) rfl (fun K hK => ?_) AllReadyH.nil
      go_simp
      go_at_call 22
      refine (inTime_any M M.no _).mono ?_
      rintro e9 v1 ⟨rfl, hv1⟩
      have hb : Bl w2.drew v1 := by rw [hv1]; go_grown
      have hp1 : v1.cell? ⟨w2.drew.heap.size + 1, 0, none⟩ = some (.int .i64 M.no) := by rw [hv1]; go_cell
      have hm1 : MastAt v1 w2.drew.heap.size M := by rw [hv1]; exact ⟨by go_cell, by go_cell, by go_cell, by go_cell, by go_cell, by go_cell⟩
      clear hv1
      refine hK.out _ _ ⟨hH.1.tr hb, kcb hb hH.2.1, kcb hb hH.2.2.1, kcb hb hH.2.2.2.1, kcb hb hH.2.2.2.2.1, kcb hb hH.2.2.2.2.2.1, kcb hb hH.2.2.2.2.2.2.1, kcb hb hH.2.2.2.2.2.2.2.1, kcb hb hH.2.2.2.2.2.2.2.2.1, kcb hb hH.2.2.2.2.2.2.2.2.2⟩ (fun hH' => ?_)
      clear hH
      have hH := hH'
      clear hH' hK K
      try simp only [Act.put, List.setIfInBounds_toArray, List.set_cons_zero, List.set_cons_succ]
      refine wpAnyH_ready (rs := [8]) (by kernel_rfl) (by simp) ?_
      refine AllReadyH.cons (o := ({ dst := some 34, op := Go.Op.call { callee := Go.Callee.value (Go.Operand.tmp 29), args := #[Go.Operand.tmp 33], argTypes := #[38] }, type := 4, pos := "verdict.go:22", after := #[{ on := 3, ground := Go.Ground.data }, { on := 7, ground := Go.Ground.data }, { on := 3, ground := Go.Ground.chain }], guard := none } : Oper)) rfl (fun K hK => ?_) AllReadyH.nil
      go_simp
      go_at_call 32
      refine (inTime1_any M M.no (E k).t (E k).ki (E k).n _ _ _ (by omega) (by omega) vla0 vla1 hp1 hm1).mono ?_
      rintro e9 v2 ⟨rfl, hb⟩
      rw [Q.out]
      refine hK.out _ _ ⟨hH.1.tr hb, kcb hb hH.2.1, kcb hb hH.2.2.1, kcb hb hH.2.2.2.1, kcb hb hH.2.2.2.2.1, kcb hb hH.2.2.2.2.2.1, kcb hb hH.2.2.2.2.2.2.1, kcb hb hH.2.2.2.2.2.2.2.1, kcb hb hH.2.2.2.2.2.2.2.2.1, kcb hb hH.2.2.2.2.2.2.2.2.2⟩ (fun hH' => ?_)
      clear hH
      have hH := hH'
      clear hH' hK K
      try simp only [Act.put, List.setIfInBounds_toArray, List.set_cons_zero, List.set_cons_succ]
      refine wpAnyH_done (by kernel_rfl) ?_ _
      refine NoPanic.normal ?_
      have B3 := hH.1
      have m0 := hH.2.1
      have m1 := hH.2.2.1
      have m2 := hH.2.2.2.1
      have m3 := hH.2.2.2.2.1
      have m4 := hH.2.2.2.2.2.1
      have m5 := hH.2.2.2.2.2.2.1
      have y0 := hH.2.2.2.2.2.2.2.1
      have y1 := hH.2.2.2.2.2.2.2.2.1
      have y2 := hH.2.2.2.2.2.2.2.2.2
      clear hH hp1 hm1
      have l3 := ltb m0
      have ly3 := ltb y0
      go_wp2_with fail
      refine wp_region_noPanic ?_
      refine wp_region_held_drew (S := fun w' => Bl w w' ∧ w'.cell? ⟨w.heap.size, 0, none⟩ = some (.int .i64 M.no) ∧ w'.cell? ⟨w.heap.size, 1, none⟩ = some (.int .i64 M.hf) ∧ w'.cell? ⟨w.heap.size, 2, none⟩ = some (.int .i64 M.fu) ∧ w'.cell? ⟨w.heap.size, 3, none⟩ = some (.int .i64 M.la) ∧ w'.cell? ⟨w.heap.size, 4, none⟩ = some (.int .i64 M.ag) ∧ w'.cell? ⟨w.heap.size, 5, none⟩ = some (.int .i64 M.wi) ∧ w'.cell? ⟨b, off + k * 3, none⟩ = some (.int .i64 (E k).t) ∧ w'.cell? ⟨b, off + k * 3 + 1, none⟩ = some (.int .i64 (E k).ki) ∧ w'.cell? ⟨b, off + k * 3 + 2, none⟩ = some (.int .i64 (E k).n)) (by kernel_rfl) (⟨B3.tr (Bl.d1 _), kcb (Bl.d1 _) m0, kcb (Bl.d1 _) m1, kcb (Bl.d1 _) m2, kcb (Bl.d1 _) m3, kcb (Bl.d1 _) m4, kcb (Bl.d1 _) m5, kcb (Bl.d1 _) y0, kcb (Bl.d1 _) y1, kcb (Bl.d1 _) y2⟩) (fun hH => ?_)
      refine wpAnyH_take (i := 0) (oi := ({ dst := some 35, op := Go.Op.move (Go.Operand.tmp 1), type := 31, pos := "verdict.go:26", after := #[], guard := none } : Oper)) (v := ?_) rfl (by kernel_rfl) (by kernel_rfl) (by kernel_rfl) (fun _ _ _ h => h) (Or.inl ⟨by rfl, ?_⟩) hH ?_
      rotate_left
      · intro w hSw; (try dsimp only at hSw); go_simp; (try rw [if_pos hkc]); try with_reducible rfl
      try simp only [Act.put, List.setIfInBounds_toArray, List.set_cons_zero, List.set_cons_succ]
      refine wpAnyH_take (i := 1) (oi := ({ dst := some 36, op := Go.Op.move (Go.Operand.tmp 9), type := 3, pos := "verdict.go:26", after := #[], guard := none } : Oper)) (v := ?_) rfl (by kernel_rfl) (by kernel_rfl) (by kernel_rfl) (fun _ _ _ h => h) (Or.inl ⟨by rfl, ?_⟩) hH ?_
      rotate_left
      · intro w hSw; (try dsimp only at hSw); go_simp; (try rw [if_pos hkc]); try with_reducible rfl
      try simp only [Act.put, List.setIfInBounds_toArray, List.set_cons_zero, List.set_cons_succ]
      refine wpAnyH_take (i := 2) (oi := ({ dst := some 37, op := Go.Op.slice 31 (Go.Operand.tmp 35) none (some (Go.Operand.tmp 36)) none, type := 31, pos := "verdict.go:26", after := #[{ on := 0, ground := Go.Ground.data }, { on := 1, ground := Go.Ground.data }], guard := none } : Oper)) (v := ?_) rfl (by kernel_rfl) (by kernel_rfl) (by kernel_rfl) (fun _ _ _ h => h) (Or.inl ⟨by rfl, ?_⟩) hH ?_
      rotate_left
      · intro w hSw; (try dsimp only at hSw); go_simp; (try rw [if_pos hkc]); try with_reducible rfl
      try simp only [Act.put, List.setIfInBounds_toArray, List.set_cons_zero, List.set_cons_succ]
      refine wpAnyH_ready (rs := [3]) (by kernel_rfl) (by simp) ?_
      refine AllReadyH.cons (o := ({ dst := some 38, op := Go.Op.call { callee := Go.Callee.value (Go.Operand.func 24), args := #[Go.Operand.const (Go.Value.int Go.IntKind.i64 6)], argTypes := #[3] }, type := 58, pos := "verdict.go:26", after := #[], guard := none } : Oper)) rfl (fun K hK => ?_) AllReadyH.nil
      go_simp
      go_at_call 24
      refine (isOf_any _ _).mono ?_
      rintro e9 v3 ⟨rfl, hv3⟩
      have hb : Bl v2.drew v3 := by rw [hv3]; go_grown
      have hp3 : v3.cell? ⟨v2.drew.heap.size, 0, none⟩ = some (.int .i64 6) := by rw [hv3]; go_cell
      clear hv3
      refine hK.out _ _ ⟨hH.1.tr hb, kcb hb hH.2.1, kcb hb hH.2.2.1, kcb hb hH.2.2.2.1, kcb hb hH.2.2.2.2.1, kcb hb hH.2.2.2.2.2.1, kcb hb hH.2.2.2.2.2.2.1, kcb hb hH.2.2.2.2.2.2.2.1, kcb hb hH.2.2.2.2.2.2.2.2.1, kcb hb hH.2.2.2.2.2.2.2.2.2⟩ (fun hH' => ?_)
      clear hH
      have hH := hH'
      clear hH' hK K
      try simp only [Act.put, List.setIfInBounds_toArray, List.set_cons_zero, List.set_cons_succ]
      refine wpAnyH_ready (rs := [4]) (by kernel_rfl) (by simp) ?_
      refine AllReadyH.cons (o := ({ dst := some 39, op := Go.Op.call { callee := Go.Callee.value (Go.Operand.func 23), args := #[Go.Operand.tmp 37, Go.Operand.tmp 38], argTypes := #[31, 58] }, type := 4, pos := "verdict.go:26", after := #[{ on := 2, ground := Go.Ground.data }, { on := 3, ground := Go.Ground.data }, { on := 3, ground := Go.Ground.chain }], guard := none } : Oper)) rfl (fun K hK => ?_) AllReadyH.nil
      go_simp
      go_at_call 23
      refine (contains_any (some ⟨b, off, none⟩) k c E 6 _ _ ((HA.out.below hH.1).take (by omega)) (by have := HN.out; omega) hp3).mono ?_
      rintro e9 v4 ⟨rfl, hb⟩
      rw [F.out]
      refine hK.out _ _ ⟨hH.1.tr hb, kcb hb hH.2.1, kcb hb hH.2.2.1, kcb hb hH.2.2.2.1, kcb hb hH.2.2.2.2.1, kcb hb hH.2.2.2.2.2.1, kcb hb hH.2.2.2.2.2.2.1, kcb hb hH.2.2.2.2.2.2.2.1, kcb hb hH.2.2.2.2.2.2.2.2.1, kcb hb hH.2.2.2.2.2.2.2.2.2⟩ (fun hH' => ?_)
      clear hH
      have hH := hH'
      clear hH' hK K
      try simp only [Act.put, List.setIfInBounds_toArray, List.set_cons_zero, List.set_cons_succ]
      refine wpAnyH_take (i := 5) (oi := ({ dst := some 40, op := Go.Op.move (Go.Operand.tmp 39), type := 4, pos := "verdict.go:26", after := #[{ on := 4, ground := Go.Ground.data }, { on := 4, ground := Go.Ground.chain }], guard := none } : Oper)) (v := ?_) rfl (by kernel_rfl) (by kernel_rfl) (by kernel_rfl) (fun _ _ _ h => h) (Or.inl ⟨by rfl, ?_⟩) hH ?_
      rotate_left
      · intro w hSw; (try dsimp only at hSw); go_simp; (try rw [if_pos hkc]); try with_reducible rfl
      try simp only [Act.put, List.setIfInBounds_toArray, List.set_cons_zero, List.set_cons_succ]
      refine wpAnyH_take (i := 6) (oi := ({ dst := some 41, op := Go.Op.load 35 (Go.Operand.tmp 2), type := 35, pos := "verdict.go:26", after := #[{ on := 5, ground := Go.Ground.guard }], guard := some (5, true) } : Oper)) (v := undef) rfl (by kernel_rfl) (by kernel_rfl) (by kernel_rfl) (fun _ _ _ h => h) (Or.inr ⟨by rfl, rfl⟩) hH ?_
      try simp only [Act.put, List.setIfInBounds_toArray, List.set_cons_zero, List.set_cons_succ]
      refine wpAnyH_take (i := 7) (oi := ({ dst := some 42, op := Go.Op.load 35 (Go.Operand.tmp 2), type := 35, pos := "verdict.go:26", after := #[{ on := 5, ground := Go.Ground.guard }], guard := some (5, true) } : Oper)) (v := undef) rfl (by kernel_rfl) (by kernel_rfl) (by kernel_rfl) (fun _ _ _ h => h) (Or.inr ⟨by rfl, rfl⟩) hH ?_
      try simp only [Act.put, List.setIfInBounds_toArray, List.set_cons_zero, List.set_cons_succ]
      refine wpAnyH_take (i := 10) (oi := ({ dst := some 45, op := Go.Op.move (Go.Operand.tmp 1), type := 31, pos := "verdict.go:26", after := #[{ on := 5, ground := Go.Ground.guard }], guard := some (5, true) } : Oper)) (v := undef) rfl (by kernel_rfl) (by kernel_rfl) (by kernel_rfl) (fun _ _ _ h => h) (Or.inr ⟨by rfl, rfl⟩) hH ?_
      try simp only [Act.put, List.setIfInBounds_toArray, List.set_cons_zero, List.set_cons_succ]
      refine wpAnyH_take (i := 11) (oi := ({ dst := some 46, op := Go.Op.move (Go.Operand.tmp 9), type := 3, pos := "verdict.go:26", after := #[{ on := 5, ground := Go.Ground.guard }], guard := some (5, true) } : Oper)) (v := undef) rfl (by kernel_rfl) (by kernel_rfl) (by kernel_rfl) (fun _ _ _ h => h) (Or.inr ⟨by rfl, rfl⟩) hH ?_
      try simp only [Act.put, List.setIfInBounds_toArray, List.set_cons_zero, List.set_cons_succ]
      refine wpAnyH_take (i := 12) (oi := ({ dst := some 47, op := Go.Op.indexAddr 31 (Go.Operand.tmp 45) (Go.Operand.tmp 46), type := 0, pos := "verdict.go:26", after := #[{ on := 10, ground := Go.Ground.data }, { on := 11, ground := Go.Ground.data }, { on := 5, ground := Go.Ground.guard }], guard := some (5, true) } : Oper)) (v := undef) rfl (by kernel_rfl) (by kernel_rfl) (by kernel_rfl) (fun _ _ _ h => h) (Or.inr ⟨by rfl, rfl⟩) hH ?_
      try simp only [Act.put, List.setIfInBounds_toArray, List.set_cons_zero, List.set_cons_succ]
      refine wpAnyH_take (i := 13) (oi := ({ dst := some 48, op := Go.Op.load 38 (Go.Operand.tmp 47), type := 38, pos := "verdict.go:26", after := #[{ on := 12, ground := Go.Ground.data }, { on := 5, ground := Go.Ground.guard }], guard := some (5, true) } : Oper)) (v := undef) rfl (by kernel_rfl) (by kernel_rfl) (by kernel_rfl) (fun _ _ _ h => h) (Or.inr ⟨by rfl, rfl⟩) hH ?_
      try simp only [Act.put, List.setIfInBounds_toArray, List.set_cons_zero, List.set_cons_succ]
      refine wpAnyH_ready (rs := [8]) (by kernel_rfl) (by simp) ?_
      refine AllReadyH.cons (o := ({ dst := some 43, op := Go.Op.call { callee := Go.Callee.value (Go.Operand.func 25), args := #[Go.Operand.tmp 42], argTypes := #[35] }, type := 3, pos := "verdict.go:26", after := #[{ on := 7, ground := Go.Ground.data }, { on := 5, ground := Go.Ground.chain }, { on := 5, ground := Go.Ground.guard }], guard := some (5, true) } : Oper)) rfl (fun K hK => ?_) AllReadyH.nil
      refine iteInduction (motive := fun p => p) (fun h => absurd (show false = true from h) Bool.false_ne_true) (fun _ => ?_)
      refine hK.out _ _ hH (fun hH' => ?_)
      clear hH' hK K
      try simp only [Act.put, List.setIfInBounds_toArray, List.set_cons_zero, List.set_cons_succ]
      refine wpAnyH_ready (rs := [9]) (by kernel_rfl) (by simp) ?_
      refine AllReadyH.cons (o := ({ dst := some 44, op := Go.Op.call { callee := Go.Callee.value (Go.Operand.func 22), args := #[Go.Operand.tmp 41, Go.Operand.tmp 43], argTypes := #[35, 3] }, type := 58, pos := "verdict.go:26", after := #[{ on := 6, ground := Go.Ground.data }, { on := 8, ground := Go.Ground.data }, { on := 8, ground := Go.Ground.chain }, { on := 5, ground := Go.Ground.guard }], guard := some (5, true) } : Oper)) rfl (fun K hK => ?_) AllReadyH.nil
      refine iteInduction (motive := fun p => p) (fun h => absurd (show false = true from h) Bool.false_ne_true) (fun _ => ?_)
      refine hK.out _ _ hH (fun hH' => ?_)
      clear hH' hK K
      try simp only [Act.put, List.setIfInBounds_toArray, List.set_cons_zero, List.set_cons_succ]
      refine wpAnyH_ready (rs := [14]) (by kernel_rfl) (by simp) ?_
      refine AllReadyH.cons (o := ({ dst := some 49, op := Go.Op.call { callee := Go.Callee.value (Go.Operand.tmp 44), args := #[Go.Operand.tmp 48], argTypes := #[38] }, type := 4, pos := "verdict.go:26", after := #[{ on := 9, ground := Go.Ground.data }, { on := 13, ground := Go.Ground.data }, { on := 9, ground := Go.Ground.chain }, { on := 5, ground := Go.Ground.guard }], guard := some (5, true) } : Oper)) rfl (fun K hK => ?_) AllReadyH.nil
      refine iteInduction (motive := fun p => p) (fun h => absurd (show false = true from h) Bool.false_ne_true) (fun _ => ?_)
      refine hK.out _ _ hH (fun hH' => ?_)
      clear hH' hK K
      try simp only [Act.put, List.setIfInBounds_toArray, List.set_cons_zero, List.set_cons_succ]
      refine wpAnyH_take (i := 15) (oi := ({ dst := some 50, op := Go.Op.pick (Go.Operand.tmp 40) (Go.Operand.tmp 49) (Go.Operand.const (Go.Value.bool false)), type := 4, pos := "verdict.go:26", after := #[{ on := 5, ground := Go.Ground.data }, { on := 14, ground := Go.Ground.data }], guard := none } : Oper)) (v := ?_) rfl (by kernel_rfl) (by kernel_rfl) (by kernel_rfl) (fun _ _ _ h => h) (Or.inl ⟨by rfl, ?_⟩) hH ?_
      rotate_left
      · intro w hSw; (try dsimp only at hSw); go_simp; (try rw [if_pos hkc]); try with_reducible rfl
      try simp only [Act.put, List.setIfInBounds_toArray, List.set_cons_zero, List.set_cons_succ]
      refine wpAnyH_done (by kernel_rfl) ?_ _
      refine NoPanic.normal ?_
      go_wp2_with fail
      refine (told_any (some ⟨b, off + k * 3, none⟩) (n - k) (c - k) (fun j => E (k + j)) 1 2 _ ((HA.out.below hH.1).drop (by omega)) (by have := HN.out; omega)).mono ?_
      rintro e9 v9 ⟨rfl, hb⟩
      rw [hv]
      have HB := Lib.hid (hH.1.tr hb)
      clear hH hb
      go_wp2_with fail
      go_ret2
      exact ⟨by rw [HV.out]; rfl, HB.out⟩
theorem ver_any (M : Mst) (A : Option Addr) (n c : Nat) (E : Nat → Evt) (w : World) (hA : El w A n E) (hn : n ≤ maxLen) (hc : n ≤ c) (hc2 : c ≤ maxLen) :
    Calls Tryd.prog 13 #[encM M, .slice A n c] w fun e w' => e = .returned (.tuple #[.int .i64 (verR M E n).1, .int .i64 (verR M E n).2]) ∧ Bl w w' := by
  by_cases h : (runR M E n).2.2 = 0
  · cases hi : idxF E 4 n with
    | none => exact ver_none M A n c E w hA hn hc hc2 h hi
    | some k => exact ver_some M A n c E w hA hn hc hc2 h k hi
  · exact ver_bad M A n c E w hA hn hc hc2 h
end Go.Proofs.YtajlfflbphbjnaaDoor
