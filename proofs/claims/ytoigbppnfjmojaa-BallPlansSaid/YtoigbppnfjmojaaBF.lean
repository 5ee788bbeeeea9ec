/-
  Contracts of package ball and of its reference: Next.
-/
import Derived.Test.YtoigbppnfjmojaaBE
namespace Go.Proofs.Ytoigbppnfjmojaa
open Go.RowKit
set_option linter.unusedSimpArgs false
set_option linter.unusedVariables false

/-- The state after an event, or the error. -/
def nxtF (M : Mst) (s : Bal) (e : Evt) : Bal × Int := if VM M ∧ VS s then stp M s e else (Bal.zero, 1)
set_option maxRecDepth 100000 in
set_option maxHeartbeats 3200000 in
theorem rallowed_any (M : Mst) (hM : VM M) (s : Bal) (t ki n : Int) (hk : ki = 1 ∨ ki = 2 ∨ ki = 3 ∨ ki = 4 ∨ ki = 5 ∨ ki = 6) (w : World) : Calls Try.prog 34 #[encM M, encB s, .agg #[.int .i64 t, .int .i64 ki, .int .i64 n]] w fun r w' => r = .returned (.bool (decide (alw M s ki t))) ∧ Bl w w' := by
  have vno0 := hM.no0
  have vno1 := hM.no1
  have vfu0 := hM.fu0
  have vhf0 := hM.hf0
  have vhf1 := hM.hf1
  have vag0 := hM.ag0
  have vag1 := hM.ag1
  have vhf2 := hM.hf2
  rcases hk with rfl | rfl | rfl | rfl | rfl | rfl
  all_goals
    go_enter Try.func34, Try.ntmps34
    go_wp2_with (go_at_call 23; refine (within4_any _ _ _ _).mono ?_; rintro r w' ⟨rfl, rfl⟩)
    all_goals (go_ret; exact ⟨ret_bool (by rw [Bool.eq_iff_iff, decide_eq_true_eq (p := alw _ _ _ _)]; first | (simp [alw, bef] at *; done) | (simp [alw, bef] at *; omega)), by go_grown⟩)
set_option maxRecDepth 100000 in
set_option maxHeartbeats 3200000 in
theorem ballNext_bad (M : Mst) (s : Bal) (e : Evt) (w : World) (h : ¬ (VM M ∧ VS s)) : Calls Try.prog 18 #[encM M, encB s, encE e] w fun r w' => r = .returned (.tuple #[encB (nxtF M s e).1, .int .i64 (nxtF M s e).2]) ∧ Bl w w' := by
  have HS := Lib.hid (show nxtF M s e = (Bal.zero, 1) from if_neg h)
  by_cases q : VM M
  · have Q := Lib.hid (show decide (VM M) = true from decide_eq_true q)
    have R := Lib.hid (show decide (VS s) = false from decide_eq_false fun r => h ⟨q, r⟩)
    clear h q
    go_enter Try.func18, Try.ntmps18
    go_wp2_with fail
    refine (validMast_any M _).mono ?_
    rintro q1 w1 ⟨rfl, hb⟩
    have m0 := kcb hb (b := w.heap.size) (o := 0) (v := .int .i64 M.no) (by first | assumption | (refine cellUp ?_; assumption) | go_cell)
    have m1 := kcb hb (b := w.heap.size) (o := 1) (v := .int .i64 M.hf) (by first | assumption | (refine cellUp ?_; assumption) | go_cell)
    have m2 := kcb hb (b := w.heap.size) (o := 2) (v := .int .i64 M.fu) (by first | assumption | (refine cellUp ?_; assumption) | go_cell)
    have m3 := kcb hb (b := w.heap.size) (o := 3) (v := .int .i64 M.la) (by first | assumption | (refine cellUp ?_; assumption) | go_cell)
    have m4 := kcb hb (b := w.heap.size) (o := 4) (v := .int .i64 M.ag) (by first | assumption | (refine cellUp ?_; assumption) | go_cell)
    have m5 := kcb hb (b := w.heap.size) (o := 5) (v := .int .i64 M.wi) (by first | assumption | (refine cellUp ?_; assumption) | go_cell)
    have s0 := kcb hb (b := w.heap.size + 1) (o := 0) (v := .int .i64 s.pl) (by first | assumption | (refine cellUp ?_; assumption) | go_cell)
    have s1 := kcb hb (b := w.heap.size + 1) (o := 1) (v := .int .i64 s.wi) (by first | assumption | (refine cellUp ?_; assumption) | go_cell)
    have s2 := kcb hb (b := w.heap.size + 1) (o := 2) (v := .bool s.fl) (by first | assumption | (refine cellUp ?_; assumption) | go_cell)
    have s3 := kcb hb (b := w.heap.size + 1) (o := 3) (v := .int .i64 s.t) (by first | assumption | (refine cellUp ?_; assumption) | go_cell)
    have e0 := kcb hb (b := w.heap.size + 1 + 1) (o := 0) (v := .int .i64 e.t) (by first | assumption | (refine cellUp ?_; assumption) | go_cell)
    have e1 := kcb hb (b := w.heap.size + 1 + 1) (o := 1) (v := .int .i64 e.ki) (by first | assumption | (refine cellUp ?_; assumption) | go_cell)
    have e2 := kcb hb (b := w.heap.size + 1 + 1) (o := 2) (v := .int .i64 e.n) (by first | assumption | (refine cellUp ?_; assumption) | go_cell)
    have c0 := kcb hb (b := w.heap.size + 1 + 1 + 1) (o := 0) (v := .int .i64 0) (by first | assumption | (refine cellUp ?_; assumption) | go_cell)
    have c1 := kcb hb (b := w.heap.size + 1 + 1 + 1) (o := 1) (v := .int .i64 0) (by first | assumption | (refine cellUp ?_; assumption) | go_cell)
    have c2 := kcb hb (b := w.heap.size + 1 + 1 + 1) (o := 2) (v := .bool false) (by first | assumption | (refine cellUp ?_; assumption) | go_cell)
    have c3 := kcb hb (b := w.heap.size + 1 + 1 + 1) (o := 3) (v := .int .i64 0) (by first | assumption | (refine cellUp ?_; assumption) | go_cell)
    have z0 := fzb hb (b := w.heap.size + 1 + 1 + 1) (o := 0) (by (try simp only [frozen?_alloc_cells, World.frozen?_setCell]); first | assumption | exact fz_new (by (try simp only [World.size_alloc, World.size_setCell]); omega)) (by (try simp only [World.size_alloc, World.size_setCell]); omega)
    have z1 := fzb hb (b := w.heap.size + 1 + 1 + 1) (o := 1) (by (try simp only [frozen?_alloc_cells, World.frozen?_setCell]); first | assumption | exact fz_new (by (try simp only [World.size_alloc, World.size_setCell]); omega)) (by (try simp only [World.size_alloc, World.size_setCell]); omega)
    have z2 := fzb hb (b := w.heap.size + 1 + 1 + 1) (o := 2) (by (try simp only [frozen?_alloc_cells, World.frozen?_setCell]); first | assumption | exact fz_new (by (try simp only [World.size_alloc, World.size_setCell]); omega)) (by (try simp only [World.size_alloc, World.size_setCell]); omega)
    have z3 := fzb hb (b := w.heap.size + 1 + 1 + 1) (o := 3) (by (try simp only [frozen?_alloc_cells, World.frozen?_setCell]); first | assumption | exact fz_new (by (try simp only [World.size_alloc, World.size_setCell]); omega)) (by (try simp only [World.size_alloc, World.size_setCell]); omega)
    have B1 : Bl w w1 := Below.trans (by go_grown) (hb.mono (by (try simp only [World.size_alloc, World.size_setCell]); omega))
    have l1 := ltb c3
    have l1_1 := ltb e2
    have l1_2 := ltb s3
    have l1_3 := ltb m5
    have zz1 := B1.size
    clear hb
    rw [Q.out]
    go_wp2_with fail
    refine (isState_any s _).mono ?_
    rintro q2 w2 ⟨rfl, hb⟩
    have m0 := kcb hb (b := w.heap.size) (o := 0) (v := .int .i64 M.no) (by first | assumption | (refine cellUp ?_; assumption) | go_cell)
    have m1 := kcb hb (b := w.heap.size) (o := 1) (v := .int .i64 M.hf) (by first | assumption | (refine cellUp ?_; assumption) | go_cell)
    have m2 := kcb hb (b := w.heap.size) (o := 2) (v := .int .i64 M.fu) (by first | assumption | (refine cellUp ?_; assumption) | go_cell)
    have m3 := kcb hb (b := w.heap.size) (o := 3) (v := .int .i64 M.la) (by first | assumption | (refine cellUp ?_; assumption) | go_cell)
    have m4 := kcb hb (b := w.heap.size) (o := 4) (v := .int .i64 M.ag) (by first | assumption | (refine cellUp ?_; assumption) | go_cell)
    have m5 := kcb hb (b := w.heap.size) (o := 5) (v := .int .i64 M.wi) (by first | assumption | (refine cellUp ?_; assumption) | go_cell)
    have s0 := kcb hb (b := w.heap.size + 1) (o := 0) (v := .int .i64 s.pl) (by first | assumption | (refine cellUp ?_; assumption) | go_cell)
    have s1 := kcb hb (b := w.heap.size + 1) (o := 1) (v := .int .i64 s.wi) (by first | assumption | (refine cellUp ?_; assumption) | go_cell)
    have s2 := kcb hb (b := w.heap.size + 1) (o := 2) (v := .bool s.fl) (by first | assumption | (refine cellUp ?_; assumption) | go_cell)
    have s3 := kcb hb (b := w.heap.size + 1) (o := 3) (v := .int .i64 s.t) (by first | assumption | (refine cellUp ?_; assumption) | go_cell)
    have e0 := kcb hb (b := w.heap.size + 1 + 1) (o := 0) (v := .int .i64 e.t) (by first | assumption | (refine cellUp ?_; assumption) | go_cell)
    have e1 := kcb hb (b := w.heap.size + 1 + 1) (o := 1) (v := .int .i64 e.ki) (by first | assumption | (refine cellUp ?_; assumption) | go_cell)
    have e2 := kcb hb (b := w.heap.size + 1 + 1) (o := 2) (v := .int .i64 e.n) (by first | assumption | (refine cellUp ?_; assumption) | go_cell)
    have c0 := kcb hb (b := w.heap.size + 1 + 1 + 1) (o := 0) (v := .int .i64 0) (by first | assumption | (refine cellUp ?_; assumption) | go_cell)
    have c1 := kcb hb (b := w.heap.size + 1 + 1 + 1) (o := 1) (v := .int .i64 0) (by first | assumption | (refine cellUp ?_; assumption) | go_cell)
    have c2 := kcb hb (b := w.heap.size + 1 + 1 + 1) (o := 2) (v := .bool false) (by first | assumption | (refine cellUp ?_; assumption) | go_cell)
    have c3 := kcb hb (b := w.heap.size + 1 + 1 + 1) (o := 3) (v := .int .i64 0) (by first | assumption | (refine cellUp ?_; assumption) | go_cell)
    have z0 := fzb hb (b := w.heap.size + 1 + 1 + 1) (o := 0) (by (try simp only [frozen?_alloc_cells, World.frozen?_setCell]); first | assumption | exact fz_new (by (try simp only [World.size_alloc, World.size_setCell]); omega)) (by (try simp only [World.size_alloc, World.size_setCell]); omega)
    have z1 := fzb hb (b := w.heap.size + 1 + 1 + 1) (o := 1) (by (try simp only [frozen?_alloc_cells, World.frozen?_setCell]); first | assumption | exact fz_new (by (try simp only [World.size_alloc, World.size_setCell]); omega)) (by (try simp only [World.size_alloc, World.size_setCell]); omega)
    have z2 := fzb hb (b := w.heap.size + 1 + 1 + 1) (o := 2) (by (try simp only [frozen?_alloc_cells, World.frozen?_setCell]); first | assumption | exact fz_new (by (try simp only [World.size_alloc, World.size_setCell]); omega)) (by (try simp only [World.size_alloc, World.size_setCell]); omega)
    have z3 := fzb hb (b := w.heap.size + 1 + 1 + 1) (o := 3) (by (try simp only [frozen?_alloc_cells, World.frozen?_setCell]); first | assumption | exact fz_new (by (try simp only [World.size_alloc, World.size_setCell]); omega)) (by (try simp only [World.size_alloc, World.size_setCell]); omega)
    have B2 : Bl w w2 := Below.trans (by go_grown) (hb.mono (by (try simp only [World.size_alloc, World.size_setCell]); omega))
    have l2 := ltb c3
    have l2_1 := ltb e2
    have l2_2 := ltb s3
    have l2_3 := ltb m5
    have zz2 := B2.size
    clear hb
    rw [R.out]
    go_wp2_with fail
    exact bodyPost_ret (v := .tuple #[.agg #[.int .i64 0, .int .i64 0, .bool false, .int .i64 0], .int .i64 1]) (by simp [results, Try.results18, go_sem, c0, c1, c2, c3, z0, z1, z2, z3]) rfl ⟨by rw [HS.out], by go_grown⟩
  · have Q := Lib.hid (show decide (VM M) = false from decide_eq_false q)
    clear h q
    go_enter Try.func18, Try.ntmps18
    go_wp2_with fail
    refine (validMast_any M _).mono ?_
    rintro q1 w1 ⟨rfl, hb⟩
    have m0 := kcb hb (b := w.heap.size) (o := 0) (v := .int .i64 M.no) (by first | assumption | (refine cellUp ?_; assumption) | go_cell)
    have m1 := kcb hb (b := w.heap.size) (o := 1) (v := .int .i64 M.hf) (by first | assumption | (refine cellUp ?_; assumption) | go_cell)
    have m2 := kcb hb (b := w.heap.size) (o := 2) (v := .int .i64 M.fu) (by first | assumption | (refine cellUp ?_; assumption) | go_cell)
    have m3 := kcb hb (b := w.heap.size) (o := 3) (v := .int .i64 M.la) (by first | assumption | (refine cellUp ?_; assumption) | go_cell)
    have m4 := kcb hb (b := w.heap.size) (o := 4) (v := .int .i64 M.ag) (by first | assumption | (refine cellUp ?_; assumption) | go_cell)
    have m5 := kcb hb (b := w.heap.size) (o := 5) (v := .int .i64 M.wi) (by first | assumption | (refine cellUp ?_; assumption) | go_cell)
    have s0 := kcb hb (b := w.heap.size + 1) (o := 0) (v := .int .i64 s.pl) (by first | assumption | (refine cellUp ?_; assumption) | go_cell)
    have s1 := kcb hb (b := w.heap.size + 1) (o := 1) (v := .int .i64 s.wi) (by first | assumption | (refine cellUp ?_; assumption) | go_cell)
    have s2 := kcb hb (b := w.heap.size + 1) (o := 2) (v := .bool s.fl) (by first | assumption | (refine cellUp ?_; assumption) | go_cell)
    have s3 := kcb hb (b := w.heap.size + 1) (o := 3) (v := .int .i64 s.t) (by first | assumption | (refine cellUp ?_; assumption) | go_cell)
    have e0 := kcb hb (b := w.heap.size + 1 + 1) (o := 0) (v := .int .i64 e.t) (by first | assumption | (refine cellUp ?_; assumption) | go_cell)
    have e1 := kcb hb (b := w.heap.size + 1 + 1) (o := 1) (v := .int .i64 e.ki) (by first | assumption | (refine cellUp ?_; assumption) | go_cell)
    have e2 := kcb hb (b := w.heap.size + 1 + 1) (o := 2) (v := .int .i64 e.n) (by first | assumption | (refine cellUp ?_; assumption) | go_cell)
    have c0 := kcb hb (b := w.heap.size + 1 + 1 + 1) (o := 0) (v := .int .i64 0) (by first | assumption | (refine cellUp ?_; assumption) | go_cell)
    have c1 := kcb hb (b := w.heap.size + 1 + 1 + 1) (o := 1) (v := .int .i64 0) (by first | assumption | (refine cellUp ?_; assumption) | go_cell)
    have c2 := kcb hb (b := w.heap.size + 1 + 1 + 1) (o := 2) (v := .bool false) (by first | assumption | (refine cellUp ?_; assumption) | go_cell)
    have c3 := kcb hb (b := w.heap.size + 1 + 1 + 1) (o := 3) (v := .int .i64 0) (by first | assumption | (refine cellUp ?_; assumption) | go_cell)
    have z0 := fzb hb (b := w.heap.size + 1 + 1 + 1) (o := 0) (by (try simp only [frozen?_alloc_cells, World.frozen?_setCell]); first | assumption | exact fz_new (by (try simp only [World.size_alloc, World.size_setCell]); omega)) (by (try simp only [World.size_alloc, World.size_setCell]); omega)
    have z1 := fzb hb (b := w.heap.size + 1 + 1 + 1) (o := 1) (by (try simp only [frozen?_alloc_cells, World.frozen?_setCell]); first | assumption | exact fz_new (by (try simp only [World.size_alloc, World.size_setCell]); omega)) (by (try simp only [World.size_alloc, World.size_setCell]); omega)
    have z2 := fzb hb (b := w.heap.size + 1 + 1 + 1) (o := 2) (by (try simp only [frozen?_alloc_cells, World.frozen?_setCell]); first | assumption | exact fz_new (by (try simp only [World.size_alloc, World.size_setCell]); omega)) (by (try simp only [World.size_alloc, World.size_setCell]); omega)
    have z3 := fzb hb (b := w.heap.size + 1 + 1 + 1) (o := 3) (by (try simp only [frozen?_alloc_cells, World.frozen?_setCell]); first | assumption | exact fz_new (by (try simp only [World.size_alloc, World.size_setCell]); omega)) (by (try simp only [World.size_alloc, World.size_setCell]); omega)
    have B1 : Bl w w1 := Below.trans (by go_grown) (hb.mono (by (try simp only [World.size_alloc, World.size_setCell]); omega))
    have l1 := ltb c3
    have l1_1 := ltb e2
    have l1_2 := ltb s3
    have l1_3 := ltb m5
    have zz1 := B1.size
    clear hb
    rw [Q.out]
    go_wp2_with fail
    exact bodyPost_ret (v := .tuple #[.agg #[.int .i64 0, .int .i64 0, .bool false, .int .i64 0], .int .i64 1]) (by simp [results, Try.results18, go_sem, c0, c1, c2, c3, z0, z1, z2, z3]) rfl ⟨by rw [HS.out], by go_grown⟩
set_option maxRecDepth 100000 in
set_option maxHeartbeats 3200000 in
theorem ballNext_ok (M : Mst) (s : Bal) (e : Evt) (w : World) (hM : VM M) (hs : VS s) : Calls Try.prog 18 #[encM M, encB s, encE e] w fun r w' => r = .returned (.tuple #[encB (nxtF M s e).1, .int .i64 (nxtF M s e).2]) ∧ Bl w w' := by
  have HS := Lib.hid (show nxtF M s e = stp M s e from if_pos ⟨hM, hs⟩)
  have HM := Lib.hid hM
  have Q := Lib.hid (show decide (VM M) = true from decide_eq_true hM)
  have R := Lib.hid (show decide (VS s) = true from decide_eq_true hs)
  clear hM hs
  obtain ⟨r1, r2, hr⟩ : ∃ r1 r2, stp M s e = (r1, r2) := ⟨_, _, rfl⟩
  have HR := Lib.hid hr
  have HS := Lib.hid (HS.out.trans hr)
  clear hr
  obtain ⟨pl, wi, fl, st⟩ := r1
  go_enter Try.func18, Try.ntmps18
  go_wp2_with fail
  refine (validMast_any M _).mono ?_
  rintro q1 w1 ⟨rfl, hb⟩
  have m0 := kcb hb (b := w.heap.size) (o := 0) (v := .int .i64 M.no) (by first | assumption | (refine cellUp ?_; assumption) | go_cell)
  have m1 := kcb hb (b := w.heap.size) (o := 1) (v := .int .i64 M.hf) (by first | assumption | (refine cellUp ?_; assumption) | go_cell)
  have m2 := kcb hb (b := w.heap.size) (o := 2) (v := .int .i64 M.fu) (by first | assumption | (refine cellUp ?_; assumption) | go_cell)
  have m3 := kcb hb (b := w.heap.size) (o := 3) (v := .int .i64 M.la) (by first | assumption | (refine cellUp ?_; assumption) | go_cell)
  have m4 := kcb hb (b := w.heap.size) (o := 4) (v := .int .i64 M.ag) (by first | assumption | (refine cellUp ?_; assumption) | go_cell)
  have m5 := kcb hb (b := w.heap.size) (o := 5) (v := .int .i64 M.wi) (by first | assumption | (refine cellUp ?_; assumption) | go_cell)
  have s0 := kcb hb (b := w.heap.size + 1) (o := 0) (v := .int .i64 s.pl) (by first | assumption | (refine cellUp ?_; assumption) | go_cell)
  have s1 := kcb hb (b := w.heap.size + 1) (o := 1) (v := .int .i64 s.wi) (by first | assumption | (refine cellUp ?_; assumption) | go_cell)
  have s2 := kcb hb (b := w.heap.size + 1) (o := 2) (v := .bool s.fl) (by first | assumption | (refine cellUp ?_; assumption) | go_cell)
  have s3 := kcb hb (b := w.heap.size + 1) (o := 3) (v := .int .i64 s.t) (by first | assumption | (refine cellUp ?_; assumption) | go_cell)
  have e0 := kcb hb (b := w.heap.size + 1 + 1) (o := 0) (v := .int .i64 e.t) (by first | assumption | (refine cellUp ?_; assumption) | go_cell)
  have e1 := kcb hb (b := w.heap.size + 1 + 1) (o := 1) (v := .int .i64 e.ki) (by first | assumption | (refine cellUp ?_; assumption) | go_cell)
  have e2 := kcb hb (b := w.heap.size + 1 + 1) (o := 2) (v := .int .i64 e.n) (by first | assumption | (refine cellUp ?_; assumption) | go_cell)
  have c0 := kcb hb (b := w.heap.size + 1 + 1 + 1) (o := 0) (v := .int .i64 0) (by first | assumption | (refine cellUp ?_; assumption) | go_cell)
  have c1 := kcb hb (b := w.heap.size + 1 + 1 + 1) (o := 1) (v := .int .i64 0) (by first | assumption | (refine cellUp ?_; assumption) | go_cell)
  have c2 := kcb hb (b := w.heap.size + 1 + 1 + 1) (o := 2) (v := .bool false) (by first | assumption | (refine cellUp ?_; assumption) | go_cell)
  have c3 := kcb hb (b := w.heap.size + 1 + 1 + 1) (o := 3) (v := .int .i64 0) (by first | assumption | (refine cellUp ?_; assumption) | go_cell)
  have z0 := fzb hb (b := w.heap.size + 1 + 1 + 1) (o := 0) (by (try simp only [frozen?_alloc_cells, World.frozen?_setCell]); first | assumption | exact fz_new (by (try simp only [World.size_alloc, World.size_setCell]); omega)) (by (try simp only [World.size_alloc, World.size_setCell]); omega)
  have z1 := fzb hb (b := w.heap.size + 1 + 1 + 1) (o := 1) (by (try simp only [frozen?_alloc_cells, World.frozen?_setCell]); first | assumption | exact fz_new (by (try simp only [World.size_alloc, World.size_setCell]); omega)) (by (try simp only [World.size_alloc, World.size_setCell]); omega)
  have z2 := fzb hb (b := w.heap.size + 1 + 1 + 1) (o := 2) (by (try simp only [frozen?_alloc_cells, World.frozen?_setCell]); first | assumption | exact fz_new (by (try simp only [World.size_alloc, World.size_setCell]); omega)) (by (try simp only [World.size_alloc, World.size_setCell]); omega)
  have z3 := fzb hb (b := w.heap.size + 1 + 1 + 1) (o := 3) (by (try simp only [frozen?_alloc_cells, World.frozen?_setCell]); first | assumption | exact fz_new (by (try simp only [World.size_alloc, World.size_setCell]); omega)) (by (try simp only [World.size_alloc, World.size_setCell]); omega)
  have B1 : Bl w w1 := Below.trans (by go_grown) (hb.mono (by (try simp only [World.size_alloc, World.size_setCell]); omega))
  have l1 := ltb c3
  have l1_1 := ltb e2
  have l1_2 := ltb s3
  have l1_3 := ltb m5
  have zz1 := B1.size
  clear hb
  rw [Q.out]
  go_wp2_with fail
  refine (isState_any s _).mono ?_
  rintro q2 w2 ⟨rfl, hb⟩
  have m0 := kcb hb (b := w.heap.size) (o := 0) (v := .int .i64 M.no) (by first | assumption | (refine cellUp ?_; assumption) | go_cell)
  have m1 := kcb hb (b := w.heap.size) (o := 1) (v := .int .i64 M.hf) (by first | assumption | (refine cellUp ?_; assumption) | go_cell)
  have m2 := kcb hb (b := w.heap.size) (o := 2) (v := .int .i64 M.fu) (by first | assumption | (refine cellUp ?_; assumption) | go_cell)
  have m3 := kcb hb (b := w.heap.size) (o := 3) (v := .int .i64 M.la) (by first | assumption | (refine cellUp ?_; assumption) | go_cell)
  have m4 := kcb hb (b := w.heap.size) (o := 4) (v := .int .i64 M.ag) (by first | assumption | (refine cellUp ?_; assumption) | go_cell)
  have m5 := kcb hb (b := w.heap.size) (o := 5) (v := .int .i64 M.wi) (by first | assumption | (refine cellUp ?_; assumption) | go_cell)
  have s0 := kcb hb (b := w.heap.size + 1) (o := 0) (v := .int .i64 s.pl) (by first | assumption | (refine cellUp ?_; assumption) | go_cell)
  have s1 := kcb hb (b := w.heap.size + 1) (o := 1) (v := .int .i64 s.wi) (by first | assumption | (refine cellUp ?_; assumption) | go_cell)
  have s2 := kcb hb (b := w.heap.size + 1) (o := 2) (v := .bool s.fl) (by first | assumption | (refine cellUp ?_; assumption) | go_cell)
  have s3 := kcb hb (b := w.heap.size + 1) (o := 3) (v := .int .i64 s.t) (by first | assumption | (refine cellUp ?_; assumption) | go_cell)
  have e0 := kcb hb (b := w.heap.size + 1 + 1) (o := 0) (v := .int .i64 e.t) (by first | assumption | (refine cellUp ?_; assumption) | go_cell)
  have e1 := kcb hb (b := w.heap.size + 1 + 1) (o := 1) (v := .int .i64 e.ki) (by first | assumption | (refine cellUp ?_; assumption) | go_cell)
  have e2 := kcb hb (b := w.heap.size + 1 + 1) (o := 2) (v := .int .i64 e.n) (by first | assumption | (refine cellUp ?_; assumption) | go_cell)
  have c0 := kcb hb (b := w.heap.size + 1 + 1 + 1) (o := 0) (v := .int .i64 0) (by first | assumption | (refine cellUp ?_; assumption) | go_cell)
  have c1 := kcb hb (b := w.heap.size + 1 + 1 + 1) (o := 1) (v := .int .i64 0) (by first | assumption | (refine cellUp ?_; assumption) | go_cell)
  have c2 := kcb hb (b := w.heap.size + 1 + 1 + 1) (o := 2) (v := .bool false) (by first | assumption | (refine cellUp ?_; assumption) | go_cell)
  have c3 := kcb hb (b := w.heap.size + 1 + 1 + 1) (o := 3) (v := .int .i64 0) (by first | assumption | (refine cellUp ?_; assumption) | go_cell)
  have z0 := fzb hb (b := w.heap.size + 1 + 1 + 1) (o := 0) (by (try simp only [frozen?_alloc_cells, World.frozen?_setCell]); first | assumption | exact fz_new (by (try simp only [World.size_alloc, World.size_setCell]); omega)) (by (try simp only [World.size_alloc, World.size_setCell]); omega)
  have z1 := fzb hb (b := w.heap.size + 1 + 1 + 1) (o := 1) (by (try simp only [frozen?_alloc_cells, World.frozen?_setCell]); first | assumption | exact fz_new (by (try simp only [World.size_alloc, World.size_setCell]); omega)) (by (try simp only [World.size_alloc, World.size_setCell]); omega)
  have z2 := fzb hb (b := w.heap.size + 1 + 1 + 1) (o := 2) (by (try simp only [frozen?_alloc_cells, World.frozen?_setCell]); first | assumption | exact fz_new (by (try simp only [World.size_alloc, World.size_setCell]); omega)) (by (try simp only [World.size_alloc, World.size_setCell]); omega)
  have z3 := fzb hb (b := w.heap.size + 1 + 1 + 1) (o := 3) (by (try simp only [frozen?_alloc_cells, World.frozen?_setCell]); first | assumption | exact fz_new (by (try simp only [World.size_alloc, World.size_setCell]); omega)) (by (try simp only [World.size_alloc, World.size_setCell]); omega)
  have B2 : Bl w w2 := Below.trans (by go_grown) (hb.mono (by (try simp only [World.size_alloc, World.size_setCell]); omega))
  have l2 := ltb c3
  have l2_1 := ltb e2
  have l2_2 := ltb s3
  have l2_3 := ltb m5
  have zz2 := B2.size
  clear hb
  rw [R.out]
  go_wp2_with fail
  refine wp_region_noPanic ?_
  refine wp_region_held_drew (S := fun w' => Bl w w' ∧ w'.cell? ⟨w.heap.size, 0, none⟩ = some (.int .i64 M.no) ∧ w'.cell? ⟨w.heap.size, 1, none⟩ = some (.int .i64 M.hf) ∧ w'.cell? ⟨w.heap.size, 2, none⟩ = some (.int .i64 M.fu) ∧ w'.cell? ⟨w.heap.size, 3, none⟩ = some (.int .i64 M.la) ∧ w'.cell? ⟨w.heap.size, 4, none⟩ = some (.int .i64 M.ag) ∧ w'.cell? ⟨w.heap.size, 5, none⟩ = some (.int .i64 M.wi) ∧ w'.cell? ⟨w.heap.size + 1, 0, none⟩ = some (.int .i64 s.pl) ∧ w'.cell? ⟨w.heap.size + 1, 1, none⟩ = some (.int .i64 s.wi) ∧ w'.cell? ⟨w.heap.size + 1, 2, none⟩ = some (.bool s.fl) ∧ w'.cell? ⟨w.heap.size + 1, 3, none⟩ = some (.int .i64 s.t) ∧ w'.cell? ⟨w.heap.size + 1 + 1, 0, none⟩ = some (.int .i64 e.t) ∧ w'.cell? ⟨w.heap.size + 1 + 1, 1, none⟩ = some (.int .i64 e.ki) ∧ w'.cell? ⟨w.heap.size + 1 + 1, 2, none⟩ = some (.int .i64 e.n)) (by kernel_rfl) (⟨B2.tr (Bl.d1 _), kcb (Bl.d1 _) m0, kcb (Bl.d1 _) m1, kcb (Bl.d1 _) m2, kcb (Bl.d1 _) m3, kcb (Bl.d1 _) m4, kcb (Bl.d1 _) m5, kcb (Bl.d1 _) s0, kcb (Bl.d1 _) s1, kcb (Bl.d1 _) s2, kcb (Bl.d1 _) s3, kcb (Bl.d1 _) e0, kcb (Bl.d1 _) e1, kcb (Bl.d1 _) e2⟩) (fun hH => ?_)
  refine wpAnyH_take (i := 0) (oi := ({ dst := some 17, op := Go.Op.load 23 (Go.Operand.tmp 3), type := 23, pos := "run.go:48", after := #[], guard := none } : Oper)) (v := ?_) rfl (by kernel_rfl) (by kernel_rfl) (by kernel_rfl) (fun _ _ _ h => h) (Or.inl ⟨by rfl, ?_⟩) hH ?_
  rotate_left
  · intro w hSw; (try dsimp only at hSw); go_simp; try with_reducible rfl
  try simp only [Act.put, List.setIfInBounds_toArray, List.set_cons_zero, List.set_cons_succ]
  refine wpAnyH_take (i := 2) (oi := ({ dst := some 19, op := Go.Op.load 34 (Go.Operand.tmp 4), type := 34, pos := "run.go:48", after := #[], guard := none } : Oper)) (v := ?_) rfl (by kernel_rfl) (by kernel_rfl) (by kernel_rfl) (fun _ _ _ h => h) (Or.inl ⟨by rfl, ?_⟩) hH ?_
  rotate_left
  · intro w hSw; (try dsimp only at hSw); go_simp; try with_reducible rfl
  try simp only [Act.put, List.setIfInBounds_toArray, List.set_cons_zero, List.set_cons_succ]
  refine wpAnyH_take (i := 3) (oi := ({ dst := some 20, op := Go.Op.load 42 (Go.Operand.tmp 5), type := 42, pos := "run.go:48", after := #[], guard := none } : Oper)) (v := ?_) rfl (by kernel_rfl) (by kernel_rfl) (by kernel_rfl) (fun _ _ _ h => h) (Or.inl ⟨by rfl, ?_⟩) hH ?_
  rotate_left
  · intro w hSw; (try dsimp only at hSw); go_simp; try with_reducible rfl
  try simp only [Act.put, List.setIfInBounds_toArray, List.set_cons_zero, List.set_cons_succ]
  refine wpAnyH_ready (rs := [1]) (by kernel_rfl) (by simp) ?_
  refine AllReadyH.cons (o := ({ dst := some 18, op := Go.Op.call { callee := Go.Callee.value (Go.Operand.func 35), args := #[Go.Operand.tmp 17], argTypes := #[23] }, type := 71, pos := "run.go:48", after := #[{ on := 0, ground := Go.Ground.data }], guard := none } : Oper)) rfl (fun K hK => ?_) AllReadyH.nil
  go_simp
  go_at_call 35
  refine (rulesOf_any M _).mono ?_
  rintro e9 v1 ⟨x, g1, g2, i1, g0, i2, g3, rfl, HRU, hb⟩
  have hb1 := (Bl.d1 w2).tr hb
  have c0 := kcb hb1 c0
  have z0 := fzb hb1 z0 (by omega)
  have c1 := kcb hb1 c1
  have z1 := fzb hb1 z1 (by omega)
  have c2 := kcb hb1 c2
  have z2 := fzb hb1 z2 (by omega)
  have c3 := kcb hb1 c3
  have z3 := fzb hb1 z3 (by omega)
  have BV1 := B2.tr hb1
  have lv1 := ltb c0
  refine hK.out _ _ ⟨hH.1.tr hb, kcb hb hH.2.1, kcb hb hH.2.2.1, kcb hb hH.2.2.2.1, kcb hb hH.2.2.2.2.1, kcb hb hH.2.2.2.2.2.1, kcb hb hH.2.2.2.2.2.2.1, kcb hb hH.2.2.2.2.2.2.2.1, kcb hb hH.2.2.2.2.2.2.2.2.1, kcb hb hH.2.2.2.2.2.2.2.2.2.1, kcb hb hH.2.2.2.2.2.2.2.2.2.2.1, kcb hb hH.2.2.2.2.2.2.2.2.2.2.2.1, kcb hb hH.2.2.2.2.2.2.2.2.2.2.2.2.1, kcb hb hH.2.2.2.2.2.2.2.2.2.2.2.2.2⟩ (fun hH' => ?_)
  clear hH
  have hH := hH'
  clear hH' hK K
  try simp only [Act.put, List.setIfInBounds_toArray, List.set_cons_zero, List.set_cons_succ]
  refine wpAnyH_ready (rs := [4]) (by kernel_rfl) (by simp) ?_
  refine AllReadyH.cons (o := ({ dst := some 21, op := Go.Op.call { callee := Go.Callee.value (Go.Operand.func 36), args := #[Go.Operand.tmp 18, Go.Operand.tmp 19, Go.Operand.tmp 20], argTypes := #[71, 34, 42] }, type := 39, pos := "run.go:48", after := #[{ on := 1, ground := Go.Ground.data }, { on := 2, ground := Go.Ground.data }, { on := 3, ground := Go.Ground.data }, { on := 1, ground := Go.Ground.chain }], guard := none } : Oper)) rfl (fun K hK => ?_) AllReadyH.nil
  go_simp
  go_at_call 36
  refine (next_any M HM.out x g1 g2 i1 g0 i2 g3 s e _ HRU).mono ?_
  rintro e9 v2 ⟨rfl, hb⟩
  rw [HR.out]
  have c0 := kcb hb c0
  have z0 := fzb hb z0 (by omega)
  have c1 := kcb hb c1
  have z1 := fzb hb z1 (by omega)
  have c2 := kcb hb c2
  have z2 := fzb hb z2 (by omega)
  have c3 := kcb hb c3
  have z3 := fzb hb z3 (by omega)
  have BV2 := BV1.tr hb
  have lv2 := ltb c0
  refine hK.out _ _ ⟨hH.1.tr hb, kcb hb hH.2.1, kcb hb hH.2.2.1, kcb hb hH.2.2.2.1, kcb hb hH.2.2.2.2.1, kcb hb hH.2.2.2.2.2.1, kcb hb hH.2.2.2.2.2.2.1, kcb hb hH.2.2.2.2.2.2.2.1, kcb hb hH.2.2.2.2.2.2.2.2.1, kcb hb hH.2.2.2.2.2.2.2.2.2.1, kcb hb hH.2.2.2.2.2.2.2.2.2.2.1, kcb hb hH.2.2.2.2.2.2.2.2.2.2.2.1, kcb hb hH.2.2.2.2.2.2.2.2.2.2.2.2.1, kcb hb hH.2.2.2.2.2.2.2.2.2.2.2.2.2⟩ (fun hH' => ?_)
  clear hH
  have hH := hH'
  clear hH' hK K
  try simp only [Act.put, List.setIfInBounds_toArray, List.set_cons_zero, List.set_cons_succ]
  refine wpAnyH_take (i := 5) (oi := ({ dst := some 22, op := Go.Op.extract (Go.Operand.tmp 21) 0, type := 34, pos := "run.go:48", after := #[{ on := 4, ground := Go.Ground.data }], guard := none } : Oper)) (v := ?_) rfl (by kernel_rfl) (by kernel_rfl) (by kernel_rfl) (fun _ _ _ h => h) (Or.inl ⟨by rfl, ?_⟩) hH ?_
  rotate_left
  · intro w hSw; (try dsimp only at hSw); go_simp; try with_reducible rfl
  try simp only [Act.put, List.setIfInBounds_toArray, List.set_cons_zero, List.set_cons_succ]
  refine wpAnyH_take (i := 6) (oi := ({ dst := some 23, op := Go.Op.extract (Go.Operand.tmp 21) 1, type := 25, pos := "run.go:48", after := #[{ on := 4, ground := Go.Ground.data }], guard := none } : Oper)) (v := ?_) rfl (by kernel_rfl) (by kernel_rfl) (by kernel_rfl) (fun _ _ _ h => h) (Or.inl ⟨by rfl, ?_⟩) hH ?_
  rotate_left
  · intro w hSw; (try dsimp only at hSw); go_simp; try with_reducible rfl
  try simp only [Act.put, List.setIfInBounds_toArray, List.set_cons_zero, List.set_cons_succ]
  refine wpAnyH_ready (rs := [7]) (by kernel_rfl) (by simp) ?_
  refine AllReadyH.cons (o := ({ dst := none, op := Go.Op.store 34 (Go.Operand.tmp 6) (Go.Operand.tmp 22), type := 0, pos := "run.go:48", after := #[{ on := 5, ground := Go.Ground.data }, { on := 4, ground := Go.Ground.chain }, { on := 0, ground := Go.Ground.phase }, { on := 1, ground := Go.Ground.phase }, { on := 2, ground := Go.Ground.phase }, { on := 3, ground := Go.Ground.phase }, { on := 4, ground := Go.Ground.phase }, { on := 5, ground := Go.Ground.phase }, { on := 6, ground := Go.Ground.phase }], guard := none } : Oper)) rfl (fun K hK => ?_) AllReadyH.nil
  go_simp
  refine hK.out _ _ ⟨by go_grown, by go_cell, by go_cell, by go_cell, by go_cell, by go_cell, by go_cell, by go_cell, by go_cell, by go_cell, by go_cell, by go_cell, by go_cell, by go_cell⟩ (fun hH' => ?_)
  clear hH
  have hH := hH'
  clear hH' hK K
  try simp only [Act.put, List.setIfInBounds_toArray, List.set_cons_zero, List.set_cons_succ]
  refine wpAnyH_take (i := 8) (oi := ({ dst := some 7, op := Go.Op.assign (Go.Operand.tmp 23), type := 25, pos := "run.go:48", after := #[{ on := 6, ground := Go.Ground.data }, { on := 7, ground := Go.Ground.chain }, { on := 0, ground := Go.Ground.phase }, { on := 1, ground := Go.Ground.phase }, { on := 2, ground := Go.Ground.phase }, { on := 3, ground := Go.Ground.phase }, { on := 4, ground := Go.Ground.phase }, { on := 5, ground := Go.Ground.phase }, { on := 6, ground := Go.Ground.phase }, { on := 7, ground := Go.Ground.phase }], guard := none } : Oper)) (v := ?_) rfl (by kernel_rfl) (by kernel_rfl) (by kernel_rfl) (fun _ _ _ h => h) (Or.inl ⟨by rfl, ?_⟩) hH ?_
  rotate_left
  · intro w hSw; (try dsimp only at hSw); go_simp; try with_reducible rfl
  try simp only [Act.put, List.setIfInBounds_toArray, List.set_cons_zero, List.set_cons_succ]
  refine wpAnyH_done (by kernel_rfl) ?_ _
  refine NoPanic.normal ?_
  go_wp2_with fail
  exact bodyPost_ret (v := .tuple #[.agg #[.int .i64 pl, .int .i64 wi, .bool fl, .int .i64 st], .int .i64 r2]) (by simp [results, Try.results18, go_sem, c0, c1, c2, c3, z0, z1, z2, z3]) rfl ⟨by rw [HS.out], by go_grown⟩
theorem ballNext_any (M : Mst) (s : Bal) (e : Evt) (w : World) : Calls Try.prog 18 #[encM M, encB s, encE e] w fun r w' => r = .returned (.tuple #[encB (nxtF M s e).1, .int .i64 (nxtF M s e).2]) ∧ Bl w w' := by
  by_cases h : VM M ∧ VS s
  · exact ballNext_ok M s e w h.1 h.2
  · exact ballNext_bad M s e w h
end Go.Proofs.Ytoigbppnfjmojaa
