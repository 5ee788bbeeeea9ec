/-
  Package sight: the bounds between two points of a chart.
-/
import Derived.Test.YtchikfegpoonjaaPP
namespace Go.Proofs.Ytchikfegpoonjaa
open Go.RowKit Go.Maps
set_option linter.unusedSimpArgs false
set_option linter.unusedVariables false

/-- What a difference answers: a is the least cost the one way, b the other way. -/
def difR (a b : Int) : Value := if a = unR then .tuple #[.agg #[.int .i64 0, .int .i64 0], .bool false] else .tuple #[.agg #[.int .i64 (-b), .int .i64 a], .bool true]
theorem dif_res (tmps : Array Value) (W : World) (p1 : Nat) (a b : Int) (t : Bool) (h6 : tmps.getD 6 undef = .pointer (some ⟨p1, 0, none⟩)) (h7 : tmps.getD 7 undef = .bool t) (c0 : W.cell? ⟨p1, 0, none⟩ = some (.int .i64 a)) (c1 : W.cell? ⟨p1, 1, none⟩ = some (.int .i64 b)) :
    (results Try.f37 tmps).run Try.prog W = .ok (.tuple #[.agg #[.int .i64 a, .int .i64 b], .bool t]) W := by
  have h6' : tmps[6]?.getD undef = .pointer (some ⟨p1, 0, none⟩) := by simpa using h6
  have h7' : tmps[7]?.getD undef = .bool t := by simpa using h7
  simp [results, Try.results37, go_sem, h6', h7', c0, c1]
  try rfl
theorem frS_bd {s : List Edg} {n u : Nat} {K : Int} (hK : StpOk (gtE s) s.length n K) (v : Nat) : (frS s n u).1.c v = unR ∨ (-3000000000000000000 ≤ (frS s n u).1.c v ∧ (frS s n u).1.c v ≤ 3000000000000000000) := by
  have h := Bdd.set (E := gtE s) (m := s.length) (n := n) (st := ⟨upd (fun _ => unR) u 0, fun _ => -1⟩) (f := -1) (B := 0) (C := K) (bdd_one u) hK.cost hK.k0
  have h1 : 0 ≤ (s.length : Int) * K := Int.mul_nonneg (by omega) hK.k0
  have h2 := hK.kb
  rcases h v with g | g
  · exact .inl g
  · right
    show -3000000000000000000 ≤ (setS _ _ _ _ _).1.c v ∧ (setS _ _ _ _ _).1.c v ≤ _
    omega
set_option maxRecDepth 100000 in
set_option maxHeartbeats 6400000 in
theorem difference_any (C M cp cs : Nat) (l : List Spt) (s : List Edg) (Ap As : Option Addr) (p q : Spt) (K : Int) (w : World) (h : Ch w C M l s Ap cp As cs) (hK : StpOk (gtE s) s.length l.length K) (hp : ixP p l < l.length) (hq : ixP q l < l.length)
    (p1 : rngS p.1) (p2 : rngS p.2) (q1 : rngS q.1) (q2 : rngS q.2) :
    Calls Try.prog 37 #[.pointer (some ⟨C, 0, none⟩), encT p, encT q] w fun e w' => e = .returned (difR ((frS s l.length (ixP q l)).1.c (ixP p l)) ((frS s l.length (ixP p l)).1.c (ixP q l))) ∧ Bl w w' := by
  obtain ⟨a, ha⟩ : ∃ a, a = (frS s l.length (ixP q l)).1.c (ixP p l) := ⟨_, rfl⟩
  obtain ⟨b, hb⟩ : ∃ b, b = (frS s l.length (ixP p l)).1.c (ixP q l) := ⟨_, rfl⟩
  have HA := Lib.hid (fun (W : World) (hW : Ch W C M l s Ap cp As cs) => least_any C M cp cs l s Ap As q p K W hW hK hq hp q1 q2 p1 p2)
  have HB := Lib.hid (fun (W : World) (hW : Ch W C M l s Ap cp As cs) => least_any C M cp cs l s Ap As p q K W hW hK hp hq p1 p2 q1 q2)
  rw [← ha] at HA
  rw [← hb] at HB
  have hbd := frS_bd (u := ixP p l) hK (ixP q l)
  rw [← hb] at hbd
  replace hbd : b = 9223372036854775807 ∨ (-3000000000000000000 ≤ b ∧ b ≤ 3000000000000000000) := hbd
  have hn : IntKind.i64.wrap (-b) = -b := by rcases hbd with g | g <;> rw [IntWalk.i64_in _ (by omega)]
  have hn2 : wrap64 (-b) = -b := by rcases hbd with g | g <;> rw [IntWalk.wrap64_in _ (by omega)]
  have HH := Lib.hid h
  rw [← ha, ← hb]
  clear h hK hp hq ha hb hbd
  go_enter Try.func37, Try.ntmps37
  go_wp2_with fail
  obtain ⟨X, hX⟩ : ∃ X, X = (((w.alloc (.cells #[.int .i64 p.1, .int .i64 p.2] 69)).alloc (.cells #[.int .i64 q.1, .int .i64 q.2] 69)).alloc (.cells #[.int .i64 0, .int .i64 0] 35)) := ⟨_, rfl⟩
  have BX : Bl w X := by rw [hX]; go_grown
  have x0 : X.cell? ⟨w.heap.size, 0, none⟩ = some (.int .i64 p.1) := by rw [hX]; go_cell
  have x1 : X.cell? ⟨w.heap.size, 1, none⟩ = some (.int .i64 p.2) := by rw [hX]; go_cell
  have y0 : X.cell? ⟨w.heap.size + 1, 0, none⟩ = some (.int .i64 q.1) := by rw [hX]; go_cell
  have y1 : X.cell? ⟨w.heap.size + 1, 1, none⟩ = some (.int .i64 q.2) := by rw [hX]; go_cell
  have z0 : X.cell? ⟨w.heap.size + 1 + 1, 0, none⟩ = some (.int .i64 0) := by rw [hX]; go_cell
  have z1 : X.cell? ⟨w.heap.size + 1 + 1, 1, none⟩ = some (.int .i64 0) := by rw [hX]; go_cell
  have zf0 : X.frozen? ⟨w.heap.size + 1 + 1, 0, none⟩ = false := by rw [hX]; go_cell
  have zf1 : X.frozen? ⟨w.heap.size + 1 + 1, 1, none⟩ = false := by rw [hX]; go_cell
  rw [← hX]
  clear hX
  refine (HA.out X (HH.out.below BX)).mono ?_
  rintro e1 w1 ⟨rfl, hb1⟩
  have x0 := kcb hb1 x0
  have x1 := kcb hb1 x1
  have y0 := kcb hb1 y0
  have y1 := kcb hb1 y1
  have zf0 := fzb hb1 zf0 (ltb z0)
  have zf1 := fzb hb1 zf1 (ltb z1)
  have z0 := kcb hb1 z0
  have z1 := kcb hb1 z1
  have HB1 := Lib.hid (BX.tr hb1)
  have HZ := Lib.hid (And.intro z0 (And.intro z1 (And.intro zf0 zf1)))
  clear BX hb1
  have lx := ltb x0
  have ly := ltb y0
  have lz := ltb z0
  by_cases hu : a = unR
  · have q0 : (a == 9223372036854775807) = true := by simp [hu]
    have HV := Lib.hid (show difR a b = .tuple #[.agg #[.int .i64 0, .int .i64 0], .bool false] from if_pos hu)
    clear hu
    go_wp2_with fail
    exact bodyPost_ret (dif_res _ _ _ _ _ _ rfl rfl (by go_cell) (by go_cell)) rfl ⟨by rw [HV.out], bl_set (bl_set HB1.out (by omega)) (by omega)⟩
  · have q0 : (a == 9223372036854775807) = false := by simp; exact hu
    have HV := Lib.hid (show difR a b = .tuple #[.agg #[.int .i64 (-b), .int .i64 a], .bool true] from if_neg hu)
    clear hu
    go_wp2_with fail
    refine (HB.out w1 (HH.out.below HB1.out)).mono ?_
    rintro e2 w2 ⟨rfl, hb2⟩
    have zf0 := fzb hb2 HZ.out.2.2.1 (ltb HZ.out.1)
    have zf1 := fzb hb2 HZ.out.2.2.2 (ltb HZ.out.1)
    have z0 := kcb hb2 HZ.out.1
    have z1 := kcb hb2 HZ.out.2.1
    have lz := ltb z0
    have HB2 := Lib.hid (HB1.out.tr hb2)
    go_wp2_with fail
    exact bodyPost_ret (dif_res _ _ _ _ _ _ rfl rfl (by go_cell) (by go_cell)) rfl ⟨by rw [HV.out], bl_set (bl_set HB2.out (by omega)) (by omega)⟩
end Go.Proofs.Ytchikfegpoonjaa
