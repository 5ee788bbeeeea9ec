/-
  Package sight: the bounds between two clocks.
-/
import Derived.Test.YtchikfegpoonjaaPU
namespace Go.Proofs.Ytchikfegpoonjaa
open Go.RowKit Go.Maps
set_option linter.unusedSimpArgs false
set_option linter.unusedVariables false

/-- A cost: unreached, or the least of the ways. -/
def CostW (R : Nat → Int) (S : Nat → Sgt) (m : Nat) (p q : Spt) (x : Int) : Prop := (x = unR ∧ ∀ w, ¬ Way R S m p q w) ∨ (x ≠ unR ∧ LstW R S m p q x)
theorem pts_two (S : Nat → Sgt) (m : Nat) (p q : Spt) : (ixP p (ptsC S m [p, q]) < (ptsC S m [p, q]).length ∧ gtP (ptsC S m [p, q]) (ixP p (ptsC S m [p, q])) = p) ∧ (ixP q (ptsC S m [p, q]) < (ptsC S m [p, q]).length ∧ gtP (ptsC S m [p, q]) (ixP q (ptsC S m [p, q])) = q) := by
  have h1 : ixP p (ptsC S m [p, q]) < (ptsC S m [p, q]).length := (adP_keeps (p := q) (adP_lt (mkS S (2 * m)).1 p)).2
  have h2 : ixP q (ptsC S m [p, q]) < (ptsC S m [p, q]).length := adP_lt (adP (mkS S (2 * m)).1 p) q
  exact ⟨⟨h1, ixP_at h1⟩, h2, ixP_at h2⟩
theorem dif_any (C : Nat) (R : Nat → Int) (S : Nat → Sgt) (m : Nat) (p q : Spt) (w : World) (h : Chd w C R S m [p, q]) (hN : NoC R S m) (p1 : rngS p.1) (p2 : rngS p.2) (q1 : rngS q.1) (q2 : rngS q.2) :
    Calls Try.prog 37 #[.pointer (some ⟨C, 0, none⟩), encT p, encT q] w fun e w' => ∃ x y, CostW R S m q p x ∧ CostW R S m p q y ∧ e = .returned (difR x y) ∧ Bl w w' := by
  obtain ⟨M, Ap, cp, As, cs, hc⟩ := h.ch
  obtain ⟨⟨h1, g1⟩, h2, g2⟩ := pts_two S m p q
  refine (difference_any C M cp cs _ _ Ap As p q 1000000000 w hc h.sk h1 h2 p1 p2 q1 q2).mono ?_
  rintro e w' ⟨he, hb⟩
  have a := fr_way h.ok h.sk hN h2 h1
  have b := fr_way h.ok h.sk hN h1 h2
  rw [g1, g2] at a b
  exact ⟨_, _, a, b, he, hb⟩
theorem ret_spanS (tmps : Array Value) (W : World) (p1 : Nat) (a b : Int) (t : Int) (h8 : tmps.getD 8 undef = .pointer (some ⟨p1, 0, none⟩)) (h9 : tmps.getD 9 undef = .int .i64 t) (c0 : W.cell? ⟨p1, 0, none⟩ = some (.int .i64 a)) (c1 : W.cell? ⟨p1, 1, none⟩ = some (.int .i64 b)) :
    (results Try.f27 tmps).run Try.prog W = .ok (.tuple #[.agg #[.int .i64 a, .int .i64 b], .int .i64 t]) W := by
  have h8' : tmps[8]?.getD undef = .pointer (some ⟨p1, 0, none⟩) := by simpa using h8
  have h9' : tmps[9]?.getD undef = .int .i64 t := by simpa using h9
  simp [results, Try.results27, go_sem, h8', h9', c0, c1]
  try rfl
def spnV (a b t : Int) : Value := .tuple #[.agg #[.int .i64 a, .int .i64 b], .int .i64 t]
set_option maxRecDepth 100000 in
set_option maxHeartbeats 6400000 in
theorem btw_bad (A : Option Addr) (n c : Nat) (R : Nat → Int) (B : Option Addr) (m d : Nat) (S : Nat → Sgt) (a b t : Int) (w : World) (hA : Sl w A n R) (hB : Sgl w B m S) (hn : n ≤ maxLen) (hm : m ≤ maxLen) (hv : vnB R n S m = false) :
    Calls Try.prog 27 #[encN A n c B m d, .int .i64 a, .int .i64 b, .int .i64 t] w fun e w' => e = .returned (spnV 0 0 1) ∧ Bl w w' := by
  have HV := Lib.hid (fun (W : World) (hW : Bl w W) => validN_any A n c R B m d S W (hA.below hW) (hB.below hW) hn hm)
  rw [hv] at HV
  have HA := Lib.hid hA
  have HB := Lib.hid hB
  clear hA hB hn hm
  go_enter Try.func27, Try.ntmps27
  go_wp2_with fail
  obtain ⟨X, hX⟩ : ∃ X, X = (w.alloc (Obj.cells #[.slice A n c, .slice B m d] 27)).alloc (Obj.cells #[.int .i64 0, .int .i64 0] 35) := ⟨_, rfl⟩
  have BX : Bl w X := by rw [hX]; go_grown
  have x0 : X.cell? ⟨w.heap.size, 0, none⟩ = some (.slice A n c) := by rw [hX]; go_cell
  have x1 : X.cell? ⟨w.heap.size, 1, none⟩ = some (.slice B m d) := by rw [hX]; go_cell
  have y0 : X.cell? ⟨w.heap.size + 1, 0, none⟩ = some (.int .i64 0) := by rw [hX]; go_cell
  have y1 : X.cell? ⟨w.heap.size + 1, 1, none⟩ = some (.int .i64 0) := by rw [hX]; go_cell
  have z0 : X.frozen? ⟨w.heap.size + 1, 0, none⟩ = false := by rw [hX]; go_cell
  have z1 : X.frozen? ⟨w.heap.size + 1, 1, none⟩ = false := by rw [hX]; go_cell
  have HX := Lib.hid (And.intro x0 (And.intro x1 (And.intro y0 (And.intro y1 (And.intro z0 z1)))))
  have HBX := Lib.hid BX
  rw [← hX]
  clear hX BX x0 x1 y0 y1 z0 z1
  refine (HV.out X HBX.out).mono ?_
  rintro e1 w1 ⟨rfl, hb1⟩
  have HK1 := Lib.hid (show Bl X w1 from Bl.tr (Below.refl _ _) hb1)
  clear hb1
  have x0 := kcb HK1.out HX.out.1
  have x1 := kcb HK1.out HX.out.2.1
  have y0 := kcb HK1.out HX.out.2.2.1
  have y1 := kcb HK1.out HX.out.2.2.2.1
  have z0 := fzb HK1.out HX.out.2.2.2.2.1 (ltb HX.out.2.2.1)
  have z1 := fzb HK1.out HX.out.2.2.2.2.2 (ltb HX.out.2.2.1)
  have lx := ltb x0
  have ly := ltb y0
  go_wp2_with fail
  exact bodyPost_ret (ret_spanS _ _ _ _ _ _ rfl rfl (by go_cell) (by go_cell)) rfl ⟨rfl, bl_set (bl_set (HBX.out.tr HK1.out) (by omega)) (by omega)⟩
set_option maxRecDepth 100000 in
set_option maxHeartbeats 6400000 in
theorem btw_name1 (A : Option Addr) (n c : Nat) (R : Nat → Int) (B : Option Addr) (m d : Nat) (S : Nat → Sgt) (a b t : Int) (w : World) (hA : Sl w A n R) (hB : Sgl w B m S) (hn : n ≤ maxLen) (hm : m ≤ maxLen) (hv : vnB R n S m = true) (ha : clB n a = false) :
    Calls Try.prog 27 #[encN A n c B m d, .int .i64 a, .int .i64 b, .int .i64 t] w fun e w' => e = .returned (spnV 0 0 5) ∧ Bl w w' := by
  have HV := Lib.hid (fun (W : World) (hW : Bl w W) => validN_any A n c R B m d S W (hA.below hW) (hB.below hW) hn hm)
  rw [hv] at HV
  have HA := Lib.hid hA
  have HB := Lib.hid hB
  clear hA hB hn hm
  have HCA := Lib.hid (fun W => isClockS_any A n c B m d a W)
  rw [ha] at HCA
  go_enter Try.func27, Try.ntmps27
  go_wp2_with fail
  obtain ⟨X, hX⟩ : ∃ X, X = (w.alloc (Obj.cells #[.slice A n c, .slice B m d] 27)).alloc (Obj.cells #[.int .i64 0, .int .i64 0] 35) := ⟨_, rfl⟩
  have BX : Bl w X := by rw [hX]; go_grown
  have x0 : X.cell? ⟨w.heap.size, 0, none⟩ = some (.slice A n c) := by rw [hX]; go_cell
  have x1 : X.cell? ⟨w.heap.size, 1, none⟩ = some (.slice B m d) := by rw [hX]; go_cell
  have y0 : X.cell? ⟨w.heap.size + 1, 0, none⟩ = some (.int .i64 0) := by rw [hX]; go_cell
  have y1 : X.cell? ⟨w.heap.size + 1, 1, none⟩ = some (.int .i64 0) := by rw [hX]; go_cell
  have z0 : X.frozen? ⟨w.heap.size + 1, 0, none⟩ = false := by rw [hX]; go_cell
  have z1 : X.frozen? ⟨w.heap.size + 1, 1, none⟩ = false := by rw [hX]; go_cell
  have HX := Lib.hid (And.intro x0 (And.intro x1 (And.intro y0 (And.intro y1 (And.intro z0 z1)))))
  have HBX := Lib.hid BX
  rw [← hX]
  clear hX BX x0 x1 y0 y1 z0 z1
  refine (HV.out X HBX.out).mono ?_
  rintro e1 w1 ⟨rfl, hb1⟩
  have HK1 := Lib.hid (show Bl X w1 from Bl.tr (Below.refl _ _) hb1)
  clear hb1
  have x0 := kcb HK1.out HX.out.1
  have x1 := kcb HK1.out HX.out.2.1
  have y0 := kcb HK1.out HX.out.2.2.1
  have y1 := kcb HK1.out HX.out.2.2.2.1
  have z0 := fzb HK1.out HX.out.2.2.2.2.1 (ltb HX.out.2.2.1)
  have z1 := fzb HK1.out HX.out.2.2.2.2.2 (ltb HX.out.2.2.1)
  have lx := ltb x0
  have ly := ltb y0
  go_wp2_with fail
  refine (HCA.out _).mono ?_
  rintro e2 w2 ⟨rfl, hb2⟩
  have HK2 := Lib.hid (show Bl X w2 from Bl.tr (HK1.out) hb2)
  clear x0 x1 y0 y1 z0 z1 lx ly
  clear hb2
  have x0 := kcb HK2.out HX.out.1
  have x1 := kcb HK2.out HX.out.2.1
  have y0 := kcb HK2.out HX.out.2.2.1
  have y1 := kcb HK2.out HX.out.2.2.2.1
  have z0 := fzb HK2.out HX.out.2.2.2.2.1 (ltb HX.out.2.2.1)
  have z1 := fzb HK2.out HX.out.2.2.2.2.2 (ltb HX.out.2.2.1)
  have lx := ltb x0
  have ly := ltb y0
  go_wp2_with fail
  exact bodyPost_ret (ret_spanS _ _ _ _ _ _ rfl rfl (by go_cell) (by go_cell)) rfl ⟨rfl, bl_set (bl_set (HBX.out.tr HK2.out) (by omega)) (by omega)⟩
set_option maxRecDepth 100000 in
set_option maxHeartbeats 6400000 in
theorem btw_name2 (A : Option Addr) (n c : Nat) (R : Nat → Int) (B : Option Addr) (m d : Nat) (S : Nat → Sgt) (a b t : Int) (w : World) (hA : Sl w A n R) (hB : Sgl w B m S) (hn : n ≤ maxLen) (hm : m ≤ maxLen) (hv : vnB R n S m = true) (ha : clB n a = true) (hb : clB n b = false) :
    Calls Try.prog 27 #[encN A n c B m d, .int .i64 a, .int .i64 b, .int .i64 t] w fun e w' => e = .returned (spnV 0 0 5) ∧ Bl w w' := by
  have HV := Lib.hid (fun (W : World) (hW : Bl w W) => validN_any A n c R B m d S W (hA.below hW) (hB.below hW) hn hm)
  rw [hv] at HV
  have HA := Lib.hid hA
  have HB := Lib.hid hB
  clear hA hB hn hm
  have HCA := Lib.hid (fun W => isClockS_any A n c B m d a W)
  rw [ha] at HCA
  have HCB := Lib.hid (fun W => isClockS_any A n c B m d b W)
  rw [hb] at HCB
  go_enter Try.func27, Try.ntmps27
  go_wp2_with fail
  obtain ⟨X, hX⟩ : ∃ X, X = (w.alloc (Obj.cells #[.slice A n c, .slice B m d] 27)).alloc (Obj.cells #[.int .i64 0, .int .i64 0] 35) := ⟨_, rfl⟩
  have BX : Bl w X := by rw [hX]; go_grown
  have x0 : X.cell? ⟨w.heap.size, 0, none⟩ = some (.slice A n c) := by rw [hX]; go_cell
  have x1 : X.cell? ⟨w.heap.size, 1, none⟩ = some (.slice B m d) := by rw [hX]; go_cell
  have y0 : X.cell? ⟨w.heap.size + 1, 0, none⟩ = some (.int .i64 0) := by rw [hX]; go_cell
  have y1 : X.cell? ⟨w.heap.size + 1, 1, none⟩ = some (.int .i64 0) := by rw [hX]; go_cell
  have z0 : X.frozen? ⟨w.heap.size + 1, 0, none⟩ = false := by rw [hX]; go_cell
  have z1 : X.frozen? ⟨w.heap.size + 1, 1, none⟩ = false := by rw [hX]; go_cell
  have HX := Lib.hid (And.intro x0 (And.intro x1 (And.intro y0 (And.intro y1 (And.intro z0 z1)))))
  have HBX := Lib.hid BX
  rw [← hX]
  clear hX BX x0 x1 y0 y1 z0 z1
  refine (HV.out X HBX.out).mono ?_
  rintro e1 w1 ⟨rfl, hb1⟩
  have HK1 := Lib.hid (show Bl X w1 from Bl.tr (Below.refl _ _) hb1)
  clear hb1
  have x0 := kcb HK1.out HX.out.1
  have x1 := kcb HK1.out HX.out.2.1
  have y0 := kcb HK1.out HX.out.2.2.1
  have y1 := kcb HK1.out HX.out.2.2.2.1
  have z0 := fzb HK1.out HX.out.2.2.2.2.1 (ltb HX.out.2.2.1)
  have z1 := fzb HK1.out HX.out.2.2.2.2.2 (ltb HX.out.2.2.1)
  have lx := ltb x0
  have ly := ltb y0
  go_wp2_with fail
  refine (HCA.out _).mono ?_
  rintro e2 w2 ⟨rfl, hb2⟩
  have HK2 := Lib.hid (show Bl X w2 from Bl.tr (HK1.out) hb2)
  clear x0 x1 y0 y1 z0 z1 lx ly
  clear hb2
  have x0 := kcb HK2.out HX.out.1
  have x1 := kcb HK2.out HX.out.2.1
  have y0 := kcb HK2.out HX.out.2.2.1
  have y1 := kcb HK2.out HX.out.2.2.2.1
  have z0 := fzb HK2.out HX.out.2.2.2.2.1 (ltb HX.out.2.2.1)
  have z1 := fzb HK2.out HX.out.2.2.2.2.2 (ltb HX.out.2.2.1)
  have lx := ltb x0
  have ly := ltb y0
  go_wp2_with fail
  refine (HCB.out _).mono ?_
  rintro e3 w3 ⟨rfl, hb3⟩
  have HK3 := Lib.hid (show Bl X w3 from Bl.tr (HK2.out) hb3)
  clear x0 x1 y0 y1 z0 z1 lx ly
  clear hb3
  have x0 := kcb HK3.out HX.out.1
  have x1 := kcb HK3.out HX.out.2.1
  have y0 := kcb HK3.out HX.out.2.2.1
  have y1 := kcb HK3.out HX.out.2.2.2.1
  have z0 := fzb HK3.out HX.out.2.2.2.2.1 (ltb HX.out.2.2.1)
  have z1 := fzb HK3.out HX.out.2.2.2.2.2 (ltb HX.out.2.2.1)
  have lx := ltb x0
  have ly := ltb y0
  go_wp2_with fail
  exact bodyPost_ret (ret_spanS _ _ _ _ _ _ rfl rfl (by go_cell) (by go_cell)) rfl ⟨rfl, bl_set (bl_set (HBX.out.tr HK3.out) (by omega)) (by omega)⟩
set_option maxRecDepth 100000 in
set_option maxHeartbeats 6400000 in
theorem btw_time (A : Option Addr) (n c : Nat) (R : Nat → Int) (B : Option Addr) (m d : Nat) (S : Nat → Sgt) (a b t : Int) (w : World) (hA : Sl w A n R) (hB : Sgl w B m S) (hn : n ≤ maxLen) (hm : m ≤ maxLen) (hv : vnB R n S m = true) (ha : clB n a = true) (hb : clB n b = true) (ht : inB t 0 1000000000000 = false) :
    Calls Try.prog 27 #[encN A n c B m d, .int .i64 a, .int .i64 b, .int .i64 t] w fun e w' => e = .returned (spnV 0 0 7) ∧ Bl w w' := by
  have HV := Lib.hid (fun (W : World) (hW : Bl w W) => validN_any A n c R B m d S W (hA.below hW) (hB.below hW) hn hm)
  rw [hv] at HV
  have HA := Lib.hid hA
  have HB := Lib.hid hB
  clear hA hB hn hm
  have HCA := Lib.hid (fun W => isClockS_any A n c B m d a W)
  rw [ha] at HCA
  have HCB := Lib.hid (fun W => isClockS_any A n c B m d b W)
  rw [hb] at HCB
  have HT := Lib.hid (fun W => isTimeS_any t W)
  rw [ht] at HT
  go_enter Try.func27, Try.ntmps27
  go_wp2_with fail
  obtain ⟨X, hX⟩ : ∃ X, X = (w.alloc (Obj.cells #[.slice A n c, .slice B m d] 27)).alloc (Obj.cells #[.int .i64 0, .int .i64 0] 35) := ⟨_, rfl⟩
  have BX : Bl w X := by rw [hX]; go_grown
  have x0 : X.cell? ⟨w.heap.size, 0, none⟩ = some (.slice A n c) := by rw [hX]; go_cell
  have x1 : X.cell? ⟨w.heap.size, 1, none⟩ = some (.slice B m d) := by rw [hX]; go_cell
  have y0 : X.cell? ⟨w.heap.size + 1, 0, none⟩ = some (.int .i64 0) := by rw [hX]; go_cell
  have y1 : X.cell? ⟨w.heap.size + 1, 1, none⟩ = some (.int .i64 0) := by rw [hX]; go_cell
  have z0 : X.frozen? ⟨w.heap.size + 1, 0, none⟩ = false := by rw [hX]; go_cell
  have z1 : X.frozen? ⟨w.heap.size + 1, 1, none⟩ = false := by rw [hX]; go_cell
  have HX := Lib.hid (And.intro x0 (And.intro x1 (And.intro y0 (And.intro y1 (And.intro z0 z1)))))
  have HBX := Lib.hid BX
  rw [← hX]
  clear hX BX x0 x1 y0 y1 z0 z1
  refine (HV.out X HBX.out).mono ?_
  rintro e1 w1 ⟨rfl, hb1⟩
  have HK1 := Lib.hid (show Bl X w1 from Bl.tr (Below.refl _ _) hb1)
  clear hb1
  have x0 := kcb HK1.out HX.out.1
  have x1 := kcb HK1.out HX.out.2.1
  have y0 := kcb HK1.out HX.out.2.2.1
  have y1 := kcb HK1.out HX.out.2.2.2.1
  have z0 := fzb HK1.out HX.out.2.2.2.2.1 (ltb HX.out.2.2.1)
  have z1 := fzb HK1.out HX.out.2.2.2.2.2 (ltb HX.out.2.2.1)
  have lx := ltb x0
  have ly := ltb y0
  go_wp2_with fail
  refine (HCA.out _).mono ?_
  rintro e2 w2 ⟨rfl, hb2⟩
  have HK2 := Lib.hid (show Bl X w2 from Bl.tr (HK1.out) hb2)
  clear x0 x1 y0 y1 z0 z1 lx ly
  clear hb2
  have x0 := kcb HK2.out HX.out.1
  have x1 := kcb HK2.out HX.out.2.1
  have y0 := kcb HK2.out HX.out.2.2.1
  have y1 := kcb HK2.out HX.out.2.2.2.1
  have z0 := fzb HK2.out HX.out.2.2.2.2.1 (ltb HX.out.2.2.1)
  have z1 := fzb HK2.out HX.out.2.2.2.2.2 (ltb HX.out.2.2.1)
  have lx := ltb x0
  have ly := ltb y0
  go_wp2_with fail
  refine (HCB.out _).mono ?_
  rintro e3 w3 ⟨rfl, hb3⟩
  have HK3 := Lib.hid (show Bl X w3 from Bl.tr (HK2.out) hb3)
  clear x0 x1 y0 y1 z0 z1 lx ly
  clear hb3
  have x0 := kcb HK3.out HX.out.1
  have x1 := kcb HK3.out HX.out.2.1
  have y0 := kcb HK3.out HX.out.2.2.1
  have y1 := kcb HK3.out HX.out.2.2.2.1
  have z0 := fzb HK3.out HX.out.2.2.2.2.1 (ltb HX.out.2.2.1)
  have z1 := fzb HK3.out HX.out.2.2.2.2.2 (ltb HX.out.2.2.1)
  have lx := ltb x0
  have ly := ltb y0
  go_wp2_with fail
  refine (HT.out _).mono ?_
  rintro e4 w4 ⟨rfl, hb4⟩
  have HK4 := Lib.hid (show Bl X w4 from Bl.tr (HK3.out) hb4)
  clear x0 x1 y0 y1 z0 z1 lx ly
  clear hb4
  have x0 := kcb HK4.out HX.out.1
  have x1 := kcb HK4.out HX.out.2.1
  have y0 := kcb HK4.out HX.out.2.2.1
  have y1 := kcb HK4.out HX.out.2.2.2.1
  have z0 := fzb HK4.out HX.out.2.2.2.2.1 (ltb HX.out.2.2.1)
  have z1 := fzb HK4.out HX.out.2.2.2.2.2 (ltb HX.out.2.2.1)
  have lx := ltb x0
  have ly := ltb y0
  go_wp2_with fail
  exact bodyPost_ret (ret_spanS _ _ _ _ _ _ rfl rfl (by go_cell) (by go_cell)) rfl ⟨rfl, bl_set (bl_set (HBX.out.tr HK4.out) (by omega)) (by omega)⟩
set_option maxRecDepth 100000 in
set_option maxHeartbeats 6400000 in
theorem btw_good (A : Option Addr) (n c : Nat) (R : Nat → Int) (B : Option Addr) (m d : Nat) (S : Nat → Sgt) (a b t : Int) (w : World) (hA : Sl w A n R) (hB : Sgl w B m S) (hn : n ≤ maxLen) (hm : m ≤ maxLen) (hv : vnB R n S m = true) (ha : clB n a = true) (hb : clB n b = true) (ht : inB t 0 1000000000000 = true) :
    Calls Try.prog 27 #[encN A n c B m d, .int .i64 a, .int .i64 b, .int .i64 t] w fun e w' => (¬ NoC R S m ∧ e = .returned (spnV 0 0 9) ∧ Bl w w') ∨ (NoC R S m ∧ ∃ x y, CostW R S m (spo b t) (spo a t) x ∧ CostW R S m (spo a t) (spo b t) y ∧ e = .returned (if x = unR then spnV 0 0 8 else spnV (-y) x 0) ∧ Bl w w') := by
  have HV := Lib.hid (fun (W : World) (hW : Bl w W) => validN_any A n c R B m d S W (hA.below hW) (hB.below hW) hn hm)
  rw [hv] at HV
  have HA := Lib.hid hA
  have HB := Lib.hid hB
  clear hA hB hn hm
  have HCA := Lib.hid (fun W => isClockS_any A n c B m d a W)
  rw [ha] at HCA
  have HCB := Lib.hid (fun W => isClockS_any A n c B m d b W)
  rw [hb] at HCB
  have HT := Lib.hid (fun W => isTimeS_any t W)
  rw [ht] at HT
  have HVN := Lib.hid (vn_iff.1 hv)
  have hpa := spo_ok (n := n) (by have := HVN.out.n2; omega) (clB_iff.1 ha) (inB_iff.1 ht)
  have hpb := spo_ok (n := n) (by have := HVN.out.n2; omega) (clB_iff.1 hb) (inB_iff.1 ht)
  have HPA := Lib.hid (fun W => pointOf_any a t W)
  have HPB := Lib.hid (fun W => pointOf_any b t W)
  obtain ⟨p, hp⟩ : ∃ p, p = spo a t := ⟨_, rfl⟩
  obtain ⟨q, hq⟩ : ∃ q, q = spo b t := ⟨_, rfl⟩
  rw [← hp] at HPA hpa ⊢
  rw [← hq] at HPB hpb ⊢
  clear hp hq
  have HPP := Lib.hid (And.intro hpa hpb)
  clear hpa hpb hv ha hb ht
  go_enter Try.func27, Try.ntmps27
  go_wp2_with fail
  obtain ⟨X, hX⟩ : ∃ X, X = (w.alloc (Obj.cells #[.slice A n c, .slice B m d] 27)).alloc (Obj.cells #[.int .i64 0, .int .i64 0] 35) := ⟨_, rfl⟩
  have BX : Bl w X := by rw [hX]; go_grown
  have x0 : X.cell? ⟨w.heap.size, 0, none⟩ = some (.slice A n c) := by rw [hX]; go_cell
  have x1 : X.cell? ⟨w.heap.size, 1, none⟩ = some (.slice B m d) := by rw [hX]; go_cell
  have y0 : X.cell? ⟨w.heap.size + 1, 0, none⟩ = some (.int .i64 0) := by rw [hX]; go_cell
  have y1 : X.cell? ⟨w.heap.size + 1, 1, none⟩ = some (.int .i64 0) := by rw [hX]; go_cell
  have z0 : X.frozen? ⟨w.heap.size + 1, 0, none⟩ = false := by rw [hX]; go_cell
  have z1 : X.frozen? ⟨w.heap.size + 1, 1, none⟩ = false := by rw [hX]; go_cell
  have HX := Lib.hid (And.intro x0 (And.intro x1 (And.intro y0 (And.intro y1 (And.intro z0 z1)))))
  have HBX := Lib.hid BX
  rw [← hX]
  clear hX BX x0 x1 y0 y1 z0 z1
  refine (HV.out X HBX.out).mono ?_
  rintro e1 w1 ⟨rfl, hb1⟩
  have HK1 := Lib.hid (show Bl X w1 from Bl.tr (Below.refl _ _) hb1)
  clear hb1
  have x0 := kcb HK1.out HX.out.1
  have x1 := kcb HK1.out HX.out.2.1
  have y0 := kcb HK1.out HX.out.2.2.1
  have y1 := kcb HK1.out HX.out.2.2.2.1
  have z0 := fzb HK1.out HX.out.2.2.2.2.1 (ltb HX.out.2.2.1)
  have z1 := fzb HK1.out HX.out.2.2.2.2.2 (ltb HX.out.2.2.1)
  have lx := ltb x0
  have ly := ltb y0
  go_wp2_with fail
  refine (HCA.out _).mono ?_
  rintro e2 w2 ⟨rfl, hb2⟩
  have HK2 := Lib.hid (show Bl X w2 from Bl.tr (HK1.out) hb2)
  clear x0 x1 y0 y1 z0 z1 lx ly
  clear hb2
  have x0 := kcb HK2.out HX.out.1
  have x1 := kcb HK2.out HX.out.2.1
  have y0 := kcb HK2.out HX.out.2.2.1
  have y1 := kcb HK2.out HX.out.2.2.2.1
  have z0 := fzb HK2.out HX.out.2.2.2.2.1 (ltb HX.out.2.2.1)
  have z1 := fzb HK2.out HX.out.2.2.2.2.2 (ltb HX.out.2.2.1)
  have lx := ltb x0
  have ly := ltb y0
  go_wp2_with fail
  refine (HCB.out _).mono ?_
  rintro e3 w3 ⟨rfl, hb3⟩
  have HK3 := Lib.hid (show Bl X w3 from Bl.tr (HK2.out) hb3)
  clear x0 x1 y0 y1 z0 z1 lx ly
  clear hb3
  have x0 := kcb HK3.out HX.out.1
  have x1 := kcb HK3.out HX.out.2.1
  have y0 := kcb HK3.out HX.out.2.2.1
  have y1 := kcb HK3.out HX.out.2.2.2.1
  have z0 := fzb HK3.out HX.out.2.2.2.2.1 (ltb HX.out.2.2.1)
  have z1 := fzb HK3.out HX.out.2.2.2.2.2 (ltb HX.out.2.2.1)
  have lx := ltb x0
  have ly := ltb y0
  go_wp2_with fail
  refine (HT.out _).mono ?_
  rintro e4 w4 ⟨rfl, hb4⟩
  have HK4 := Lib.hid (show Bl X w4 from Bl.tr (HK3.out) hb4)
  clear x0 x1 y0 y1 z0 z1 lx ly
  clear hb4
  have x0 := kcb HK4.out HX.out.1
  have x1 := kcb HK4.out HX.out.2.1
  have y0 := kcb HK4.out HX.out.2.2.1
  have y1 := kcb HK4.out HX.out.2.2.2.1
  have z0 := fzb HK4.out HX.out.2.2.2.2.1 (ltb HX.out.2.2.1)
  have z1 := fzb HK4.out HX.out.2.2.2.2.2 (ltb HX.out.2.2.1)
  have lx := ltb x0
  have ly := ltb y0
  go_wp2_with fail
  refine (HPA.out _).mono ?_
  rintro e5 w5 ⟨rfl, hb5⟩
  have HK5 := Lib.hid (show Bl X w5 from Bl.tr (HK4.out) hb5)
  clear x0 x1 y0 y1 z0 z1 lx ly
  clear hb5
  have x0 := kcb HK5.out HX.out.1
  have x1 := kcb HK5.out HX.out.2.1
  have y0 := kcb HK5.out HX.out.2.2.1
  have y1 := kcb HK5.out HX.out.2.2.2.1
  have z0 := fzb HK5.out HX.out.2.2.2.2.1 (ltb HX.out.2.2.1)
  have z1 := fzb HK5.out HX.out.2.2.2.2.2 (ltb HX.out.2.2.1)
  have lx := ltb x0
  have ly := ltb y0
  go_wp2_with fail
  refine (HPB.out _).mono ?_
  rintro e6 w6 ⟨rfl, hb6⟩
  have HK6 := Lib.hid (show Bl X w6 from Bl.tr (HK5.out) hb6)
  clear x0 x1 y0 y1 z0 z1 lx ly
  clear hb6
  have x0 := kcb HK6.out HX.out.1
  have x1 := kcb HK6.out HX.out.2.1
  have y0 := kcb HK6.out HX.out.2.2.1
  have y1 := kcb HK6.out HX.out.2.2.2.1
  have z0 := fzb HK6.out HX.out.2.2.2.2.1 (ltb HX.out.2.2.1)
  have z1 := fzb HK6.out HX.out.2.2.2.2.2 (ltb HX.out.2.2.1)
  have lx := ltb x0
  have ly := ltb y0
  go_wp2_with fail
  obtain ⟨Z, hZ⟩ : ∃ Z, Z = ((w6.alloc (Obj.cells #[.int .i64 p.1, .int .i64 p.2] 69)).alloc (Obj.cells #[.int .i64 q.1, .int .i64 q.2] 69)).alloc (Obj.cells #[.int .i64 p.1, .int .i64 p.2, .int .i64 q.1, .int .i64 q.2] 69) := ⟨_, rfl⟩
  have BZ : Bl w6 Z := by rw [hZ]; go_grown
  have p0 : Z.cell? ⟨w6.heap.size, 0, none⟩ = some (.int .i64 p.1) := by rw [hZ]; go_cell
  have p1 : Z.cell? ⟨w6.heap.size, 1, none⟩ = some (.int .i64 p.2) := by rw [hZ]; go_cell
  have q0 : Z.cell? ⟨w6.heap.size + 1, 0, none⟩ = some (.int .i64 q.1) := by rw [hZ]; go_cell
  have q1 : Z.cell? ⟨w6.heap.size + 1, 1, none⟩ = some (.int .i64 q.2) := by rw [hZ]; go_cell
  have r0 : Z.cell? ⟨w6.heap.size + 1 + 1, 0, none⟩ = some (.int .i64 p.1) := by rw [hZ]; go_cell
  have r1 : Z.cell? ⟨w6.heap.size + 1 + 1, 1, none⟩ = some (.int .i64 p.2) := by rw [hZ]; go_cell
  have r2 : Z.cell? ⟨w6.heap.size + 1 + 1, 2, none⟩ = some (.int .i64 q.1) := by rw [hZ]; go_cell
  have r3 : Z.cell? ⟨w6.heap.size + 1 + 1, 3, none⟩ = some (.int .i64 q.2) := by rw [hZ]; go_cell
  have HQ : Ptl Z (some ⟨w6.heap.size + 1 + 1, 0, none⟩) 2 (gtP [p, q]) := fun _ => ⟨_, 0, rfl, ltb r0, fun j hj => by
    have hj2 : j = 0 ∨ j = 1 := by omega
    rcases hj2 with rfl | rfl
    · exact ⟨r0, r1⟩
    · exact ⟨r2, r3⟩⟩
  have HBZ := Lib.hid (HBX.out.tr (HK6.out.tr BZ))
  have HXZ := Lib.hid (HK6.out.tr BZ)
  have HCH := chart_any A n c R B m d S (some ⟨w6.heap.size + 1 + 1, 0, none⟩) 2 [p, q] Z (HA.out.below HBZ.out) (HB.out.below HBZ.out) HQ HVN.out (fun x hx => by
    simp at hx
    rcases hx with rfl | rfl
    · exact HPP.out.1
    · exact HPP.out.2) (by simp)
  have HZ := Lib.hid (And.intro p0 (And.intro p1 (And.intro q0 q1)))
  rw [← hZ]
  clear hZ BZ p0 p1 q0 q1 r0 r1 r2 r3 HQ x0 x1 y0 y1 z0 z1 lx ly
  refine HCH.mono ?_
  rintro e7 w7 ⟨C, rfl, hc, hb7⟩
  have HC7 := Lib.hid hc
  have HZ7 := Lib.hid hb7
  clear hc hb7 HCH
  go_wp2_with fail
  refine (conf_any C R S m [p, q] w7 HC7.out).mono ?_
  rintro e8 w8 ⟨hb8, ⟨hn, rfl⟩ | ⟨hn, g, k, cap, rfl⟩⟩
  all_goals
    have HC8 := Lib.hid (HC7.out.below hb8)
    have HZ8 := Lib.hid (HZ7.out.tr hb8)
    have HX8 := Lib.hid (HXZ.out.tr HZ8.out)
    have HB8 := Lib.hid (HBZ.out.tr HZ8.out)
    have HNN := Lib.hid hn
    clear hb8 hn
    have y0 := kcb HX8.out HX.out.2.2.1
    have y1 := kcb HX8.out HX.out.2.2.2.1
    have z0 := fzb HX8.out HX.out.2.2.2.2.1 (ltb HX.out.2.2.1)
    have z1 := fzb HX8.out HX.out.2.2.2.2.2 (ltb HX.out.2.2.1)
    have ly := ltb y0
  · have hnil := nil_yesS' w8
    have p0 := kcb HZ8.out HZ.out.1
    have p1 := kcb HZ8.out HZ.out.2.1
    have q0 := kcb HZ8.out HZ.out.2.2.1
    have q1 := kcb HZ8.out HZ.out.2.2.2
    have lp := ltb p0
    have lq := ltb q0
    go_wp2_with fail
    refine (dif_any C R S m p q w8 HC8.out HNN.out (HPP.out.1.rng (by have := HVN.out.n8; omega)).1 (HPP.out.1.rng (by have := HVN.out.n8; omega)).2 (HPP.out.2.rng (by have := HVN.out.n8; omega)).1 (HPP.out.2.rng (by have := HVN.out.n8; omega)).2).mono ?_
    rintro e9 w9 ⟨x, y, hx, hy, rfl, hb9⟩
    have HXY := Lib.hid (And.intro hx hy)
    have HX9 := Lib.hid (HX8.out.tr hb9)
    have HB9 := Lib.hid (HB8.out.tr hb9)
    clear hx hy hb9 p0 p1 q0 q1 lp lq y0 y1 z0 z1 ly hnil
    have y0 := kcb HX9.out HX.out.2.2.1
    have y1 := kcb HX9.out HX.out.2.2.2.1
    have z0 := fzb HX9.out HX.out.2.2.2.2.1 (ltb HX.out.2.2.1)
    have z1 := fzb HX9.out HX.out.2.2.2.2.2 (ltb HX.out.2.2.1)
    have ly := ltb y0
    by_cases hu : x = unR
    · have HU := Lib.hid (show (if x = unR then spnV 0 0 8 else spnV (-y) x 0) = spnV 0 0 8 from if_pos hu)
      rw [show difR x y = .tuple #[.agg #[.int .i64 0, .int .i64 0], .bool false] from if_pos hu]
      clear hu
      go_wp2_with fail
      obtain ⟨U, hU⟩ : ∃ U, U = ((w9.setCell ⟨w.heap.size + 1, 0, none⟩ (.int .i64 0)).setCell ⟨w.heap.size + 1, 1, none⟩ (.int .i64 0)) := ⟨_, rfl⟩
      have u0 : U.cell? ⟨w.heap.size + 1, 0, none⟩ = some (.int .i64 0) := by rw [hU]; go_cell
      have u1 : U.cell? ⟨w.heap.size + 1, 1, none⟩ = some (.int .i64 0) := by rw [hU]; go_cell
      have BU : Bl w U := by rw [hU]; exact bl_set (bl_set HB9.out (by omega)) (by omega)
      have BA : Bl U (U.alloc (Obj.cells #[.int .i64 0, .int .i64 0] 35)) := by go_grown
      rw [← hU]
      exact bodyPost_ret (ret_spanS _ _ _ _ _ _ rfl rfl (kcb BA u0) (kcb BA u1)) rfl (.inr ⟨HNN.out, x, y, HXY.out.1, HXY.out.2, by rw [HU.out]; rfl, BU.tr BA⟩)
    · have HU := Lib.hid (show (if x = unR then spnV 0 0 8 else spnV (-y) x 0) = spnV (-y) x 0 from if_neg hu)
      rw [show difR x y = .tuple #[.agg #[.int .i64 (-y), .int .i64 x], .bool true] from if_neg hu]
      clear hu
      go_wp2_with fail
      obtain ⟨U, hU⟩ : ∃ U, U = ((w9.setCell ⟨w.heap.size + 1, 0, none⟩ (.int .i64 (-y))).setCell ⟨w.heap.size + 1, 1, none⟩ (.int .i64 x)) := ⟨_, rfl⟩
      have u0 : U.cell? ⟨w.heap.size + 1, 0, none⟩ = some (.int .i64 (-y)) := by rw [hU]; go_cell
      have u1 : U.cell? ⟨w.heap.size + 1, 1, none⟩ = some (.int .i64 x) := by rw [hU]; go_cell
      have BU : Bl w U := by rw [hU]; exact bl_set (bl_set HB9.out (by omega)) (by omega)
      have BA : Bl U (U.alloc (Obj.cells #[.int .i64 (-y), .int .i64 x] 35)) := by go_grown
      rw [← hU]
      exact bodyPost_ret (ret_spanS _ _ _ _ _ _ rfl rfl (kcb BA u0) (kcb BA u1)) rfl (.inr ⟨HNN.out, x, y, HXY.out.1, HXY.out.2, by rw [HU.out]; rfl, BU.tr BA⟩)
  · have hnil := nil_noS' g 0 k cap w8
    go_wp2_with fail
    exact bodyPost_ret (ret_spanS _ _ _ _ _ _ rfl rfl (by go_cell) (by go_cell)) rfl (.inl ⟨HNN.out, rfl, bl_set (bl_set HB8.out (by omega)) (by omega)⟩)
end Go.Proofs.Ytchikfegpoonjaa
