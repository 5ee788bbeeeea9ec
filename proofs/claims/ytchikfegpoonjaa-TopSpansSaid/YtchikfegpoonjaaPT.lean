/-
  Package sight: the steps of sights.
-/
import Derived.Test.YtchikfegpoonjaaPF
import Derived.Deep.DeepCutAuto
namespace Go.Proofs.Ytchikfegpoonjaa
open Go.RowKit
set_option linter.unusedSimpArgs false
set_option linter.unusedVariables false

/-- The place of a sight's numbers, and which of the two. -/
theorem half_facts (k : Nat) : ((k : Int).tdiv 2 = ((k / 2 : Nat) : Int)) ∧ ((k : Int).tmod 2 = ((k % 2 : Nat) : Int)) := by
  constructor
  · rw [Int.tdiv_eq_ediv_of_nonneg (by omega)]; omega
  · rw [Int.tmod_eq_emod_of_nonneg (by omega)]; omega
theorem bl_rdS (w : World) : Bl w.drew w := ⟨rfl, rfl, rfl, Nat.le_refl _, fun _ _ => rfl⟩
def SK (w X : World) (x : Sgt) (W' : World) : Prop := Bl X W' ∧ W'.cell? ⟨w.heap.size + 1 + 1 + 1, 0, none⟩ = some (.int .i64 x.tm) ∧ W'.cell? ⟨w.heap.size + 1 + 1 + 1, 1, none⟩ = some (.int .i64 x.ca) ∧ W'.cell? ⟨w.heap.size + 1 + 1 + 1, 2, none⟩ = some (.int .i64 x.cb) ∧ w.heap.size + 1 + 1 + 1 < W'.heap.size
theorem SK.t {w X Y Z : World} {x : Sgt} (h : SK w X x Y) (hb : Bl Y Z) : SK w X x Z := ⟨h.1.tr hb, kcb hb h.2.1, kcb hb h.2.2.1, kcb hb h.2.2.2.1, Nat.lt_of_lt_of_le h.2.2.2.2 hb.size⟩
theorem SK.set {w X Y : World} {x : Sgt} {b o : Nat} {v : Value} (h : SK w X x Y) (hl : w.heap.size + 1 + 1 + 1 < X.heap.size) (hb : X.heap.size ≤ b) : SK w X x (Y.setCell ⟨b, o, none⟩ v) := by
  obtain ⟨h1, h2, h3, h4, h5⟩ := h
  exact ⟨bl_set h1 hb, cell_setO h2 (by omega), cell_setO h3 (by omega), cell_setO h4 (by omega), Nat.lt_of_lt_of_le h5 (size_setS Y _ v)⟩
def SQ (w X : World) (x : Sgt) (o : Nat) (u : Value) (g8 g9 : Nat) (W' : World) : Prop := Bl w W' ∧ X.heap.size ≤ g8 ∧ X.heap.size ≤ g9 ∧ W'.cell? ⟨g8, 0, none⟩ = some (.int .i64 (spo x.ca x.tm).1) ∧ W'.cell? ⟨g8, 1, none⟩ = some (.int .i64 (spo x.ca x.tm).2) ∧ W'.cell? ⟨g9, 0, none⟩ = some (.int .i64 (spo x.cb x.tm).1) ∧ W'.cell? ⟨g9, 1, none⟩ = some (.int .i64 (spo x.cb x.tm).2) ∧ W'.cell? ⟨w.heap.size + 1 + 1 + 1, o, none⟩ = some u
theorem SQ.t {w X Y Z : World} {x : Sgt} {o g8 g9 : Nat} {u : Value} (h : SQ w X x o u g8 g9 Y) (hb : Bl Y Z) : SQ w X x o u g8 g9 Z := ⟨h.1.tr hb, h.2.1, h.2.2.1, kcb hb h.2.2.2.1, kcb hb h.2.2.2.2.1, kcb hb h.2.2.2.2.2.1, kcb hb h.2.2.2.2.2.2.1, kcb hb h.2.2.2.2.2.2.2⟩
theorem SQ.set {w X Y : World} {x : Sgt} {o g8 g9 b i : Nat} {u v : Value} (h : SQ w X x o u g8 g9 Y) (h1 : w.heap.size ≤ b) (h2 : b < X.heap.size) (h3 : w.heap.size + 1 + 1 + 1 ≠ b) : SQ w X x o u g8 g9 (Y.setCell ⟨b, i, none⟩ v) := by
  obtain ⟨a0, a1, a2, a3, a4, a5, a6, a7⟩ := h
  exact ⟨bl_set a0 h1, a1, a2, cell_setO a3 (by omega), cell_setO a4 (by omega), cell_setO a5 (by omega), cell_setO a6 (by omega), cell_setO a7 h3⟩
def SR (g8 g9 nb o : Nat) (p q : Spt) (u : Value) (W' : World) : Prop := W'.cell? ⟨g8, 0, none⟩ = some (.int .i64 p.1) ∧ W'.cell? ⟨g8, 1, none⟩ = some (.int .i64 p.2) ∧ W'.cell? ⟨g9, 0, none⟩ = some (.int .i64 q.1) ∧ W'.cell? ⟨g9, 1, none⟩ = some (.int .i64 q.2) ∧ W'.cell? ⟨nb, o, none⟩ = some u
theorem SR.t {g8 g9 nb o : Nat} {p q : Spt} {u : Value} {X Y : World} (h : SR g8 g9 nb o p q u X) (hb : Bl X Y) : SR g8 g9 nb o p q u Y := ⟨kcb hb h.1, kcb hb h.2.1, kcb hb h.2.2.1, kcb hb h.2.2.2.1, kcb hb h.2.2.2.2⟩
theorem SR.set {g8 g9 nb o b i : Nat} {p q : Spt} {u v : Value} {X : World} (h : SR g8 g9 nb o p q u X) (h1 : g8 ≠ b) (h2 : g9 ≠ b) (h3 : nb ≠ b) : SR g8 g9 nb o p q u (X.setCell ⟨b, i, none⟩ v) := ⟨cell_setO h.1 h1, cell_setO h.2.1 h1, cell_setO h.2.2.1 h2, cell_setO h.2.2.2.1 h2, cell_setO h.2.2.2.2 h3⟩
/-- What stands behind the two points. -/
def PP (X : World) (p q : Spt) (g8 g9 : Nat) (W' : World) : Prop := Bl X W' ∧ X.heap.size ≤ g8 ∧ X.heap.size ≤ g9 ∧ W'.cell? ⟨g8, 0, none⟩ = some (.int .i64 p.1) ∧ W'.cell? ⟨g8, 1, none⟩ = some (.int .i64 p.2) ∧ W'.cell? ⟨g9, 0, none⟩ = some (.int .i64 q.1) ∧ W'.cell? ⟨g9, 1, none⟩ = some (.int .i64 q.2)
set_option maxRecDepth 100000 in
set_option maxHeartbeats 30000000 in
theorem taken_any (A : Option Addr) (n c : Nat) (B : Option Addr) (m d : Nat) (S : Nat → Sgt) (k : Nat) (w : World) (hB : Sgl w B m S) (hk : k < 2 * m) (hm : m ≤ 1000) (hl : -86400000 ≤ (S (k / 2)).lo ∧ (S (k / 2)).lo ≤ 86400000) :
    Calls Try.prog 30 #[encN A n c B m d, .int .i64 (k : Int)] w fun e w' => e = .returned (.tuple #[encT (tkn S k).1, encT (tkn S k).2.1, .int .i64 (tkn S k).2.2]) ∧ Bl w w' := by
  obtain ⟨b, off, rfl, hbb, hc⟩ := hB (by omega)
  have hh : k / 2 < m := by omega
  obtain ⟨c0, c1, c2, c3, c4⟩ := hc (k / 2) hh
  obtain ⟨f1, f2⟩ := half_facts k
  have HT := Lib.hid (show tkn S k = if k % 2 = 1 then (spo (S (k / 2)).ca (S (k / 2)).tm, spo (S (k / 2)).cb (S (k / 2)).tm, -(S (k / 2)).lo) else (spo (S (k / 2)).cb (S (k / 2)).tm, spo (S (k / 2)).ca (S (k / 2)).tm, (S (k / 2)).hi) from rfl)
  obtain ⟨x, hx⟩ : ∃ x, x = S (k / 2) := ⟨_, rfl⟩
  rw [← hx] at c0 c1 c2 c3 c4 hl HT
  clear hx hc
  obtain ⟨h, hhh⟩ : ∃ h, h = k / 2 := ⟨_, rfl⟩
  obtain ⟨r, hr⟩ : ∃ r, r = k % 2 := ⟨_, rfl⟩
  rw [← hhh] at c0 c1 c2 c3 c4 f1 hh
  rw [← hr] at f2 HT
  have hr2 : r = 0 ∨ r = 1 := by omega
  have g1 : IntKind.i64.wrap ((k : Int).tdiv 2) = (h : Int) := by rw [f1]; exact IntWalk.i64_in _ (by omega)
  have g2 : IntKind.i64.wrap ((k : Int).tmod 2) = (r : Int) := by rw [f2]; exact IntWalk.i64_in _ (by omega)
  have g3 : (k : Int) / 2 = (h : Int) := by omega
  have g4 : (k : Int) % 2 = (r : Int) := by omega
  have g5 : IntKind.i64.wrap (h : Int) = (h : Int) := IntWalk.i64_in _ (by omega)
  have g6 : IntKind.i64.wrap (r : Int) = (r : Int) := IntWalk.i64_in _ (by omega)
  have HK := Lib.hid (And.intro hhh hr)
  clear hhh hr hk
  have hb1 : b < w.heap.size + 1 := by omega
  have hb2 : b < w.heap.size + 1 + 1 := by omega
  go_enter Try.func30, Try.ntmps30
  go_wp2_with fail
  obtain ⟨X, hX⟩ : ∃ X, X = ((((w.alloc (Obj.cells #[Value.slice A n c, Value.slice (some ⟨b, off, none⟩) m d] 27)).alloc (Obj.cells #[Value.int IntKind.i64 0, Value.int IntKind.i64 0] 69)).alloc (Obj.cells #[Value.int IntKind.i64 0, Value.int IntKind.i64 0] 69)).alloc (Obj.cells #[.int .i64 x.tm, .int .i64 x.ca, .int .i64 x.cb, .int .i64 x.lo, .int .i64 x.hi] 23)) := ⟨_, rfl⟩
  have BX : Bl w X := by rw [hX]; go_grown
  have s0 : X.cell? ⟨w.heap.size + 1 + 1 + 1, 0, none⟩ = some (.int .i64 x.tm) := by rw [hX]; go_cell
  have s1 : X.cell? ⟨w.heap.size + 1 + 1 + 1, 1, none⟩ = some (.int .i64 x.ca) := by rw [hX]; go_cell
  have s2 : X.cell? ⟨w.heap.size + 1 + 1 + 1, 2, none⟩ = some (.int .i64 x.cb) := by rw [hX]; go_cell
  have s3 : X.cell? ⟨w.heap.size + 1 + 1 + 1, 3, none⟩ = some (.int .i64 x.lo) := by rw [hX]; go_cell
  have s4 : X.cell? ⟨w.heap.size + 1 + 1 + 1, 4, none⟩ = some (.int .i64 x.hi) := by rw [hX]; go_cell
  have p0 : X.cell? ⟨w.heap.size + 1, 0, none⟩ = some (.int .i64 0) := by rw [hX]; go_cell
  have p1 : X.cell? ⟨w.heap.size + 1, 1, none⟩ = some (.int .i64 0) := by rw [hX]; go_cell
  have q0 : X.cell? ⟨w.heap.size + 1 + 1, 0, none⟩ = some (.int .i64 0) := by rw [hX]; go_cell
  have q1 : X.cell? ⟨w.heap.size + 1 + 1, 1, none⟩ = some (.int .i64 0) := by rw [hX]; go_cell
  have pf : X.frozen? ⟨w.heap.size + 1, 0, none⟩ = false := by rw [hX]; go_cell
  have qf : X.frozen? ⟨w.heap.size + 1 + 1, 0, none⟩ = false := by rw [hX]; go_cell
  have pf1 : X.frozen? ⟨w.heap.size + 1, 1, none⟩ = false := by rw [hX]; go_cell
  have qf1 : X.frozen? ⟨w.heap.size + 1 + 1, 1, none⟩ = false := by rw [hX]; go_cell
  have HX := Lib.hid (And.intro s0 (And.intro s1 (And.intro s2 (And.intro s3 (And.intro s4 (And.intro p0 (And.intro p1 (And.intro q0 (And.intro q1 (And.intro pf (And.intro qf (And.intro pf1 qf1))))))))))))
  have l3 := ltb s0
  have l2 := ltb q0
  have l1 := ltb p0
  rw [← hX]
  clear hX c0 c1 c2 c3 c4 hB
  have l31 : w.heap.size + 1 + 1 + 1 < X.heap.size + 1 := by omega
  have l32 : w.heap.size + 1 + 1 + 1 < X.heap.size + 1 + 1 := by omega
  have l33 : w.heap.size + 1 + 1 + 1 < X.heap.size + 1 + 1 + 1 := by omega
  have S0 : SK w X x X := ⟨Bl.rf X, s0, s1, s2, l3⟩
  go_cut [8, 9] (fun v8 v9 wx => ∃ g8 g9, v8 = .pointer (some ⟨g8, 0, none⟩) ∧ v9 = .pointer (some ⟨g9, 0, none⟩) ∧ PP X (spo x.ca x.tm) (spo x.cb x.tm) g8 g9 wx)
  case first =>
    go_region_held3 (fun W' => Bl X W' ∧ W'.cell? ⟨w.heap.size + 1 + 1 + 1, 0, none⟩ = some (.int .i64 x.tm) ∧ W'.cell? ⟨w.heap.size + 1 + 1 + 1, 1, none⟩ = some (.int .i64 x.ca) ∧ W'.cell? ⟨w.heap.size + 1 + 1 + 1, 2, none⟩ = some (.int .i64 x.cb) ∧ w.heap.size + 1 + 1 + 1 < W'.heap.size) (first | exact S0 | exact SK.t S0 (bl_dnS _ 1) | exact SK.t (by assumption) (bl_rdS _) | exact SK.set (by assumption) l3 (by (try simp only [World.size_alloc, World.size_drew, World.size_drewN, World.size_setCell]); omega) | exact SK.t S0 (by first | (go_grown; done) | (refine Bl.tr ?_ (bl_drS _); go_grown; done)) | exact SK.t (by assumption) (by first | (refine Bl.tr (bl_rdS _) ?_; go_grown; done) | (go_grown; done))) ((go_at_call 36; refine (pointOf_eq _ _ _).mono ?_; rintro e9 v9 ⟨rfl, rfl⟩))
    all_goals
      go_wp2_with fail
      go_meet
      refine ⟨_, _, rfl, rfl, ?_, ?_, ?_, ?_, ?_, ?_, ?_⟩
      · first | (go_grown; done) | (refine Bl.tr ?_ (bl_drS _); go_grown; done)
      · (try simp only [World.size_alloc, World.size_drew]); omega
      · (try simp only [World.size_alloc, World.size_drew]); omega
      · (first | (go_cell; done) | (refine cellUp ?_; go_cell; done) | (refine cellUp (cellUp ?_); go_cell; done) | (refine cellUp (cellUp (cellUp ?_)); go_cell; done) | (refine kcb (bl_drS _) ?_; go_cell; done) | (refine kcb (bl_drS _) (cellUp ?_); go_cell; done) | (refine kcb (bl_drS _) (cellUp (cellUp ?_)); go_cell; done))
      · (first | (go_cell; done) | (refine cellUp ?_; go_cell; done) | (refine cellUp (cellUp ?_); go_cell; done) | (refine cellUp (cellUp (cellUp ?_)); go_cell; done) | (refine kcb (bl_drS _) ?_; go_cell; done) | (refine kcb (bl_drS _) (cellUp ?_); go_cell; done) | (refine kcb (bl_drS _) (cellUp (cellUp ?_)); go_cell; done))
      · (first | (go_cell; done) | (refine cellUp ?_; go_cell; done) | (refine cellUp (cellUp ?_); go_cell; done) | (refine cellUp (cellUp (cellUp ?_)); go_cell; done) | (refine kcb (bl_drS _) ?_; go_cell; done) | (refine kcb (bl_drS _) (cellUp ?_); go_cell; done) | (refine kcb (bl_drS _) (cellUp (cellUp ?_)); go_cell; done))
      · (first | (go_cell; done) | (refine cellUp ?_; go_cell; done) | (refine cellUp (cellUp ?_); go_cell; done) | (refine cellUp (cellUp (cellUp ?_)); go_cell; done) | (refine kcb (bl_drS _) ?_; go_cell; done) | (refine kcb (bl_drS _) (cellUp ?_); go_cell; done) | (refine kcb (bl_drS _) (cellUp (cellUp ?_)); go_cell; done))
  case rest =>
    obtain ⟨g8, g9, rfl, rfl, hP⟩ := hcut
    have BP := hP.1
    have s3 := kcb BP HX.out.2.2.2.1
    have s4 := kcb BP HX.out.2.2.2.2.1
    have p0 := kcb BP HX.out.2.2.2.2.2.1
    have p1 := kcb BP HX.out.2.2.2.2.2.2.1
    have q0 := kcb BP HX.out.2.2.2.2.2.2.2.1
    have q1 := kcb BP HX.out.2.2.2.2.2.2.2.2.1
    have pf0 := fzb BP HX.out.2.2.2.2.2.2.2.2.2.1 l1
    have qf0 := fzb BP HX.out.2.2.2.2.2.2.2.2.2.2.1 l2
    have pf1 := fzb BP HX.out.2.2.2.2.2.2.2.2.2.2.2.1 l1
    have qf1 := fzb BP HX.out.2.2.2.2.2.2.2.2.2.2.2.2 l2
    have lg8 := ltb hP.2.2.2.1
    have lg9 := ltb hP.2.2.2.2.2.1
    have g80 := hP.2.2.2.1
    have g81 := hP.2.2.2.2.1
    have g90 := hP.2.2.2.2.2.1
    have g91 := hP.2.2.2.2.2.2
    have ne1 : g8 ≠ w.heap.size + 1 := by have := hP.2.1; omega
    have ne2 : g8 ≠ w.heap.size + 1 + 1 := by have := hP.2.1; omega
    have ne3 : g9 ≠ w.heap.size + 1 := by have := hP.2.2.1; omega
    have ne4 : g9 ≠ w.heap.size + 1 + 1 := by have := hP.2.2.1; omega
    have ne5 : w.heap.size + 1 + 1 + 1 ≠ w.heap.size + 1 := by omega
    have ne6 : w.heap.size + 1 + 1 + 1 ≠ w.heap.size + 1 + 1 := by omega
    by_cases hr1 : r = 1
    · have t1 : ((r : Int) == 1) = true := by simp; omega
      have HTT := Lib.hid (show tkn S k = (spo x.ca x.tm, spo x.cb x.tm, -x.lo) by rw [HT.out, if_pos (by omega)])
      go_wp2_with fail
      have S0 : SR g8 g9 (w.heap.size + 1 + 1 + 1) 3 (spo x.ca x.tm) (spo x.cb x.tm) (.int .i64 x.lo) wc := ⟨g80, g81, g90, g91, s3⟩
      have S1 := SR.set (i := 1) (v := .int .i64 (spo x.ca x.tm).2) (SR.set (i := 0) (v := .int .i64 (spo x.ca x.tm).1) S0 ne1 ne3 ne5) ne1 ne3 ne5
      have S2 := SR.set (i := 1) (v := .int .i64 (spo x.cb x.tm).2) (SR.set (i := 0) (v := .int .i64 (spo x.cb x.tm).1) S1 ne2 ne4 ne6) ne2 ne4 ne6
      go_region_held3 (fun W' => W'.cell? ⟨g8, 0, none⟩ = some (.int .i64 (spo x.ca x.tm).1) ∧ W'.cell? ⟨g8, 1, none⟩ = some (.int .i64 (spo x.ca x.tm).2) ∧ W'.cell? ⟨g9, 0, none⟩ = some (.int .i64 (spo x.cb x.tm).1) ∧ W'.cell? ⟨g9, 1, none⟩ = some (.int .i64 (spo x.cb x.tm).2) ∧ W'.cell? ⟨w.heap.size + 1 + 1 + 1, 3, none⟩ = some (.int .i64 x.lo)) (first | exact S0 | exact SR.t S0 (bl_drS _) | exact S1 | exact SR.t S1 (bl_drS _) | exact S2 | exact SR.t S2 (bl_drS _)) (fail)
      obtain ⟨Z, hZ⟩ : ∃ Z, Z = ((((wc.setCell ⟨w.heap.size + 1, 0, none⟩ (.int .i64 (spo x.ca x.tm).1)).setCell ⟨w.heap.size + 1, 1, none⟩ (.int .i64 (spo x.ca x.tm).2)).setCell ⟨w.heap.size + 1 + 1, 0, none⟩ (.int .i64 (spo x.cb x.tm).1)).setCell ⟨w.heap.size + 1 + 1, 1, none⟩ (.int .i64 (spo x.cb x.tm).2)).drew := ⟨_, rfl⟩
      have z0 : Z.cell? ⟨w.heap.size + 1, 0, none⟩ = some (.int .i64 (spo x.ca x.tm).1) := by rw [hZ]; exact kcb (bl_drS _) (by go_cell)
      have z1 : Z.cell? ⟨w.heap.size + 1, 1, none⟩ = some (.int .i64 (spo x.ca x.tm).2) := by rw [hZ]; exact kcb (bl_drS _) (by go_cell)
      have z2 : Z.cell? ⟨w.heap.size + 1 + 1, 0, none⟩ = some (.int .i64 (spo x.cb x.tm).1) := by rw [hZ]; exact kcb (bl_drS _) (by go_cell)
      have z3 : Z.cell? ⟨w.heap.size + 1 + 1, 1, none⟩ = some (.int .i64 (spo x.cb x.tm).2) := by rw [hZ]; exact kcb (bl_drS _) (by go_cell)
      have HBZ := Lib.hid (show Bl w Z by rw [hZ]; exact Bl.tr (bl_set (bl_set (bl_set (bl_set (BX.tr BP) (by omega)) (by omega)) (by omega)) (by omega)) (bl_drS _))
      rw [← hZ]
      have lz1 := ltb z0
      have lz2 := ltb z2
      clear hZ
      go_wp2_with fail
      exact bodyPost_ret (taken_res _ _ _ _ _ _ _ rfl rfl rfl z0 z1 z2 z3) rfl ⟨by rw [HTT.out, IntWalk.i64_in (-x.lo) (by omega)], HBZ.out⟩
    · have t1 : ((r : Int) == 1) = false := by simp; omega
      have HTT := Lib.hid (show tkn S k = (spo x.cb x.tm, spo x.ca x.tm, x.hi) by rw [HT.out, if_neg (by omega)])
      go_wp2_with fail
      have S0 : SR g8 g9 (w.heap.size + 1 + 1 + 1) 4 (spo x.ca x.tm) (spo x.cb x.tm) (.int .i64 x.hi) wc := ⟨g80, g81, g90, g91, s4⟩
      have S1 := SR.set (i := 1) (v := .int .i64 (spo x.cb x.tm).2) (SR.set (i := 0) (v := .int .i64 (spo x.cb x.tm).1) S0 ne1 ne3 ne5) ne1 ne3 ne5
      have S2 := SR.set (i := 1) (v := .int .i64 (spo x.ca x.tm).2) (SR.set (i := 0) (v := .int .i64 (spo x.ca x.tm).1) S1 ne2 ne4 ne6) ne2 ne4 ne6
      go_region_held3 (fun W' => W'.cell? ⟨g8, 0, none⟩ = some (.int .i64 (spo x.ca x.tm).1) ∧ W'.cell? ⟨g8, 1, none⟩ = some (.int .i64 (spo x.ca x.tm).2) ∧ W'.cell? ⟨g9, 0, none⟩ = some (.int .i64 (spo x.cb x.tm).1) ∧ W'.cell? ⟨g9, 1, none⟩ = some (.int .i64 (spo x.cb x.tm).2) ∧ W'.cell? ⟨w.heap.size + 1 + 1 + 1, 4, none⟩ = some (.int .i64 x.hi)) (first | exact S0 | exact SR.t S0 (bl_drS _) | exact S1 | exact SR.t S1 (bl_drS _) | exact S2 | exact SR.t S2 (bl_drS _)) (fail)
      obtain ⟨Z, hZ⟩ : ∃ Z, Z = ((((wc.setCell ⟨w.heap.size + 1, 0, none⟩ (.int .i64 (spo x.cb x.tm).1)).setCell ⟨w.heap.size + 1, 1, none⟩ (.int .i64 (spo x.cb x.tm).2)).setCell ⟨w.heap.size + 1 + 1, 0, none⟩ (.int .i64 (spo x.ca x.tm).1)).setCell ⟨w.heap.size + 1 + 1, 1, none⟩ (.int .i64 (spo x.ca x.tm).2)).drew := ⟨_, rfl⟩
      have z0 : Z.cell? ⟨w.heap.size + 1, 0, none⟩ = some (.int .i64 (spo x.cb x.tm).1) := by rw [hZ]; exact kcb (bl_drS _) (by go_cell)
      have z1 : Z.cell? ⟨w.heap.size + 1, 1, none⟩ = some (.int .i64 (spo x.cb x.tm).2) := by rw [hZ]; exact kcb (bl_drS _) (by go_cell)
      have z2 : Z.cell? ⟨w.heap.size + 1 + 1, 0, none⟩ = some (.int .i64 (spo x.ca x.tm).1) := by rw [hZ]; exact kcb (bl_drS _) (by go_cell)
      have z3 : Z.cell? ⟨w.heap.size + 1 + 1, 1, none⟩ = some (.int .i64 (spo x.ca x.tm).2) := by rw [hZ]; exact kcb (bl_drS _) (by go_cell)
      have HBZ := Lib.hid (show Bl w Z by rw [hZ]; exact Bl.tr (bl_set (bl_set (bl_set (bl_set (BX.tr BP) (by omega)) (by omega)) (by omega)) (by omega)) (bl_drS _))
      rw [← hZ]
      have lz1 := ltb z0
      have lz2 := ltb z2
      clear hZ
      go_wp2_with fail
      exact bodyPost_ret (taken_res _ _ _ _ _ _ _ rfl rfl rfl z0 z1 z2 z3) rfl ⟨by rw [HTT.out], HBZ.out⟩
end Go.Proofs.Ytchikfegpoonjaa
