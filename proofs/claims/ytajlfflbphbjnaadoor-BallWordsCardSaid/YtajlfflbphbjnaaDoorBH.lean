/-
  Contracts of package ball and of its reference: Run.
-/
import Derived.Test.YtajlfflbphbjnaaDoorBG
import Derived.RegionIn
namespace Go.Proofs.YtajlfflbphbjnaaDoor
open Go.RowKit Go.Shelf
set_option linter.unusedSimpArgs false
set_option linter.unusedVariables false
attribute [local go_sem] Oper.semAt_some

/-- What Run returns. -/
def runR (M : Mst) (E : Nat → Evt) (n : Nat) : Bal × Int × Int := if VM M then (if 100 < n then (Bal.zero, 0, 7) else ((runF M E n).1, (((runF M E n).2.1 : Nat) : Int), (runF M E n).2.2)) else (Bal.zero, 0, 1)
set_option maxHeartbeats 400000 in
theorem states_any (M : Mst) (A : Option Addr) (n c : Nat) (w : World) : Calls Tryd.prog 30 #[encM M, .slice A n c] w fun e w' => e = .returned (.func (.func 34) #[] #[.pointer (some ⟨w.heap.size, 0, none⟩), .pointer (some ⟨w.heap.size + 1, 0, none⟩)]) ∧ w' = (w.alloc (.cells #[.int .i64 M.no, .int .i64 M.hf, .int .i64 M.fu, .int .i64 M.la, .int .i64 M.ag, .int .i64 M.wi] 35)).alloc (.cells #[.slice A n c] 31) := by
  go_enter Tryd.func30, Tryd.ntmps30
  go_wp2
  go_ret
  exact ⟨rfl, rfl⟩
def lastB (pre : List SE) : Bal := match pre.getLast? with
  | some x => x.1
  | none => Bal.zero
theorem lastB_snoc (pre : List SE) (x : SE) : lastB (pre ++ [x]) = x.1 := by simp [lastB]
theorem lastB_ok (M : Mst) (E : Nat → Evt) (n : Nat) : lastB (okL M E n) = (runF M E n).1 := by
  cases n with
  | zero => rfl
  | succ n => rw [okL_succ, lastB_snoc]
theorem bad_run {M : Mst} {E : Nat → Evt} {n : Nat} {q : List SE} {x : SE} (h : badOut M E n (q ++ [x])) : runF M E n = (Bal.zero, q.length, x.2) := by
  obtain ⟨k, hk, h0, h1, e⟩ := h
  obtain ⟨e1, e2⟩ := List.append_inj' e rfl
  have e2 : x = (Bal.zero, (runF M E (k + 1)).2.2) := by simpa using e2
  have e3 : runF M E (k + 1) = (Bal.zero, k, (runF M E (k + 1)).2.2) := by
    rw [runF_next h0] at h1 ⊢
    split at h1
    · exact absurd rfl h1
    · rename_i hne
      rw [if_neg hne]
  rw [runF_stop h1 n (by omega), e3, e1, e2, okL_len]
/-- A cell that may be written. -/
abbrev WBox (w : World) (b : Nat) (v : Value) : Prop := w.cell? ⟨b, 0, none⟩ = some v ∧ w.frozen? ⟨b, 0, none⟩ = false
theorem WBox.low {w w' : World} {b B : Nat} {v : Value} (h : WBox w b v) (hb : Below B w w') (hl : b < B) : WBox w' b v := ⟨(hb.cell (p := ⟨b, 0, none⟩) hl).trans h.1, (hb.frozen (p := ⟨b, 0, none⟩) hl).trans h.2⟩
theorem SBox.low {w w' : World} {b B : Nat} {s : Bal} (h : SBox w b s) (hb : Below B w w') (hl : b < B) : SBox w' b s :=
  ⟨(hb.cell (p := ⟨b, 0, none⟩) hl).trans h.c0, (hb.cell (p := ⟨b, 1, none⟩) hl).trans h.c1, (hb.cell (p := ⟨b, 2, none⟩) hl).trans h.c2, (hb.cell (p := ⟨b, 3, none⟩) hl).trans h.c3, (hb.frozen (p := ⟨b, 0, none⟩) hl).trans h.f0, (hb.frozen (p := ⟨b, 1, none⟩) hl).trans h.f1, (hb.frozen (p := ⟨b, 2, none⟩) hl).trans h.f2, (hb.frozen (p := ⟨b, 3, none⟩) hl).trans h.f3⟩

/-- What a round knows. -/
structure RunI (w : World) (p1 p2 p3 q7 q8 : Nat) (pre : List SE) (W : World) : Prop where
  zero : ∀ x ∈ pre, x.2 = 0
  last : SBox W q7 (lastB pre)
  cnt : WBox W q8 (.int .i64 (pre.length : Int))
  r1 : SBox W p1 Bal.zero
  r2 : WBox W p2 (.int .i64 0)
  r3 : WBox W p3 (.int .i64 0)
  low : Below w.heap.size w W
structure RunJ (w : World) (p1 p2 p3 : Nat) (pre : List SE) (W : World) : Prop where
  out : ∃ q x, pre = q ++ [x] ∧ x.2 ≠ 0 ∧ SBox W p1 Bal.zero ∧ W.cell? ⟨p2, 0, none⟩ = some (.int .i64 (q.length : Int)) ∧ W.cell? ⟨p3, 0, none⟩ = some (.int .i64 x.2)
  low : Below w.heap.size w W

theorem SBox.set {w : World} {b b' : Nat} {s : Bal} (h : SBox w b s) (hne : b' ≠ b) (o : Nat) (v : Value) : SBox (w.setCell ⟨b', o, none⟩ v) b s := by
  have oth : ∀ i, (w.setCell ⟨b', o, none⟩ v).cell? ⟨b, i, none⟩ = w.cell? ⟨b, i, none⟩ := fun i => World.cell?_setCell_other _ _ _ _ (by intro e; injection e with e; first | exact hne e | exact hne e.symm)
  exact ⟨(oth _).trans h.c0, (oth _).trans h.c1, (oth _).trans h.c2, (oth _).trans h.c3, by rw [World.frozen?_setCell]; exact h.f0, by rw [World.frozen?_setCell]; exact h.f1, by rw [World.frozen?_setCell]; exact h.f2, by rw [World.frozen?_setCell]; exact h.f3⟩
theorem WBox.set {w : World} {b b' : Nat} {u : Value} (h : WBox w b u) (hne : b' ≠ b) (o : Nat) (v : Value) : WBox (w.setCell ⟨b', o, none⟩ v) b u :=
  ⟨(World.cell?_setCell_other _ _ _ _ (by intro e; injection e with e; first | exact hne e | exact hne e.symm)).trans h.1, by rw [World.frozen?_setCell]; exact h.2⟩
theorem keeps_set {B b : Nat} (X : World) (o : Nat) (v : Value) (h : b < B) : KeepsAll B X (X.setCell ⟨b, o, none⟩ v) :=
  ⟨by simp, fun k hk _ => by
    have hne : b ≠ k := by omega
    unfold World.setCell
    simp [Array.getElem?_modify, hne]⟩

theorem SBox.put {X : World} {b : Nat} {s : Bal} (h : SBox X b s) (s' : Bal) : SBox ((((X.setCell ⟨b, 0, none⟩ (.int .i64 s'.pl)).setCell ⟨b, 1, none⟩ (.int .i64 s'.wi)).setCell ⟨b, 2, none⟩ (.bool s'.fl)).setCell ⟨b, 3, none⟩ (.int .i64 s'.t)) b s' := by
  obtain ⟨c0, c1, c2, c3, f0, f1, f2, f3⟩ := h
  exact ⟨by go_cell, by go_cell, by go_cell, by go_cell, by simp only [World.frozen?_setCell]; exact f0, by simp only [World.frozen?_setCell]; exact f1, by simp only [World.frozen?_setCell]; exact f2, by simp only [World.frozen?_setCell]; exact f3⟩
theorem WBox.put {X : World} {b : Nat} {u : Value} (h : WBox X b u) (v : Value) : WBox (X.setCell ⟨b, 0, none⟩ v) b v := by
  obtain ⟨c0, f0⟩ := h
  exact ⟨World.cell?_setCell_same' _ _ _ (by rw [c0]; rfl), by simp only [World.frozen?_setCell]; exact f0⟩
theorem WBox.put4 {X : World} {b b' : Nat} {u : Value} (h : WBox X b' u) (hne : b ≠ b') (s' : Bal) : WBox ((((X.setCell ⟨b, 0, none⟩ (.int .i64 s'.pl)).setCell ⟨b, 1, none⟩ (.int .i64 s'.wi)).setCell ⟨b, 2, none⟩ (.bool s'.fl)).setCell ⟨b, 3, none⟩ (.int .i64 s'.t)) b' u := (((h.set hne _ _).set hne _ _).set hne _ _).set hne _ _
theorem SBox.put4 {X : World} {b b' : Nat} {s : Bal} (h : SBox X b' s) (hne : b ≠ b') (s' : Bal) : SBox ((((X.setCell ⟨b, 0, none⟩ (.int .i64 s'.pl)).setCell ⟨b, 1, none⟩ (.int .i64 s'.wi)).setCell ⟨b, 2, none⟩ (.bool s'.fl)).setCell ⟨b, 3, none⟩ (.int .i64 s'.t)) b' s := (((h.set hne _ _).set hne _ _).set hne _ _).set hne _ _
theorem keeps_put4 {B b : Nat} (X : World) (s' : Bal) (h : b < B) : KeepsAll B X ((((X.setCell ⟨b, 0, none⟩ (.int .i64 s'.pl)).setCell ⟨b, 1, none⟩ (.int .i64 s'.wi)).setCell ⟨b, 2, none⟩ (.bool s'.fl)).setCell ⟨b, 3, none⟩ (.int .i64 s'.t)) := (((keeps_set X 0 _ h).trans (keeps_set _ 1 _ h)).trans (keeps_set _ 2 _ h)).trans (keeps_set _ 3 _ h)
theorem below_put4 {B b : Nat} {W X : World} (hX : Below B W X) (s' : Bal) (h : B ≤ b) : Below B W ((((X.setCell ⟨b, 0, none⟩ (.int .i64 s'.pl)).setCell ⟨b, 1, none⟩ (.int .i64 s'.wi)).setCell ⟨b, 2, none⟩ (.bool s'.fl)).setCell ⟨b, 3, none⟩ (.int .i64 s'.t)) := (((hX.setCell (p := ⟨b, 0, none⟩) h _).setCell (p := ⟨b, 1, none⟩) h _).setCell (p := ⟨b, 2, none⟩) h _).setCell (p := ⟨b, 3, none⟩) h _

set_option maxRecDepth 100000 in
set_option maxHeartbeats 3200000 in
theorem run_ok (M : Mst) (hM : VM M) (A : Option Addr) (n c : Nat) (E : Nat → Evt) (w : World) (hA : El w A n E) (hn : n ≤ 100) (hc : n ≤ c) (hc2 : c ≤ maxLen) :
    Calls Tryd.prog 19 #[encM M, .slice A n c] w fun e w' => e = .returned (.tuple #[encB (runF M E n).1, .int .i64 (((runF M E n).2.1 : Nat) : Int), .int .i64 (runF M E n).2.2]) ∧ Bl w w' := by
  have HM := Lib.hid hM
  have HVM := Lib.hid (show decide (VM M) = true from decide_eq_true hM)
  have HA := Lib.hid hA
  have HC := Lib.hid hc2
  clear hM hA hc2
  refine callsIn_wide (n := 6) |>.1 ?_
  refine callsIn_of_wp_marks Tryd.func19 rfl trivial ?_ rfl
  simp only [Tryd.ntmps19, List.size_toArray, List.length_cons, List.length_nil, Nat.reduceAdd, Nat.reduceSub, Array.replicate_succ, Array.replicate_zero, List.push_toArray, List.append_toArray, List.nil_append, List.cons_append]
  gi_wp2_with fail
  refine ⟨trivial, ?_⟩
  refine (callsIn_wide.2 (validMast_any M _)).mono ?_
  rintro e w1 ⟨rfl, hb⟩
  have a0 := kcb hb (b := w.heap.size) (o := 0) (v := .int .i64 M.no) (by go_cell)
  have a1 := kcb hb (b := w.heap.size) (o := 1) (v := .int .i64 M.hf) (by go_cell)
  have a2 := kcb hb (b := w.heap.size) (o := 2) (v := .int .i64 M.fu) (by go_cell)
  have a3 := kcb hb (b := w.heap.size) (o := 3) (v := .int .i64 M.la) (by go_cell)
  have a4 := kcb hb (b := w.heap.size) (o := 4) (v := .int .i64 M.ag) (by go_cell)
  have a5 := kcb hb (b := w.heap.size) (o := 5) (v := .int .i64 M.wi) (by go_cell)
  have S1 : SBox w1 (w.heap.size + 1) Bal.zero := ⟨kcb hb (b := w.heap.size + 1) (o := 0) (v := .int .i64 0) (by go_cell), kcb hb (b := w.heap.size + 1) (o := 1) (v := .int .i64 0) (by go_cell), kcb hb (b := w.heap.size + 1) (o := 2) (v := .bool false) (by go_cell), kcb hb (b := w.heap.size + 1) (o := 3) (v := .int .i64 0) (by go_cell), fzb hb (b := w.heap.size + 1) (o := 0) (by (try simp only [frozen?_alloc_cells, World.frozen?_setCell]); first | assumption | exact fz_new (by (try simp only [World.size_alloc, World.size_setCell]); omega)) (by (try simp only [World.size_alloc, World.size_setCell]); omega), fzb hb (b := w.heap.size + 1) (o := 1) (by (try simp only [frozen?_alloc_cells, World.frozen?_setCell]); first | assumption | exact fz_new (by (try simp only [World.size_alloc, World.size_setCell]); omega)) (by (try simp only [World.size_alloc, World.size_setCell]); omega), fzb hb (b := w.heap.size + 1) (o := 2) (by (try simp only [frozen?_alloc_cells, World.frozen?_setCell]); first | assumption | exact fz_new (by (try simp only [World.size_alloc, World.size_setCell]); omega)) (by (try simp only [World.size_alloc, World.size_setCell]); omega), fzb hb (b := w.heap.size + 1) (o := 3) (by (try simp only [frozen?_alloc_cells, World.frozen?_setCell]); first | assumption | exact fz_new (by (try simp only [World.size_alloc, World.size_setCell]); omega)) (by (try simp only [World.size_alloc, World.size_setCell]); omega)⟩
  have S2 : WBox w1 (w.heap.size + 1 + 1) (.int .i64 0) := ⟨kcb hb (b := w.heap.size + 1 + 1) (o := 0) (v := .int .i64 0) (by go_cell), fzb hb (b := w.heap.size + 1 + 1) (o := 0) (by (try simp only [frozen?_alloc_cells, World.frozen?_setCell]); first | assumption | exact fz_new (by (try simp only [World.size_alloc, World.size_setCell]); omega)) (by (try simp only [World.size_alloc, World.size_setCell]); omega)⟩
  have S3 : WBox w1 (w.heap.size + 1 + 1 + 1) (.int .i64 0) := ⟨kcb hb (b := w.heap.size + 1 + 1 + 1) (o := 0) (v := .int .i64 0) (by go_cell), fzb hb (b := w.heap.size + 1 + 1 + 1) (o := 0) (by (try simp only [frozen?_alloc_cells, World.frozen?_setCell]); first | assumption | exact fz_new (by (try simp only [World.size_alloc, World.size_setCell]); omega)) (by (try simp only [World.size_alloc, World.size_setCell]); omega)⟩
  have B1 : Bl w w1 := Below.trans (by go_grown) (hb.mono (by (try simp only [World.size_alloc]); omega))
  have z1 := hb.size
  simp only [World.size_alloc] at z1
  have lw := ltb a0
  clear hb
  rw [HVM.out]
  gi_wp2_with (refine ⟨trivial, ?_⟩; gi_at_call 30; refine (callsIn_wide.2 (states_any M A n c _)).mono ?_; rintro e w' ⟨rfl, rfl⟩)
  obtain ⟨q, hq⟩ : ∃ q, q = w1.heap.size := ⟨_, rfl⟩
  obtain ⟨V, hV⟩ : ∃ V, V = (((w1.alloc (.cells #[.int .i64 0, .int .i64 0, .bool false, .int .i64 0] 53)).alloc (.cells #[.int .i64 0] 3)).alloc (.cells #[.int .i64 M.no, .int .i64 M.hf, .int .i64 M.fu, .int .i64 M.la, .int .i64 M.ag, .int .i64 M.wi] 35)).alloc (.cells #[.slice A n c] 31) := ⟨_, rfl⟩
  have BV : Bl w V := by rw [hV]; go_grown
  have B1V : Bl w1 V := by rw [hV]; go_grown
  have VQ : SBox V q Bal.zero := by rw [hV, hq]; exact ⟨by go_cell, by go_cell, by go_cell, by go_cell, by (try simp only [frozen?_alloc_cells, World.frozen?_setCell]); first | assumption | exact fz_new (by (try simp only [World.size_alloc, World.size_setCell]); omega), by (try simp only [frozen?_alloc_cells, World.frozen?_setCell]); first | assumption | exact fz_new (by (try simp only [World.size_alloc, World.size_setCell]); omega), by (try simp only [frozen?_alloc_cells, World.frozen?_setCell]); first | assumption | exact fz_new (by (try simp only [World.size_alloc, World.size_setCell]); omega), by (try simp only [frozen?_alloc_cells, World.frozen?_setCell]); first | assumption | exact fz_new (by (try simp only [World.size_alloc, World.size_setCell]); omega)⟩
  have VC : WBox V (q + 1) (.int .i64 0) := by rw [hV, hq]; exact ⟨by go_cell, by (try simp only [frozen?_alloc_cells, World.frozen?_setCell]); first | assumption | exact fz_new (by (try simp only [World.size_alloc, World.size_setCell]); omega)⟩
  have VM' : MastAt V (q + 1 + 1) M := by rw [hV, hq]; exact ⟨by go_cell, by go_cell, by go_cell, by go_cell, by go_cell, by go_cell⟩
  have VL : V.cell? ⟨q + 1 + 1 + 1, 0, none⟩ = some (.slice A n c) := by rw [hV, hq]; go_cell
  have V1 := S1.low B1V (by omega)
  have V2 := S2.low B1V (by omega)
  have V3 := S3.low B1V (by omega)
  have zV : V.heap.size = q + 1 + 1 + 1 + 1 := by rw [hV, hq]; simp
  rw [← hV, ← hq]
  have hqw : w.heap.size + 1 + 1 + 1 < q := by omega
  clear hV hq a0 a1 a2 a3 a4 a5 S1 S2 S3 B1 B1V z1 lw
  refine loopB rfl (by omega) (gf := 34) (lb := #[.pointer (some ⟨q + 1 + 1, 0, none⟩), .pointer (some ⟨q + 1 + 1 + 1, 0, none⟩)]) rfl trivial enters1
    (states_seq (6 - 1) (q + 1 + 1) (q + 1 + 1 + 1) w.heap.size M HM.out A n c E (by omega) hn hc HC.out V (by omega) VM' VL (fun W' h => HA.out.below (BV.trans h))) (fun h k => h.trans k) (fun W l o hl ho => below_put W o (by omega) (by have := (Array.getElem?_eq_some_iff.1 ho.choose_spec.1).1; omega)) (Below.refl _ _) (fun _ => rfl)
    (RunI w (w.heap.size + 1) (w.heap.size + 1 + 1) (w.heap.size + 1 + 1 + 1) q (q + 1)) (RunJ w (w.heap.size + 1) (w.heap.size + 1 + 1) (w.heap.size + 1 + 1 + 1))
    (fun s X Y h hb => ⟨h.zero, h.last.low hb (by omega), h.cnt.low hb (by omega), h.r1.low hb (by omega), h.r2.low hb (by omega), h.r3.low hb (by omega), h.low.trans (hb.mono (by omega))⟩)
    (fun s X Y h hb => ⟨by obtain ⟨q', x, e1, e2, e3, e4, e5⟩ := h.out; exact ⟨q', x, e1, e2, e3.low hb (by omega), (hb.cell (p := ⟨w.heap.size + 1 + 1, 0, none⟩) (by show w.heap.size + 1 + 1 < V.heap.size; omega)).trans e4, (hb.cell (p := ⟨w.heap.size + 1 + 1 + 1, 0, none⟩) (by show w.heap.size + 1 + 1 + 1 < V.heap.size; omega)).trans e5⟩, h.low.trans (hb.mono (by omega))⟩)
    ⟨by simp, VQ, VC, V1, V2, V3, BV⟩
    (fun x Wb a' X => ∃ p, a' = { tmps := #[.agg #[.int .i64 M.no, .int .i64 M.hf, .int .i64 M.fu, .int .i64 M.la, .int .i64 M.ag, .int .i64 M.wi], .slice A n c, .pointer (some ⟨w.heap.size, 0, none⟩), undef, .pointer (some ⟨w.heap.size + 1, 0, none⟩), .pointer (some ⟨w.heap.size + 1 + 1, 0, none⟩), .pointer (some ⟨w.heap.size + 1 + 1 + 1, 0, none⟩), .pointer (some ⟨q, 0, none⟩), .pointer (some ⟨q + 1, 0, none⟩), .pointer (some ⟨p, 0, none⟩), .int .i64 x.2, .agg #[.int .i64 M.no, .int .i64 M.hf, .int .i64 M.fu, .int .i64 M.la, .int .i64 M.ag, .int .i64 M.wi], .bool true, .bool false, undef, .slice A n c, .int .i64 n, .bool (decide (100 < (n : Int))), undef, .agg #[.int .i64 0, .int .i64 0, .bool false, .int .i64 0], .agg #[.int .i64 M.no, .int .i64 M.hf, .int .i64 M.fu, .int .i64 M.la, .int .i64 M.ag, .int .i64 M.wi], .slice A n c, .func (.func 34) #[] #[.pointer (some ⟨q + 1 + 1, 0, none⟩), .pointer (some ⟨q + 1 + 1 + 1, 0, none⟩)], encB x.1, .int .i64 x.2, undef, undef, undef, undef, undef, undef, undef, undef, undef, undef], defers := [] } ∧ Wb.heap.size ≤ p ∧ X.cell? ⟨p, 0, none⟩ = some (.int .i64 x.1.pl) ∧ X.cell? ⟨p, 1, none⟩ = some (.int .i64 x.1.wi) ∧ X.cell? ⟨p, 2, none⟩ = some (.bool x.1.fl) ∧ X.cell? ⟨p, 3, none⟩ = some (.int .i64 x.1.t))
    ?hA ?assign ?body ?done ?stop
  case hA =>
    rintro x Wb a' X k o ⟨p, rfl, hp, e0, e1, e2, e3⟩ hk ⟨o', ho, hoc⟩
    have kk : ∀ {b i : Nat} {v : Value}, X.cell? ⟨b, i, none⟩ = some v → (X.putObj k o).cell? ⟨b, i, none⟩ = some v := fun h => cell_kept h (grownBy_putObj' _ k o) (fun r e => by cases e; exact ⟨_, ho, hoc⟩)
    exact ⟨p, rfl, by simpa using hp, kk e0, kk e1, kk e2, kk e3⟩
  case assign =>
    intro k x Wb K hz hK
    unfold encSE
    gi_wp2
    refine hK _ _ ?_ ⟨Wb.heap.size, rfl, Nat.le_refl _, by go_cell, by go_cell, by go_cell, by go_cell⟩
    exact (Below.refl _ Wb).alloc (Nat.le_refl _) _
  case body =>
    rintro k pre x a' Wb X hk ⟨r, hr⟩ hI hX ⟨p, rfl, hp, e0, e1, e2, e3⟩ hlen
    have hq9 : q + 1 < Wb.heap.size := by have := (Array.getElem?_eq_some_iff.1 hr).1; omega
    have zX := hX.size
    obtain ⟨c0, c1, c2, c3, f0, f1, f2, f3⟩ := hI.last.low hX (by omega)
    obtain ⟨n0, nf⟩ := hI.cnt.low hX (by omega)
    have I1 := Lib.hid (hI.r1.low hX (by omega))
    have I2 := Lib.hid (hI.r2.low hX (by omega))
    have I3 := Lib.hid (hI.r3.low hX (by omega))
    have HI := Lib.hid hI
    have HXX := Lib.hid hX
    clear hI hX
    by_cases hz : x.2 = 0
    · have hz1 : (x.2 != 0) = false := by simp [hz]
      gi_wp2_with fail
      obtain ⟨Y, hY⟩ : ∃ Y, Y = ((((X.setCell ⟨q, 0, none⟩ (.int .i64 x.1.pl)).setCell ⟨q, 1, none⟩ (.int .i64 x.1.wi)).setCell ⟨q, 2, none⟩ (.bool x.1.fl)).setCell ⟨q, 3, none⟩ (.int .i64 x.1.t)).setCell ⟨q + 1, 0, none⟩ (.int .i64 ((pre.length : Int) + 1)) := ⟨_, rfl⟩
      rw [← hY]
      have CQ := SBox.put ⟨c0, c1, c2, c3, f0, f1, f2, f3⟩ x.1
      have hlt : q < V.heap.size := by omega
      have hlt1 : q + 1 < V.heap.size := by omega
      have hle : w.heap.size ≤ q := by omega
      have hle1 : w.heap.size ≤ q + 1 := by omega
      have kXY : KeepsAll V.heap.size X Y := by rw [hY]; exact (keeps_put4 X x.1 hlt).trans (keeps_set _ 0 _ hlt1)
      have BXY : Below w.heap.size Wb Y := by rw [hY]; exact (below_put4 (HXX.out.mono (by omega)) x.1 hle).setCell (p := ⟨q + 1, 0, none⟩) hle1 _
      refine ⟨(below_keepsAll HXX.out _).trans kXY, BXY, ?_⟩
      refine ⟨fun y hy => (List.mem_append.1 hy).elim (HI.out.zero y) (fun e => by simp at e; rw [e]; exact hz), ?_, ?_, ?_, ?_, ?_, HI.out.low.trans BXY⟩
      · rw [lastB_snoc, hY]; exact CQ.set (by omega) _ _
      · rw [hY, List.length_append, List.length_singleton, show (((pre.length + 1 : Nat)) : Int) = (pre.length : Int) + 1 by omega]
        exact WBox.put (WBox.put4 ⟨n0, nf⟩ (by omega) x.1) _
      · rw [hY]; exact (I1.out.put4 (by omega) x.1).set (by omega) _ _
      · rw [hY]; exact (I2.out.put4 (by omega) x.1).set (by omega) _ _
      · rw [hY]; exact (I3.out.put4 (by omega) x.1).set (by omega) _ _
    · have hz1 : (x.2 != 0) = true := by simp [hz]
      obtain ⟨d0, d1, d2, d3, g0, g1, g2, g3⟩ := I1.out
      obtain ⟨k0, kf⟩ := I2.out
      obtain ⟨j0, jf⟩ := I3.out
      have FIN : ∀ Y, Y = ((((((X.setCell ⟨w.heap.size + 1, 0, none⟩ (.int .i64 0)).setCell ⟨w.heap.size + 1, 1, none⟩ (.int .i64 0)).setCell ⟨w.heap.size + 1, 2, none⟩ (.bool false)).setCell ⟨w.heap.size + 1, 3, none⟩ (.int .i64 0)).setCell ⟨w.heap.size + 1 + 1, 0, none⟩ (.int .i64 (pre.length : Int))).setCell ⟨w.heap.size + 1 + 1 + 1, 0, none⟩ (.int .i64 x.2)).drew →
          KeepsAll V.heap.size Wb Y ∧ RunJ w (w.heap.size + 1) (w.heap.size + 1 + 1) (w.heap.size + 1 + 1 + 1) (pre ++ [x]) Y := by
        intro Y hY
        have l1 : w.heap.size + 1 < V.heap.size := by omega
        have l2 : w.heap.size + 1 + 1 < V.heap.size := by omega
        have l3 : w.heap.size + 1 + 1 + 1 < V.heap.size := by omega
        have e1 : w.heap.size ≤ w.heap.size + 1 := by omega
        have e2 : w.heap.size ≤ w.heap.size + 1 + 1 := by omega
        have e3 : w.heap.size ≤ w.heap.size + 1 + 1 + 1 := by omega
        have S1 := ((I1.out.put Bal.zero).set (b' := w.heap.size + 1 + 1) (by omega) 0 (.int .i64 (pre.length : Int))).set (b' := w.heap.size + 1 + 1 + 1) (by omega) 0 (.int .i64 x.2)
        have S2 := ((I2.out.put4 (b := w.heap.size + 1) (by omega) Bal.zero).put (.int .i64 (pre.length : Int))).set (b' := w.heap.size + 1 + 1 + 1) (by omega) 0 (.int .i64 x.2)
        have S3 := ((I3.out.put4 (b := w.heap.size + 1) (by omega) Bal.zero).set (b' := w.heap.size + 1 + 1) (by omega) 0 (.int .i64 (pre.length : Int))).put (.int .i64 x.2)
        have BB := ((below_put4 (b := w.heap.size + 1) (HXX.out.mono (by omega : w.heap.size ≤ Wb.heap.size)) Bal.zero e1).setCell (p := ⟨w.heap.size + 1 + 1, 0, none⟩) e2 (.int .i64 (pre.length : Int))).setCell (p := ⟨w.heap.size + 1 + 1 + 1, 0, none⟩) e3 (.int .i64 x.2)
        have KK := (below_keepsAll HXX.out V.heap.size).trans (((keeps_put4 X Bal.zero l1).trans (keeps_set _ 0 (.int .i64 (pre.length : Int)) l2)).trans (keeps_set _ 0 (.int .i64 x.2) l3))
        subst hY
        have DD := Bl.d1 (((((((X.setCell ⟨w.heap.size + 1, 0, none⟩ (.int .i64 0)).setCell ⟨w.heap.size + 1, 1, none⟩ (.int .i64 0)).setCell ⟨w.heap.size + 1, 2, none⟩ (.bool false)).setCell ⟨w.heap.size + 1, 3, none⟩ (.int .i64 0)).setCell ⟨w.heap.size + 1 + 1, 0, none⟩ (.int .i64 (pre.length : Int))).setCell ⟨w.heap.size + 1 + 1 + 1, 0, none⟩ (.int .i64 x.2)))
        have L1 := ltb S1.c0
        have L2 := ltb S2.1
        have L3 := ltb S3.1
        exact ⟨KK.trans (below_keepsAll DD _), ⟨⟨pre, x, rfl, hz, S1.low DD L1, (S2.low DD L2).1, (S3.low DD L3).1⟩, HI.out.low.trans (BB.trans (DD.mono (by simp only [World.size_setCell] at L1 ⊢; omega)))⟩⟩
      gi_wp2_with fail
      gi_region
      all_goals
        gi_wp2_with fail
        exact FIN _ rfl
  case done =>
    rintro D xs W' hD hS hI hd
    have hok : (runF M E n).2.2 = 0 ∧ xs = okL M E n := by
      rcases hS with h | ⟨k, hk, h0, h1, e⟩
      · exact h
      · exact absurd (hI.zero (Bal.zero, (runF M E (k + 1)).2.2) (by rw [e]; simp)) h1
    obtain ⟨hok, rfl⟩ := hok
    have HR := Lib.hid (show runF M E n = ((runF M E n).1, n, 0) from Prod.ext rfl (Prod.ext (runF_len hok) hok))
    have hlast := hI.last
    rw [lastB_ok] at hlast
    obtain ⟨s, hs⟩ : ∃ s, s = (runF M E n).1 := ⟨_, rfl⟩
    rw [← hs] at hlast HR
    clear hs
    have HLow := Lib.hid hI.low
    obtain ⟨c0, c1, c2, c3, f0, f1, f2, f3⟩ := hlast
    obtain ⟨n0, nf⟩ := hI.cnt
    rw [okL_len] at n0
    obtain ⟨d0, d1, d2, d3, g0, g1, g2, g3⟩ := hI.r1
    obtain ⟨k0, kf⟩ := hI.r2
    obtain ⟨j0, jf⟩ := hI.r3
    have I1 := Lib.hid hI.r1
    have I2 := Lib.hid hI.r2
    have I3 := Lib.hid hI.r3
    have hD1 : w.heap.size + 1 + 1 + 1 < D := by omega
    clear hI hS
    have FIN : ∀ Y, Y = ((((((W'.setCell ⟨w.heap.size + 1, 0, none⟩ (.int .i64 s.pl)).setCell ⟨w.heap.size + 1, 1, none⟩ (.int .i64 s.wi)).setCell ⟨w.heap.size + 1, 2, none⟩ (.bool s.fl)).setCell ⟨w.heap.size + 1, 3, none⟩ (.int .i64 s.t)).setCell ⟨w.heap.size + 1 + 1, 0, none⟩ (.int .i64 (n : Int))).setCell ⟨w.heap.size + 1 + 1 + 1, 0, none⟩ (.int .i64 0)).drew →
        SBox Y (w.heap.size + 1) s ∧ WBox Y (w.heap.size + 1 + 1) (.int .i64 (n : Int)) ∧ WBox Y (w.heap.size + 1 + 1 + 1) (.int .i64 0) ∧ Bl w Y ∧ Y.heap[D]? = some (.deferred (some [])) := by
      intro Y hY
      have S1 := ((I1.out.put s).set (b' := w.heap.size + 1 + 1) (by omega) 0 (.int .i64 (n : Int))).set (b' := w.heap.size + 1 + 1 + 1) (by omega) 0 (.int .i64 0)
      have S2 := ((I2.out.put4 (b := w.heap.size + 1) (by omega) s).put (.int .i64 (n : Int))).set (b' := w.heap.size + 1 + 1 + 1) (by omega) 0 (.int .i64 0)
      have S3 := ((I3.out.put4 (b := w.heap.size + 1) (by omega) s).set (b' := w.heap.size + 1 + 1) (by omega) 0 (.int .i64 (n : Int))).put (.int .i64 0)
      have e1 : w.heap.size ≤ w.heap.size + 1 := by omega
      have e2 : w.heap.size ≤ w.heap.size + 1 + 1 := by omega
      have e3 : w.heap.size ≤ w.heap.size + 1 + 1 + 1 := by omega
      have BB := ((below_put4 (b := w.heap.size + 1) HLow.out s e1).setCell (p := ⟨w.heap.size + 1 + 1, 0, none⟩) e2 (.int .i64 (n : Int))).setCell (p := ⟨w.heap.size + 1 + 1 + 1, 0, none⟩) e3 (.int .i64 0)
      have l1 : w.heap.size + 1 < D := by omega
      have l2 : w.heap.size + 1 + 1 < D := by omega
      have KK := ((keeps_put4 (B := D) W' s l1).trans (keeps_set _ 0 (.int .i64 (n : Int)) l2)).trans (keeps_set _ 0 (.int .i64 0) hD1)
      have HD := KK.at (Nat.le_refl D) hd
      subst hY
      have DD := Bl.d1 (((((((W'.setCell ⟨w.heap.size + 1, 0, none⟩ (.int .i64 s.pl)).setCell ⟨w.heap.size + 1, 1, none⟩ (.int .i64 s.wi)).setCell ⟨w.heap.size + 1, 2, none⟩ (.bool s.fl)).setCell ⟨w.heap.size + 1, 3, none⟩ (.int .i64 s.t)).setCell ⟨w.heap.size + 1 + 1, 0, none⟩ (.int .i64 (n : Int))).setCell ⟨w.heap.size + 1 + 1 + 1, 0, none⟩ (.int .i64 0)))
      exact ⟨S1.low DD (ltb S1.c0), S2.low DD (ltb S2.1), S3.low DD (ltb S3.1), BB.trans (DD.mono BB.size), HD⟩
    gi_wp2_with fail
    gi_region
    all_goals
      gi_wp2_with fail
      obtain ⟨Y, hY⟩ : ∃ Y, Y = ((((((W'.setCell ⟨w.heap.size + 1, 0, none⟩ (.int .i64 s.pl)).setCell ⟨w.heap.size + 1, 1, none⟩ (.int .i64 s.wi)).setCell ⟨w.heap.size + 1, 2, none⟩ (.bool s.fl)).setCell ⟨w.heap.size + 1, 3, none⟩ (.int .i64 s.t)).setCell ⟨w.heap.size + 1 + 1, 0, none⟩ (.int .i64 (n : Int))).setCell ⟨w.heap.size + 1 + 1 + 1, 0, none⟩ (.int .i64 0)).drew := ⟨_, rfl⟩
      obtain ⟨F1, F2, F3, F4, F5⟩ := FIN Y hY
      rw [← hY]
      clear hY FIN
      have hDw : w.heap.size ≤ D := by omega
      have PB : Below D Y (Y.putObj D (.deferred none)) := below_put Y _ (Nat.le_refl _) (by have := (Array.getElem?_eq_some_iff.1 F5).1; omega)
      have T1 := F1.low PB (by omega)
      obtain ⟨u0, u1, u2, u3, _, _, _, _⟩ := T1
      have T2 := (F2.low PB (by omega)).1
      have T3 := (F3.low PB (by omega)).1
      have BB : Bl w (Y.putObj D (.deferred none)) := F4.trans (PB.mono hDw)
      refine ⟨by simp, .inl ⟨_, _, rfl, run_takeDeferred F5, ?_⟩⟩
      refine ⟨.tuple #[.agg #[.int .i64 s.pl, .int .i64 s.wi, .bool s.fl, .int .i64 s.t], .int .i64 (n : Int), .int .i64 0], ?_, by rw [HR.out], BB⟩
      simp [results, Tryd.results19, go_sem, u0, u1, u2, u3, T2, T3]
  case stop =>
    rintro D pre W' hD hS hI hd
    obtain ⟨q', x, rfl, hx, S1, t2, t3⟩ := hI.out
    have hb : badOut M E n (q' ++ [x]) := by
      rcases hS with ⟨k, e⟩ | h
      · exact absurd (okL_zero (M := M) (E := E) (k := k) (x := x) (by rw [← e]; simp)) hx
      · exact h
    have HR := Lib.hid (bad_run hb)
    have HLow := Lib.hid hI.low
    have hDw : w.heap.size ≤ D := by omega
    have PB : Below D W' (W'.putObj D (.deferred none)) := below_put W' _ (Nat.le_refl _) (by have := (Array.getElem?_eq_some_iff.1 hd).1; omega)
    have T1 := S1.low PB (by omega)
    have T2 := (PB.cell (p := ⟨w.heap.size + 1 + 1, 0, none⟩) (by show w.heap.size + 1 + 1 < D; omega)).trans t2
    have T3 := (PB.cell (p := ⟨w.heap.size + 1 + 1 + 1, 0, none⟩) (by show w.heap.size + 1 + 1 + 1 < D; omega)).trans t3
    obtain ⟨u0, u1, u2, u3, _, _, _, _⟩ := T1
    have BB : Bl w (W'.putObj D (.deferred none)) := HLow.out.trans (PB.mono hDw)
    clear hS hI S1 t2 t3 hb PB
    gi_wp2
    refine ⟨by simp, .inl ⟨_, _, rfl, run_takeDeferred hd, ?_⟩⟩
    refine ⟨.tuple #[.agg #[.int .i64 0, .int .i64 0, .bool false, .int .i64 0], .int .i64 (q'.length : Int), .int .i64 x.2], ?_, by rw [HR.out], BB⟩
    simp [results, Tryd.results19, go_sem, u0, u1, u2, u3, T2, T3]

set_option maxRecDepth 100000 in
set_option maxHeartbeats 1600000 in
theorem run_bad (M : Mst) (A : Option Addr) (n c : Nat) (E : Nat → Evt) (w : World) (hn : n ≤ maxLen) (h : ¬ (VM M ∧ n ≤ 100)) :
    Calls Tryd.prog 19 #[encM M, .slice A n c] w fun e w' => e = .returned (.tuple #[encB (runR M E n).1, .int .i64 (runR M E n).2.1, .int .i64 (runR M E n).2.2]) ∧ Bl w w' := by
  unfold maxLen at hn
  by_cases hM : VM M
  · have h1 : 100 < n := by rcases Nat.lt_or_ge 100 n with h2 | h2; exact h2; exact absurd ⟨hM, h2⟩ h
    have HR := Lib.hid (show runR M E n = (Bal.zero, 0, 7) by unfold runR; rw [if_pos hM, if_pos h1])
    have HVM := Lib.hid (show decide (VM M) = true from decide_eq_true hM)
    clear h hM
    refine callsIn_wide (n := 6) |>.1 ?_
    refine callsIn_of_wp_marks Tryd.func19 rfl trivial ?_ rfl
    simp only [Tryd.ntmps19, List.size_toArray, List.length_cons, List.length_nil, Nat.reduceAdd, Nat.reduceSub, Array.replicate_succ, Array.replicate_zero, List.push_toArray, List.append_toArray, List.nil_append, List.cons_append]
    gi_wp2_with fail
    refine ⟨trivial, ?_⟩
    refine (callsIn_wide.2 (validMast_any M _)).mono ?_
    rintro e w1 ⟨rfl, hb⟩
    have d0 := kcb hb (b := w.heap.size + 1) (o := 0) (v := .int .i64 0) (by go_cell)
    have g0 := fzb hb (b := w.heap.size + 1) (o := 0) (by (try simp only [frozen?_alloc_cells, World.frozen?_setCell]); first | assumption | exact fz_new (by (try simp only [World.size_alloc, World.size_setCell]); omega)) (by (try simp only [World.size_alloc, World.size_setCell]); omega)
    have d1 := kcb hb (b := w.heap.size + 1) (o := 1) (v := .int .i64 0) (by go_cell)
    have g1 := fzb hb (b := w.heap.size + 1) (o := 1) (by (try simp only [frozen?_alloc_cells, World.frozen?_setCell]); first | assumption | exact fz_new (by (try simp only [World.size_alloc, World.size_setCell]); omega)) (by (try simp only [World.size_alloc, World.size_setCell]); omega)
    have d2 := kcb hb (b := w.heap.size + 1) (o := 2) (v := .bool false) (by go_cell)
    have g2 := fzb hb (b := w.heap.size + 1) (o := 2) (by (try simp only [frozen?_alloc_cells, World.frozen?_setCell]); first | assumption | exact fz_new (by (try simp only [World.size_alloc, World.size_setCell]); omega)) (by (try simp only [World.size_alloc, World.size_setCell]); omega)
    have d3 := kcb hb (b := w.heap.size + 1) (o := 3) (v := .int .i64 0) (by go_cell)
    have g3 := fzb hb (b := w.heap.size + 1) (o := 3) (by (try simp only [frozen?_alloc_cells, World.frozen?_setCell]); first | assumption | exact fz_new (by (try simp only [World.size_alloc, World.size_setCell]); omega)) (by (try simp only [World.size_alloc, World.size_setCell]); omega)
    have k0 := kcb hb (b := w.heap.size + 1 + 1) (o := 0) (v := .int .i64 0) (by go_cell)
    have kf := fzb hb (b := w.heap.size + 1 + 1) (o := 0) (by (try simp only [frozen?_alloc_cells, World.frozen?_setCell]); first | assumption | exact fz_new (by (try simp only [World.size_alloc, World.size_setCell]); omega)) (by (try simp only [World.size_alloc, World.size_setCell]); omega)
    have j0 := kcb hb (b := w.heap.size + 1 + 1 + 1) (o := 0) (v := .int .i64 0) (by go_cell)
    have jf := fzb hb (b := w.heap.size + 1 + 1 + 1) (o := 0) (by (try simp only [frozen?_alloc_cells, World.frozen?_setCell]); first | assumption | exact fz_new (by (try simp only [World.size_alloc, World.size_setCell]); omega)) (by (try simp only [World.size_alloc, World.size_setCell]); omega)
    have B1 : Bl w w1 := Below.trans (by go_grown) (hb.mono (by (try simp only [World.size_alloc]); omega))
    have lw := ltb d0
    clear hb
    rw [HVM.out]
    gi_wp2_with fail
    exact ⟨_, by simp [results, Tryd.results19, go_sem, d0, d1, d2, d3, k0, j0]; try rfl, by rw [HR.out], by go_grown⟩
  · have HR := Lib.hid (show runR M E n = (Bal.zero, 0, 1) by unfold runR; rw [if_neg hM])
    have HVM := Lib.hid (show decide (VM M) = false from decide_eq_false hM)
    clear h hM
    refine callsIn_wide (n := 6) |>.1 ?_
    refine callsIn_of_wp_marks Tryd.func19 rfl trivial ?_ rfl
    simp only [Tryd.ntmps19, List.size_toArray, List.length_cons, List.length_nil, Nat.reduceAdd, Nat.reduceSub, Array.replicate_succ, Array.replicate_zero, List.push_toArray, List.append_toArray, List.nil_append, List.cons_append]
    gi_wp2_with fail
    refine ⟨trivial, ?_⟩
    refine (callsIn_wide.2 (validMast_any M _)).mono ?_
    rintro e w1 ⟨rfl, hb⟩
    have d0 := kcb hb (b := w.heap.size + 1) (o := 0) (v := .int .i64 0) (by go_cell)
    have g0 := fzb hb (b := w.heap.size + 1) (o := 0) (by (try simp only [frozen?_alloc_cells, World.frozen?_setCell]); first | assumption | exact fz_new (by (try simp only [World.size_alloc, World.size_setCell]); omega)) (by (try simp only [World.size_alloc, World.size_setCell]); omega)
    have d1 := kcb hb (b := w.heap.size + 1) (o := 1) (v := .int .i64 0) (by go_cell)
    have g1 := fzb hb (b := w.heap.size + 1) (o := 1) (by (try simp only [frozen?_alloc_cells, World.frozen?_setCell]); first | assumption | exact fz_new (by (try simp only [World.size_alloc, World.size_setCell]); omega)) (by (try simp only [World.size_alloc, World.size_setCell]); omega)
    have d2 := kcb hb (b := w.heap.size + 1) (o := 2) (v := .bool false) (by go_cell)
    have g2 := fzb hb (b := w.heap.size + 1) (o := 2) (by (try simp only [frozen?_alloc_cells, World.frozen?_setCell]); first | assumption | exact fz_new (by (try simp only [World.size_alloc, World.size_setCell]); omega)) (by (try simp only [World.size_alloc, World.size_setCell]); omega)
    have d3 := kcb hb (b := w.heap.size + 1) (o := 3) (v := .int .i64 0) (by go_cell)
    have g3 := fzb hb (b := w.heap.size + 1) (o := 3) (by (try simp only [frozen?_alloc_cells, World.frozen?_setCell]); first | assumption | exact fz_new (by (try simp only [World.size_alloc, World.size_setCell]); omega)) (by (try simp only [World.size_alloc, World.size_setCell]); omega)
    have k0 := kcb hb (b := w.heap.size + 1 + 1) (o := 0) (v := .int .i64 0) (by go_cell)
    have kf := fzb hb (b := w.heap.size + 1 + 1) (o := 0) (by (try simp only [frozen?_alloc_cells, World.frozen?_setCell]); first | assumption | exact fz_new (by (try simp only [World.size_alloc, World.size_setCell]); omega)) (by (try simp only [World.size_alloc, World.size_setCell]); omega)
    have j0 := kcb hb (b := w.heap.size + 1 + 1 + 1) (o := 0) (v := .int .i64 0) (by go_cell)
    have jf := fzb hb (b := w.heap.size + 1 + 1 + 1) (o := 0) (by (try simp only [frozen?_alloc_cells, World.frozen?_setCell]); first | assumption | exact fz_new (by (try simp only [World.size_alloc, World.size_setCell]); omega)) (by (try simp only [World.size_alloc, World.size_setCell]); omega)
    have B1 : Bl w w1 := Below.trans (by go_grown) (hb.mono (by (try simp only [World.size_alloc]); omega))
    have lw := ltb d0
    clear hb
    rw [HVM.out]
    gi_wp2_with fail
    exact ⟨_, by simp [results, Tryd.results19, go_sem, d0, d1, d2, d3, k0, j0]; try rfl, by rw [HR.out], by go_grown⟩
theorem run_any (M : Mst) (A : Option Addr) (n c : Nat) (E : Nat → Evt) (w : World) (hA : El w A n E) (hn : n ≤ maxLen) (hc : n ≤ c) (hc2 : c ≤ maxLen) :
    Calls Tryd.prog 19 #[encM M, .slice A n c] w fun e w' => e = .returned (.tuple #[encB (runR M E n).1, .int .i64 (runR M E n).2.1, .int .i64 (runR M E n).2.2]) ∧ Bl w w' := by
  by_cases h : VM M ∧ n ≤ 100
  · refine (run_ok M h.1 A n c E w hA h.2 hc hc2).mono ?_
    rintro e w' ⟨rfl, hb⟩
    have : runR M E n = ((runF M E n).1, (((runF M E n).2.1 : Nat) : Int), (runF M E n).2.2) := by unfold runR; rw [if_pos h.1, if_neg (by omega)]
    exact ⟨by rw [this], hb⟩
  · exact run_bad M A n c E w hn h
end Go.Proofs.YtajlfflbphbjnaaDoor
