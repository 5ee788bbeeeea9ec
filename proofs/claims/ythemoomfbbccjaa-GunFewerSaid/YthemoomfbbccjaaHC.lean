/-
  Contracts of the reference of package gun: Excluded.
-/
import Derived.Test.YthemoomfbbccjaaHB
import Derived.Lib.MinMax
namespace Go.Proofs.Ythemoomfbbccjaa
open Go.RowKit
set_option linter.unusedSimpArgs false
set_option linter.unusedVariables false

structure Eo (w : World) (a : Air) (lo hi : Pt) (X : World) : Prop where
  a0 : X.cell? ⟨w.heap.size, 0, none⟩ = some (.int .i64 a.s)
  a1 : X.cell? ⟨w.heap.size, 1, none⟩ = some (.int .i64 a.w)
  l0 : X.cell? ⟨(w.heap.size + 1), 0, none⟩ = some (.int .i64 lo.x)
  l1 : X.cell? ⟨(w.heap.size + 1), 1, none⟩ = some (.int .i64 lo.y)
  h0 : X.cell? ⟨(w.heap.size + 1 + 1), 0, none⟩ = some (.int .i64 hi.x)
  h1 : X.cell? ⟨(w.heap.size + 1 + 1), 1, none⟩ = some (.int .i64 hi.y)
theorem Eo.bl {w X X' : World} {a : Air} {lo hi : Pt} (h : Eo w a lo hi X) (hb : Bl X X') : Eo w a lo hi X' := ⟨kcb hb h.a0, kcb hb h.a1, kcb hb h.l0, kcb hb h.l1, kcb hb h.h0, kcb hb h.h1⟩
structure Ei (w : World) (bs : Nat) (lo hi : Pt) (s : Sho) (nr f : Pt) (X : World) : Prop where
  s0 : X.cell? ⟨bs, 0, none⟩ = some (.int .i64 s.p.x)
  s1 : X.cell? ⟨bs, 1, none⟩ = some (.int .i64 s.p.y)
  s2 : X.cell? ⟨bs, 2, none⟩ = some (.int .i64 s.lo)
  s3 : X.cell? ⟨bs, 3, none⟩ = some (.int .i64 s.hi)
  n0 : X.cell? ⟨(bs + 1), 0, none⟩ = some (.int .i64 nr.x)
  n1 : X.cell? ⟨(bs + 1), 1, none⟩ = some (.int .i64 nr.y)
  f0 : X.cell? ⟨(bs + 1 + 1), 0, none⟩ = some (.int .i64 f.x)
  f1 : X.cell? ⟨(bs + 1 + 1), 1, none⟩ = some (.int .i64 f.y)
  q0 : X.cell? ⟨(bs + 1 + 1 + 1), 0, none⟩ = some (.int .i64 hi.x)
  q1 : X.cell? ⟨(bs + 1 + 1 + 1), 1, none⟩ = some (.int .i64 hi.y)
  q2 : X.cell? ⟨(bs + 1 + 1 + 1), 2, none⟩ = some (.int .i64 lo.x)
  q3 : X.cell? ⟨(bs + 1 + 1 + 1), 3, none⟩ = some (.int .i64 hi.y)
  q4 : X.cell? ⟨(bs + 1 + 1 + 1), 4, none⟩ = some (.int .i64 hi.x)
  q5 : X.cell? ⟨(bs + 1 + 1 + 1), 5, none⟩ = some (.int .i64 lo.y)
theorem Ei.bl {w X X' : World} {bs : Nat} {lo hi : Pt} {s : Sho} {nr f : Pt} (h : Ei w bs lo hi s nr f X) (hb : Bl X X') : Ei w bs lo hi s nr f X' := ⟨kcb hb h.s0, kcb hb h.s1, kcb hb h.s2, kcb hb h.s3, kcb hb h.n0, kcb hb h.n1, kcb hb h.f0, kcb hb h.f1, kcb hb h.q0, kcb hb h.q1, kcb hb h.q2, kcb hb h.q3, kcb hb h.q4, kcb hb h.q5⟩

/-- The three further corners, and the corner found among the first k. -/
def cor3 (lo hi : Pt) (j : Nat) : Pt := if j = 0 then hi else if j = 1 then ⟨lo.x, hi.y⟩ else ⟨hi.x, lo.y⟩
def farK (g lo hi : Pt) : Nat → Pt
  | 0 => lo
  | k + 1 => if sqd g (farK g lo hi k) < sqd g (cor3 lo hi k) then cor3 lo hi k else farK g lo hi k
theorem cor3_box {lo hi : Pt} (h : boxOk lo hi) (j : Nat) : inBox lo hi (cor3 lo hi j) := by
  have h1 := h.2.2.1
  have h2 := h.2.2.2
  unfold cor3 inBox
  split
  · omega
  · split
    · dsimp only; omega
    · dsimp only; omega
theorem farK_box {g lo hi : Pt} (h : boxOk lo hi) (k : Nat) : inBox lo hi (farK g lo hi k) := by
  induction k with
  | zero => exact ⟨⟨Int.le_refl _, h.2.2.1⟩, Int.le_refl _, h.2.2.2⟩
  | succ k ih =>
    rw [farK]
    split
    · exact cor3_box h k
    · exact ih
theorem farK_three {g lo hi : Pt} : farK g lo hi 3 = far4 g lo hi := by
  simp only [farK, cor3, far4]
  rfl
theorem far_lag {a : Air} {g lo hi : Pt} (h : boxOk lo hi) : (lagP a g (farK g lo hi 3)).2 = (boxL a g lo hi).2 := by
  have e := (far4_sqd (g := g) h).1
  rw [farK_three]
  unfold boxL lagP
  rw [e]

abbrev S3 (w : World) (b0 b1 b2 : Nat) (p q r : Pt) (X : World) : Prop :=
  Bl w X ∧ X.cell? ⟨b0, 0, none⟩ = some (.int .i64 p.x) ∧ X.cell? ⟨b0, 1, none⟩ = some (.int .i64 p.y) ∧ X.cell? ⟨b1, 0, none⟩ = some (.int .i64 q.x) ∧ X.cell? ⟨b1, 1, none⟩ = some (.int .i64 q.y) ∧ X.cell? ⟨b2, 0, none⟩ = some (.int .i64 r.x) ∧ X.cell? ⟨b2, 1, none⟩ = some (.int .i64 r.y) ∧ b0 < X.heap.size ∧ b1 < X.heap.size ∧ b2 < X.heap.size
theorem S3.t {w X X' : World} {b0 b1 b2 : Nat} {p q r : Pt} (h : S3 w b0 b1 b2 p q r X) (hb : Bl X X') : S3 w b0 b1 b2 p q r X' := by
  obtain ⟨h0, h1, h2, h3, h4, h5, h6, h7, h8, h9⟩ := h
  exact ⟨h0.tr hb, kcb hb h1, kcb hb h2, kcb hb h3, kcb hb h4, kcb hb h5, kcb hb h6, Nat.lt_of_lt_of_le h7 hb.size, Nat.lt_of_lt_of_le h8 hb.size, Nat.lt_of_lt_of_le h9 hb.size⟩
abbrev S9 (w : World) (b0 b1 b2 b3 : Nat) (a : Air) (s : Sho) (nr f : Pt) (X : World) : Prop :=
  Bl w X ∧ X.cell? ⟨b0, 0, none⟩ = some (.int .i64 a.s) ∧ X.cell? ⟨b0, 1, none⟩ = some (.int .i64 a.w) ∧ X.cell? ⟨b1, 0, none⟩ = some (.int .i64 s.p.x) ∧ X.cell? ⟨b1, 1, none⟩ = some (.int .i64 s.p.y) ∧ X.cell? ⟨b1, 2, none⟩ = some (.int .i64 s.lo) ∧ X.cell? ⟨b1, 3, none⟩ = some (.int .i64 s.hi) ∧ X.cell? ⟨b2, 0, none⟩ = some (.int .i64 nr.x) ∧ X.cell? ⟨b2, 1, none⟩ = some (.int .i64 nr.y) ∧ X.cell? ⟨b3, 0, none⟩ = some (.int .i64 f.x) ∧ X.cell? ⟨b3, 1, none⟩ = some (.int .i64 f.y)
theorem S9.t {w X X' : World} {b0 b1 b2 b3 : Nat} {a : Air} {s : Sho} {nr f : Pt} (h : S9 w b0 b1 b2 b3 a s nr f X) (hb : Bl X X') : S9 w b0 b1 b2 b3 a s nr f X' := by
  obtain ⟨h0, h1, h2, h3, h4, h5, h6, h7, h8, h9, h10⟩ := h
  exact ⟨h0.tr hb, kcb hb h1, kcb hb h2, kcb hb h3, kcb hb h4, kcb hb h5, kcb hb h6, kcb hb h7, kcb hb h8, kcb hb h9, kcb hb h10⟩
theorem cor_cells {w X : World} {bs : Nat} {lo hi : Pt} {s : Sho} {nr f : Pt} (h : Ei w bs lo hi s nr f X) {j : Nat} (hj : j < 3) : X.cell? ⟨bs + 1 + 1 + 1, j * 2, none⟩ = some (.int .i64 (cor3 lo hi j).x) ∧ X.cell? ⟨bs + 1 + 1 + 1, j * 2 + 1, none⟩ = some (.int .i64 (cor3 lo hi j).y) := by
  rcases (show j = 0 ∨ j = 1 ∨ j = 2 by omega) with rfl | rfl | rfl
  · exact ⟨h.q0, h.q1⟩
  · exact ⟨h.q2, h.q3⟩
  · exact ⟨h.q4, h.q5⟩
theorem Eo.put {w X : World} {a : Air} {lo hi : Pt} {b : Nat} {u v : Value} (h : Eo w a lo hi X) (hb : w.heap.size + 1 + 1 < b) : Eo w a lo hi ((X.setCell ⟨b, 0, none⟩ u).setCell ⟨b, 1, none⟩ v) := by
  obtain ⟨h0, h1, h2, h3, h4, h5⟩ := h
  refine ⟨?_, ?_, ?_, ?_, ?_, ?_⟩ <;> (rw [oth_cell (by omega), oth_cell (by omega)]; assumption)
theorem Ei.put {w X : World} {bs : Nat} {lo hi : Pt} {s : Sho} {nr f : Pt} (h : Ei w bs lo hi s nr f X) (c : Pt) : Ei w bs lo hi s nr c ((X.setCell ⟨bs + 1 + 1, 0, none⟩ (.int .i64 c.x)).setCell ⟨bs + 1 + 1, 1, none⟩ (.int .i64 c.y)) := by
  obtain ⟨h0, h1, h2, h3, h4, h5, h6, h7, h8, h9, h10, h11, h12, h13⟩ := h
  refine ⟨?_, ?_, ?_, ?_, ?_, ?_, by go_cell, by go_cell, ?_, ?_, ?_, ?_, ?_, ?_⟩ <;> (rw [oth_cell (by omega), oth_cell (by omega)]; assumption)

set_option maxRecDepth 100000 in
set_option maxHeartbeats 6400000 in
theorem rExcluded_any (a : Air) (A : Option Addr) (n c : Nat) (S : Nat → Sho) (lo hi : Pt) (w : World) (hA : Shl w A n S) (hn : n ≤ maxLen) :
    Calls Try.prog 11 #[encA a, .slice A n c, encP lo, encP hi] w fun e w' => e = .returned (rB (exclR a S n lo hi)) ∧ Bl w w' := by
  have HA := Lib.hid hA
  have HN := Lib.hid hn
  clear hA
  unfold maxLen at hn
  by_cases hv : VA a ∧ VSh S n
  · have Q0 := Lib.hid (show decide (VA a ∧ VSh S n) = true from decide_eq_true hv)
    have HAA := Lib.hid hv.1
    have HV := Lib.hid hv.2.2.2
    by_cases hb : boxOk lo hi
    · have Q1 := Lib.hid (show decide (boxOk lo hi) = true from decide_eq_true hb)
      have HB := Lib.hid hb
      have HR : Hid (∀ b : Bool, b = (!decide (allB a lo hi S n)) → exclR a S n lo hi = (b, 0)) := Lib.hid (fun b e => by unfold exclR; rw [if_pos hv, if_pos hb, e])
      clear hv hb
      go_enter Try.func11, Try.ntmps11
      go_wp2_with fail
      refine (valid5_any a A n c S _ (HA.out.below (by go_grown)) HN.out).mono ?_
      rintro q1 w1 ⟨rfl, hb⟩
      have xa0 := kcb hb (b := w.heap.size) (o := 0) (v := .int .i64 a.s) (by first | assumption | (refine cellUp ?_; assumption) | go_cell)
      have xa1 := kcb hb (b := w.heap.size) (o := 1) (v := .int .i64 a.w) (by first | assumption | (refine cellUp ?_; assumption) | go_cell)
      have xlo0 := kcb hb (b := w.heap.size + 1) (o := 0) (v := .int .i64 lo.x) (by first | assumption | (refine cellUp ?_; assumption) | go_cell)
      have xlo1 := kcb hb (b := w.heap.size + 1) (o := 1) (v := .int .i64 lo.y) (by first | assumption | (refine cellUp ?_; assumption) | go_cell)
      have xhi0 := kcb hb (b := w.heap.size + 1 + 1) (o := 0) (v := .int .i64 hi.x) (by first | assumption | (refine cellUp ?_; assumption) | go_cell)
      have xhi1 := kcb hb (b := w.heap.size + 1 + 1) (o := 1) (v := .int .i64 hi.y) (by first | assumption | (refine cellUp ?_; assumption) | go_cell)
      have B1 : Bl w w1 := Below.trans (by go_grown) (hb.mono (by (try simp only [World.size_alloc, World.size_setCell]); omega))
      have l1 := ltb xhi1
      have l1_1 := ltb xlo1
      have l1_2 := ltb xa1
      have zz1 := B1.size
      clear hb
      rw [Q0.out]
      go_wp2_with fail
      refine (box5_any lo hi _).mono ?_
      rintro q2 w2 ⟨rfl, hb⟩
      have xa0 := kcb hb (b := w.heap.size) (o := 0) (v := .int .i64 a.s) (by first | assumption | (refine cellUp ?_; assumption) | go_cell)
      have xa1 := kcb hb (b := w.heap.size) (o := 1) (v := .int .i64 a.w) (by first | assumption | (refine cellUp ?_; assumption) | go_cell)
      have xlo0 := kcb hb (b := w.heap.size + 1) (o := 0) (v := .int .i64 lo.x) (by first | assumption | (refine cellUp ?_; assumption) | go_cell)
      have xlo1 := kcb hb (b := w.heap.size + 1) (o := 1) (v := .int .i64 lo.y) (by first | assumption | (refine cellUp ?_; assumption) | go_cell)
      have xhi0 := kcb hb (b := w.heap.size + 1 + 1) (o := 0) (v := .int .i64 hi.x) (by first | assumption | (refine cellUp ?_; assumption) | go_cell)
      have xhi1 := kcb hb (b := w.heap.size + 1 + 1) (o := 1) (v := .int .i64 hi.y) (by first | assumption | (refine cellUp ?_; assumption) | go_cell)
      have B2 : Bl w w2 := Below.trans (by go_grown) (hb.mono (by (try simp only [World.size_alloc, World.size_setCell]); omega))
      have l2 := ltb xhi1
      have l2_1 := ltb xlo1
      have l2_2 := ltb xa1
      have zz2 := B2.size
      clear hb
      rw [Q1.out]
      go_wp2_with fail
      obtain ⟨V, hV⟩ : ∃ V, V = w2 := ⟨_, rfl⟩
      rw [← hV]
      have EV : Eo w a lo hi V := by rw [hV]; exact ⟨xa0, xa1, xlo0, xlo1, xhi0, xhi1⟩
      have BV : Bl w V := by rw [hV]; exact B2
      clear hV xa0 xa1 xlo0 xlo1 xhi0 xhi1
      go_loopw [26] (fun i wr => ∃ k : Nat, k ≤ n ∧ i = .int .i64 k ∧ Hid (allB a lo hi S k) ∧ Hid (Eo w a lo hi wr) ∧ Bl w wr) (fun i _ => n - (RowKit.intOf i).toNat)
      case atStart => exact ⟨0, Nat.zero_le _, rfl, fun j hj => absurd hj (by omega), EV, BV⟩
      case round =>
        obtain ⟨k, hk, rfl, HK, HE, hB⟩ := hrel
        obtain ⟨Wo, hWo⟩ : ∃ Wo, Wo = wr := ⟨_, rfl⟩
        subst hWo
        have zB := hB.size
        by_cases hlt : k < n
        · obtain ⟨b, off, rfl, hbb, hc⟩ := (HA.out.below hB) (by omega)
          obtain ⟨c0, c1, c2, c3⟩ := hc k hlt
          clear hc
          obtain ⟨s, hs⟩ : ∃ y, y = S k := ⟨_, rfl⟩
          rw [← hs] at c0 c1 c2 c3
          have sv : vSh s := by rw [hs]; exact HV.out k hlt
          obtain ⟨ca0, ca1, cl0, cl1, ch0, ch1⟩ := HE.out
          have la := ltb ca0
          have ll := ltb cl0
          have lh := ltb ch0
          have HS := Lib.hid hs
          have hsP := sv.1
          have hnP : isP (nearP s.p lo hi) := inBox_isP HB.out (near_box HB.out)
          clear hs
          go_wp2_with fail
          obtain ⟨X, hX⟩ : ∃ X, X = ((((Wo.alloc (Obj.cells #[.int .i64 s.p.x, .int .i64 s.p.y, .int .i64 s.lo, .int .i64 s.hi] 44)).alloc (Obj.cells #[.int .i64 (min (max s.p.x lo.x) hi.x), .int .i64 (min (max s.p.y lo.y) hi.y)] 26)).alloc (Obj.cells #[.int .i64 lo.x, .int .i64 lo.y] 26)).alloc (Obj.cells #[.int .i64 hi.x, .int .i64 hi.y, .int .i64 lo.x, .int .i64 hi.y, .int .i64 hi.x, .int .i64 lo.y] 26)) := ⟨_, rfl⟩
          have BX : Bl Wo X := by rw [hX]; go_grown
          have E0 : Ei w Wo.heap.size lo hi s (nearP s.p lo hi) (farK s.p lo hi 0) X := ⟨by rw [hX]; go_cell, by rw [hX]; go_cell, by rw [hX]; go_cell, by rw [hX]; go_cell, by rw [hX]; show World.cell? _ _ = some (Value.int .i64 (min (max s.p.x lo.x) hi.x)); go_cell, by rw [hX]; show World.cell? _ _ = some (Value.int .i64 (min (max s.p.y lo.y) hi.y)); go_cell, by rw [hX]; show World.cell? _ _ = some (Value.int .i64 lo.x); go_cell, by rw [hX]; show World.cell? _ _ = some (Value.int .i64 lo.y); go_cell, by rw [hX]; go_cell, by rw [hX]; go_cell, by rw [hX]; go_cell, by rw [hX]; go_cell, by rw [hX]; go_cell, by rw [hX]; go_cell⟩
          have fz0 : X.frozen? ⟨Wo.heap.size + 1 + 1, 0, none⟩ = false := by rw [hX]; (try simp only [frozen?_alloc_cells]); exact fz_new (by (try simp only [World.size_alloc]); omega)
          have fz1 : X.frozen? ⟨Wo.heap.size + 1 + 1, 1, none⟩ = false := by rw [hX]; (try simp only [frozen?_alloc_cells]); exact fz_new (by (try simp only [World.size_alloc]); omega)
          have zX := BX.size
          have EX := HE.out.bl BX
          rw [← hX]
          clear hX c0 c1 c2 c3 ca0 ca1 cl0 cl1 ch0 ch1
          go_loopw [63] (fun i wr => ∃ j : Nat, j ≤ 3 ∧ i = .int .i64 j ∧ Hid (Eo w a lo hi wr) ∧ Hid (Ei w Wo.heap.size lo hi s (nearP s.p lo hi) (farK s.p lo hi j) wr) ∧ wr.frozen? ⟨Wo.heap.size + 1 + 1, 0, none⟩ = false ∧ wr.frozen? ⟨Wo.heap.size + 1 + 1, 1, none⟩ = false ∧ Bl Wo wr) (fun i _ => 3 - (RowKit.intOf i).toNat)
          case atStart => exact ⟨0, by omega, rfl, EX, E0, fz0, fz1, BX⟩
          case round =>
            obtain ⟨j, j3, rfl, HEo, HEi, gz0, gz1, hx⟩ := hrel
            have zx := hx.size
            by_cases jlt : j < 3
            · obtain ⟨d0, d1⟩ := cor_cells HEi.out jlt
              obtain ⟨f, hf⟩ : ∃ f, f = farK s.p lo hi j := ⟨_, rfl⟩
              obtain ⟨cc, hcc⟩ : ∃ f, f = cor3 lo hi j := ⟨_, rfl⟩
              have hfP : isP f := by rw [hf]; exact inBox_isP HB.out (farK_box HB.out j)
              have hcP : isP cc := by rw [hcc]; exact inBox_isP HB.out (cor3_box HB.out j)
              rw [← hf] at HEi
              rw [← hcc] at d0 d1
              have lb := ltb d0
              by_cases q : sqd s.p f < sqd s.p cc
              · have HF := Lib.hid (show farK s.p lo hi (j + 1) = cc by rw [farK, ← hf, ← hcc, if_pos q])
                clear hf hcc
                go_wp2_with fail
                obtain ⟨Y, hY⟩ : ∃ Y, Y = wr.alloc (Obj.cells #[.int .i64 cc.x, .int .i64 cc.y] 26) := ⟨_, rfl⟩
                have BY : Bl wr Y := by rw [hY]; go_grown
                have zs := ltb HEi.out.s0
                have zf := ltb HEi.out.f0
                have T0 : S3 wr Wo.heap.size wr.heap.size (Wo.heap.size + 1 + 1) s.p cc f Y := ⟨BY, kcb BY HEi.out.s0, kcb BY HEi.out.s1, by rw [hY]; go_cell, by rw [hY]; go_cell, kcb BY HEi.out.f0, kcb BY HEi.out.f1, by rw [hY]; (try simp only [World.size_alloc]); omega, by rw [hY]; (try simp only [World.size_alloc]); omega, by rw [hY]; (try simp only [World.size_alloc]); omega⟩
                (try rw [← hY])
                clear hY
                go_region_held3 (fun w' => Bl wr w' ∧ w'.cell? ⟨Wo.heap.size, 0, none⟩ = some (.int .i64 s.p.x) ∧ w'.cell? ⟨Wo.heap.size, 1, none⟩ = some (.int .i64 s.p.y) ∧ w'.cell? ⟨wr.heap.size, 0, none⟩ = some (.int .i64 cc.x) ∧ w'.cell? ⟨wr.heap.size, 1, none⟩ = some (.int .i64 cc.y) ∧ w'.cell? ⟨Wo.heap.size + 1 + 1, 0, none⟩ = some (.int .i64 f.x) ∧ w'.cell? ⟨Wo.heap.size + 1 + 1, 1, none⟩ = some (.int .i64 f.y) ∧ Wo.heap.size < w'.heap.size ∧ wr.heap.size < w'.heap.size ∧ Wo.heap.size + 1 + 1 < w'.heap.size) (first | exact S3.t T0 (Bl.dr _ 1) | exact S3.t (by assumption) hh0) (first | (go_at_call 31; refine (square5_any _ _ _ (by assumption) (by assumption)).mono ?_; rintro e v0 ⟨rfl, hh0⟩))
                all_goals
                  rename_i hHeld
                  have hHB := hHeld.1
                  have u0 := hHeld.2.2.2.1
                  have u1 := hHeld.2.2.2.2.1
                  have lu := hHeld.2.2.2.2.2.2.2.2.1
                  clear hHeld
                  have HEy := Lib.hid (HEo.out.bl hHB)
                  have HIy := Lib.hid (HEi.out.bl hHB)
                  have k0 := HIy.out.f0
                  have k1 := HIy.out.f1
                  have y0 := fzb hHB gz0 (by omega)
                  have y1 := fzb hHB gz1 (by omega)
                  have lk := ltb k0
                  go_wp2_with fail
                  go_roundw
                  case rel => exact ⟨j + 1, by omega, by go_num, Eo.put HEy.out (by omega), by rw [HF.out]; exact Ei.put HIy.out _, by simpa using y0, by simpa using y1, (by have hh := hx.tr hHB; go_grown)⟩
                  case measure => simp [RowKit.intOf]; omega
              · have HF := Lib.hid (show farK s.p lo hi (j + 1) = f by rw [farK, ← hf, ← hcc, if_neg q])
                clear hf hcc
                go_wp2_with fail
                obtain ⟨Y, hY⟩ : ∃ Y, Y = wr.alloc (Obj.cells #[.int .i64 cc.x, .int .i64 cc.y] 26) := ⟨_, rfl⟩
                have BY : Bl wr Y := by rw [hY]; go_grown
                have zs := ltb HEi.out.s0
                have zf := ltb HEi.out.f0
                have T0 : S3 wr Wo.heap.size wr.heap.size (Wo.heap.size + 1 + 1) s.p cc f Y := ⟨BY, kcb BY HEi.out.s0, kcb BY HEi.out.s1, by rw [hY]; go_cell, by rw [hY]; go_cell, kcb BY HEi.out.f0, kcb BY HEi.out.f1, by rw [hY]; (try simp only [World.size_alloc]); omega, by rw [hY]; (try simp only [World.size_alloc]); omega, by rw [hY]; (try simp only [World.size_alloc]); omega⟩
                (try rw [← hY])
                clear hY
                go_region_held3 (fun w' => Bl wr w' ∧ w'.cell? ⟨Wo.heap.size, 0, none⟩ = some (.int .i64 s.p.x) ∧ w'.cell? ⟨Wo.heap.size, 1, none⟩ = some (.int .i64 s.p.y) ∧ w'.cell? ⟨wr.heap.size, 0, none⟩ = some (.int .i64 cc.x) ∧ w'.cell? ⟨wr.heap.size, 1, none⟩ = some (.int .i64 cc.y) ∧ w'.cell? ⟨Wo.heap.size + 1 + 1, 0, none⟩ = some (.int .i64 f.x) ∧ w'.cell? ⟨Wo.heap.size + 1 + 1, 1, none⟩ = some (.int .i64 f.y) ∧ Wo.heap.size < w'.heap.size ∧ wr.heap.size < w'.heap.size ∧ Wo.heap.size + 1 + 1 < w'.heap.size) (first | exact S3.t T0 (Bl.dr _ 1) | exact S3.t (by assumption) hh0) (first | (go_at_call 31; refine (square5_any _ _ _ (by assumption) (by assumption)).mono ?_; rintro e v0 ⟨rfl, hh0⟩))
                all_goals
                  rename_i hHeld
                  have hHB := hHeld.1
                  have u0 := hHeld.2.2.2.1
                  have u1 := hHeld.2.2.2.2.1
                  have lu := hHeld.2.2.2.2.2.2.2.2.1
                  clear hHeld
                  have y0 := fzb hHB gz0 (by omega)
                  have y1 := fzb hHB gz1 (by omega)
                  go_wp2_with fail
                  go_roundw
                  case rel => exact ⟨j + 1, by omega, by go_num, HEo.out.bl hHB, by rw [HF.out]; exact HEi.out.bl hHB, y0, y1, hx.tr hHB⟩
                  case measure => simp [RowKit.intOf]; omega
            · obtain rfl : j = 3 := by omega
              have hfP : isP (farK s.p lo hi 3) := inBox_isP HB.out (farK_box HB.out 3)
              obtain ⟨f, hf⟩ : ∃ f, f = farK s.p lo hi 3 := ⟨_, rfl⟩
              rw [← hf] at HEi hfP
              have hfl : (lagP a s.p f).2 = (boxL a s.p lo hi).2 := by rw [hf]; exact far_lag HB.out
              have F1 := fieldS0 (lagP a s.p (nearP s.p lo hi)).1 (lagP a s.p (nearP s.p lo hi)).2
              have F2 := fieldS1 (lagP a s.p f).1 (lagP a s.p f).2
              have T0 : S9 wr w.heap.size Wo.heap.size (Wo.heap.size + 1) (Wo.heap.size + 1 + 1) a s (nearP s.p lo hi) f wr := ⟨Bl.rf _, HEo.out.a0, HEo.out.a1, HEi.out.s0, HEi.out.s1, HEi.out.s2, HEi.out.s3, HEi.out.n0, HEi.out.n1, HEi.out.f0, HEi.out.f1⟩
              have HT0 := Lib.hid T0
              clear T0
              by_cases q : mtB a lo hi s
              · have HK1 := Lib.hid (show allB a lo hi S (k + 1) from fun j hj => by
                  by_cases e : j = k
                  · rw [e, ← HS.out]; exact q
                  · exact HK.out j (by omega))
                have HQ := Lib.hid (show decide (mt (lagP a s.p (nearP s.p lo hi)).1 (lagP a s.p f).2 s.lo s.hi) = true from decide_eq_true (by rw [hfl]; exact q))
                clear q hf hfl
                go_wp2_with fail
                go_region_held3 (fun w' => Bl wr w' ∧ w'.cell? ⟨w.heap.size, 0, none⟩ = some (.int .i64 a.s) ∧ w'.cell? ⟨w.heap.size, 1, none⟩ = some (.int .i64 a.w) ∧ w'.cell? ⟨Wo.heap.size, 0, none⟩ = some (.int .i64 s.p.x) ∧ w'.cell? ⟨Wo.heap.size, 1, none⟩ = some (.int .i64 s.p.y) ∧ w'.cell? ⟨Wo.heap.size, 2, none⟩ = some (.int .i64 s.lo) ∧ w'.cell? ⟨Wo.heap.size, 3, none⟩ = some (.int .i64 s.hi) ∧ w'.cell? ⟨Wo.heap.size + 1, 0, none⟩ = some (.int .i64 (nearP s.p lo hi).x) ∧ w'.cell? ⟨Wo.heap.size + 1, 1, none⟩ = some (.int .i64 (nearP s.p lo hi).y) ∧ w'.cell? ⟨Wo.heap.size + 1 + 1, 0, none⟩ = some (.int .i64 f.x) ∧ w'.cell? ⟨Wo.heap.size + 1 + 1, 1, none⟩ = some (.int .i64 f.y)) (first | exact S9.t HT0.out (Bl.dr _ 1) | exact S9.t (by assumption) hh0 | exact S9.t (by assumption) hh1) (first | (go_at_call 33; refine (lag5_any a s.p _ _ HAA.out hsP (by assumption)).mono ?_; rintro e v0 ⟨rfl, hh0⟩) | (go_at_call 32; refine (meet5_any _ _ s.lo s.hi _).mono ?_; rintro e v1 ⟨rfl, hh1⟩; rw [HQ.out]))
                all_goals
                  rename_i hHeld
                  have hHB := hHeld.1
                  clear hHeld
                  go_wp2_with fail
                  go_roundw
                  case rel => exact ⟨k + 1, by omega, by go_num, HK1.out, HEo.out.bl hHB, hB.tr (hx.tr hHB)⟩
                  case measure => simp [RowKit.intOf]; omega
              · have HI := Lib.hid (HR.out true (by
                  have g : ¬ allB a lo hi S n := fun g => q (by rw [HS.out]; exact g k hlt)
                  rw [decide_eq_false g]; rfl))
                have HQ := Lib.hid (show decide (mt (lagP a s.p (nearP s.p lo hi)).1 (lagP a s.p f).2 s.lo s.hi) = false from decide_eq_false (by rw [hfl]; exact q))
                clear q hf hfl
                go_wp2_with fail
                go_region_held3 (fun w' => Bl wr w' ∧ w'.cell? ⟨w.heap.size, 0, none⟩ = some (.int .i64 a.s) ∧ w'.cell? ⟨w.heap.size, 1, none⟩ = some (.int .i64 a.w) ∧ w'.cell? ⟨Wo.heap.size, 0, none⟩ = some (.int .i64 s.p.x) ∧ w'.cell? ⟨Wo.heap.size, 1, none⟩ = some (.int .i64 s.p.y) ∧ w'.cell? ⟨Wo.heap.size, 2, none⟩ = some (.int .i64 s.lo) ∧ w'.cell? ⟨Wo.heap.size, 3, none⟩ = some (.int .i64 s.hi) ∧ w'.cell? ⟨Wo.heap.size + 1, 0, none⟩ = some (.int .i64 (nearP s.p lo hi).x) ∧ w'.cell? ⟨Wo.heap.size + 1, 1, none⟩ = some (.int .i64 (nearP s.p lo hi).y) ∧ w'.cell? ⟨Wo.heap.size + 1 + 1, 0, none⟩ = some (.int .i64 f.x) ∧ w'.cell? ⟨Wo.heap.size + 1 + 1, 1, none⟩ = some (.int .i64 f.y)) (first | exact S9.t HT0.out (Bl.dr _ 1) | exact S9.t (by assumption) hh0 | exact S9.t (by assumption) hh1) (first | (go_at_call 33; refine (lag5_any a s.p _ _ HAA.out hsP (by assumption)).mono ?_; rintro e v0 ⟨rfl, hh0⟩) | (go_at_call 32; refine (meet5_any _ _ s.lo s.hi _).mono ?_; rintro e v1 ⟨rfl, hh1⟩; rw [HQ.out]))
                all_goals
                  rename_i hHeld
                  have hHB := hHeld.1
                  clear hHeld
                  go_wp2_with fail
                  exact bodyPost_ret (v := rB (exclR a S n lo hi)) (by simp [results, Try.results11, go_sem, HI.out, rB]) rfl ⟨rfl, hB.tr (hx.tr hHB)⟩
        · obtain rfl : n = k := by omega
          have HI := Lib.hid (HR.out false (by rw [decide_eq_true HK.out]; rfl))
          go_wp2_with fail
          exact bodyPost_ret (v := rB (exclR a S n lo hi)) (by simp [results, Try.results11, go_sem, HI.out, rB]) rfl ⟨rfl, hB⟩
    · have Q1 := Lib.hid (show decide (boxOk lo hi) = false from decide_eq_false hb)
      have HR := Lib.hid (show exclR a S n lo hi = (false, 7) by unfold exclR; rw [if_pos hv, if_neg hb])
      clear hv hb
      go_enter Try.func11, Try.ntmps11
      go_wp2_with fail
      refine (valid5_any a A n c S _ (HA.out.below (by go_grown)) HN.out).mono ?_
      rintro q1 w1 ⟨rfl, hb⟩
      have xa0 := kcb hb (b := w.heap.size) (o := 0) (v := .int .i64 a.s) (by first | assumption | (refine cellUp ?_; assumption) | go_cell)
      have xa1 := kcb hb (b := w.heap.size) (o := 1) (v := .int .i64 a.w) (by first | assumption | (refine cellUp ?_; assumption) | go_cell)
      have xlo0 := kcb hb (b := w.heap.size + 1) (o := 0) (v := .int .i64 lo.x) (by first | assumption | (refine cellUp ?_; assumption) | go_cell)
      have xlo1 := kcb hb (b := w.heap.size + 1) (o := 1) (v := .int .i64 lo.y) (by first | assumption | (refine cellUp ?_; assumption) | go_cell)
      have xhi0 := kcb hb (b := w.heap.size + 1 + 1) (o := 0) (v := .int .i64 hi.x) (by first | assumption | (refine cellUp ?_; assumption) | go_cell)
      have xhi1 := kcb hb (b := w.heap.size + 1 + 1) (o := 1) (v := .int .i64 hi.y) (by first | assumption | (refine cellUp ?_; assumption) | go_cell)
      have B1 : Bl w w1 := Below.trans (by go_grown) (hb.mono (by (try simp only [World.size_alloc, World.size_setCell]); omega))
      have l1 := ltb xhi1
      have l1_1 := ltb xlo1
      have l1_2 := ltb xa1
      have zz1 := B1.size
      clear hb
      rw [Q0.out]
      go_wp2_with fail
      refine (box5_any lo hi _).mono ?_
      rintro q2 w2 ⟨rfl, hb⟩
      have xa0 := kcb hb (b := w.heap.size) (o := 0) (v := .int .i64 a.s) (by first | assumption | (refine cellUp ?_; assumption) | go_cell)
      have xa1 := kcb hb (b := w.heap.size) (o := 1) (v := .int .i64 a.w) (by first | assumption | (refine cellUp ?_; assumption) | go_cell)
      have xlo0 := kcb hb (b := w.heap.size + 1) (o := 0) (v := .int .i64 lo.x) (by first | assumption | (refine cellUp ?_; assumption) | go_cell)
      have xlo1 := kcb hb (b := w.heap.size + 1) (o := 1) (v := .int .i64 lo.y) (by first | assumption | (refine cellUp ?_; assumption) | go_cell)
      have xhi0 := kcb hb (b := w.heap.size + 1 + 1) (o := 0) (v := .int .i64 hi.x) (by first | assumption | (refine cellUp ?_; assumption) | go_cell)
      have xhi1 := kcb hb (b := w.heap.size + 1 + 1) (o := 1) (v := .int .i64 hi.y) (by first | assumption | (refine cellUp ?_; assumption) | go_cell)
      have B2 : Bl w w2 := Below.trans (by go_grown) (hb.mono (by (try simp only [World.size_alloc, World.size_setCell]); omega))
      have l2 := ltb xhi1
      have l2_1 := ltb xlo1
      have l2_2 := ltb xa1
      have zz2 := B2.size
      clear hb
      rw [Q1.out]
      go_wp2_with fail
      exact bodyPost_ret (v := rB (exclR a S n lo hi)) (by simp [results, Try.results11, go_sem, HR.out, rB]) rfl ⟨rfl, by go_grown⟩
  · have Q0 := Lib.hid (show decide (VA a ∧ VSh S n) = false from decide_eq_false hv)
    have HR := Lib.hid (show exclR a S n lo hi = (false, 1) by unfold exclR; rw [if_neg hv])
    clear hv
    go_enter Try.func11, Try.ntmps11
    go_wp2_with fail
    refine (valid5_any a A n c S _ (HA.out.below (by go_grown)) HN.out).mono ?_
    rintro q1 w1 ⟨rfl, hb⟩
    have xa0 := kcb hb (b := w.heap.size) (o := 0) (v := .int .i64 a.s) (by first | assumption | (refine cellUp ?_; assumption) | go_cell)
    have xa1 := kcb hb (b := w.heap.size) (o := 1) (v := .int .i64 a.w) (by first | assumption | (refine cellUp ?_; assumption) | go_cell)
    have xlo0 := kcb hb (b := w.heap.size + 1) (o := 0) (v := .int .i64 lo.x) (by first | assumption | (refine cellUp ?_; assumption) | go_cell)
    have xlo1 := kcb hb (b := w.heap.size + 1) (o := 1) (v := .int .i64 lo.y) (by first | assumption | (refine cellUp ?_; assumption) | go_cell)
    have xhi0 := kcb hb (b := w.heap.size + 1 + 1) (o := 0) (v := .int .i64 hi.x) (by first | assumption | (refine cellUp ?_; assumption) | go_cell)
    have xhi1 := kcb hb (b := w.heap.size + 1 + 1) (o := 1) (v := .int .i64 hi.y) (by first | assumption | (refine cellUp ?_; assumption) | go_cell)
    have B1 : Bl w w1 := Below.trans (by go_grown) (hb.mono (by (try simp only [World.size_alloc, World.size_setCell]); omega))
    have l1 := ltb xhi1
    have l1_1 := ltb xlo1
    have l1_2 := ltb xa1
    have zz1 := B1.size
    clear hb
    rw [Q0.out]
    go_wp2_with fail
    exact bodyPost_ret (v := rB (exclR a S n lo hi)) (by simp [results, Try.results11, go_sem, HR.out, rB]) rfl ⟨rfl, by go_grown⟩
end Go.Proofs.Ythemoomfbbccjaa
