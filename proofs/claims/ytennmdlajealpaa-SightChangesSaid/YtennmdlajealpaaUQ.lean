/-
  Package sight's reference: without, Added, Without.
-/
import Derived.Test.YtennmdlajealpaaUN
import Derived.Test.YtennmdlajealpaaPEB
import Derived.Test.YtennmdlajealpaaPE
namespace Go.Proofs.Ytennmdlajealpaa
open Go.RowKit Go.Maps
set_option linter.unusedSimpArgs false
set_option linter.unusedVariables false

theorem int_infoU : (Try.prog.info? 3).map (fun i => (i.zero, i.size, i.bytes)) = some (some (.int .i64 0), 1, 8) := by kernel_rfl
/-- The sights but one (or all of them). -/
def witS (S : Nat → Sgt) (i : Int) (j : Nat) : Sgt := if i < 0 then S j else remS S i.toNat j
def witN (i : Int) (k : Nat) : Nat := if 0 ≤ i ∧ i < (k : Int) then k - 1 else k
theorem wit_skip {S : Nat → Sgt} {i : Int} {k : Nat} (h : (k : Int) = i) : sgC (witS S i) (witN i (k + 1)) = sgC (witS S i) (witN i k) := by
  unfold witN
  rw [if_pos (by omega), if_neg (by omega), Nat.add_sub_cancel]
theorem witN_skip {i : Int} {k : Nat} (h : (k : Int) = i) : witN i (k + 1) = witN i k := by
  unfold witN
  rw [if_pos (by omega), if_neg (by omega), Nat.add_sub_cancel]
theorem witN_next {i : Int} {k : Nat} (h : (k : Int) ≠ i) : witN i (k + 1) = witN i k + 1 := by
  unfold witN
  by_cases h1 : 0 ≤ i ∧ i < (k : Int)
  · rw [if_pos (by omega), if_pos h1]; omega
  · rw [if_neg (by omega), if_neg h1]
theorem wit_next {S : Nat → Sgt} {i : Int} {k : Nat} (h : (k : Int) ≠ i) : sgC (witS S i) (witN i k) ++ cellsG (S k) = sgC (witS S i) (witN i (k + 1)) := by
  rw [witN_next h, sgC]
  congr 2
  unfold witS witN remS
  by_cases h0 : i < 0
  · rw [if_pos h0, if_neg (by omega)]
  · rw [if_neg h0]
    by_cases h1 : 0 ≤ i ∧ i < (k : Int)
    · rw [if_pos h1, if_neg (by omega), Nat.sub_add_cancel (by omega)]
    · rw [if_neg h1, if_pos (by omega)]
theorem witN_le (i : Int) (k : Nat) : witN i k ≤ k := by unfold witN; split <;> omega
theorem rg_news {w : World} {ad : Addr} {n : Nat} {R : Nat → Int} (h : Sl w (some ad) n R) : ∀ j u, (rgC R n)[j]? = some u → w.cell? (ad.add j) = some u := fun j u hu => by
  have hj : j < n := by have := (List.getElem?_eq_some_iff.1 hu).1; simpa [rgC] using this
  obtain ⟨b', off', e, _, hc⟩ := h (by omega)
  obtain rfl : ad = ⟨b', off', none⟩ := Option.some.inj e
  rw [show (⟨b', off', none⟩ : Addr).add j = ⟨b', off' + j, none⟩ by unfold Addr.add; split <;> simp_all, hc j hj]
  simp [rgC, hj] at hu
  rw [hu]
theorem rg_one (R : Nat → Int) (n : Nat) : ∀ u ∈ rgC R n, u.oneCell' = true := fun u hu => by
  obtain ⟨x, _, rfl⟩ := List.mem_map.1 hu
  rfl
theorem own_set_ne {w : World} {base b o : Nat} {e : TypeId} {size n : Nat} {v u : Value} {xs : List Value} (h : w.ownsRow base e size v n xs) (hne : ∀ g, v.ownBlock = some g → g ≠ b) : (w.setCell ⟨b, o, none⟩ u).ownsRow base e size v n xs :=
  row_keptS h (fun g q => Below.heap_setCell _ _ _ g (fun e => hne g q (by rw [e])))
theorem own_ltU {w : World} {base : Nat} {e : TypeId} {size n : Nat} {v : Value} {xs : List Value} (h : w.ownsRow base e size v n xs) : ∀ g, v.ownBlock = some g → g < w.heap.size := fun g hg => by
  rcases h.2 with ⟨rfl, _⟩ | ⟨g1, cap, cur, rfl, h1, h2, _⟩
  · cases hg
  · cases hg
    exact (Array.getElem?_eq_some_iff.1 h2).1
theorem grow_cellN {w w' : World} {v x : Value} {b o : Nat} (hg : w.grownBy w' v.ownBlock) (hn : ∀ g, v.ownBlock = some g → g < b) (c : w.cell? ⟨b, o, none⟩ = some x) : w'.cell? ⟨b, o, none⟩ = some x :=
  (World.cell?_of_block (a := ⟨b, o, none⟩) (hg.block b (ltb c) (fun q => Nat.lt_irrefl _ (hn b q.symm)))).trans c
theorem grow_fzN {w w' : World} {v : Value} {b o : Nat} (hg : w.grownBy w' v.ownBlock) (hn : ∀ g, v.ownBlock = some g → g < b) (hl : b < w.heap.size) (c : w.frozen? ⟨b, o, none⟩ = false) : w'.frozen? ⟨b, o, none⟩ = false :=
  (World.frozen?_of_block (a := ⟨b, o, none⟩) (hg.block b hl (fun q => Nat.lt_irrefl _ (hn b q.symm)))).trans c
theorem own_neCell {w : World} {base b n : Nat} {A B : Option Addr} {d n2 d2 : Nat} {S : Nat → Sgt} (h : w.ownsRow base 52 5 (.slice A n d) n (sgC S n)) (hn : 0 < n) (c : w.cell? ⟨b, 0, none⟩ = some (.slice B n2 d2)) : ∀ g, (Value.slice A n d).ownBlock = some g → g ≠ b := fun g hg e => by
  subst e
  obtain ⟨g1, rfl, _, _⟩ := own_someU h hn
  cases hg
  have := h.cellAt 0 (by omega)
  rw [c] at this
  have e5 := sgC_at S (n := n) (j := 0) (i := 0) hn (by omega)
  simp only [Nat.zero_mul, Nat.add_zero] at e5
  rw [e5] at this
  simp [cellsG] at this
/-- A call returns a net of its own that reads so. -/
def NetOwn (n : Nat) (R : Nat → Int) (m : Nat) (S : Nat → Sgt) (w : World) (e : Ending) (w' : World) : Prop :=
  ∃ A c B d, e = .returned (encN A n c B m d) ∧ w'.ownsRow w.heap.size 3 1 (.slice A n c) n (rgC R n) ∧ w'.ownsRow w.heap.size 52 5 (.slice B m d) m (sgC S m) ∧ Bl w w'
theorem witN_neg (k : Nat) : witN (-1) k = k := by unfold witN; rw [if_neg (by omega)]
theorem witS_neg (S : Nat → Sgt) : witS S (-1) = S := funext fun j => by unfold witS; rw [if_pos (by omega)]
theorem cell_set1U {Y : World} {b : Nat} {v u : Value} (h : Y.cell? ⟨b, 0, none⟩ = some u) (_ : 0 < 1) : (Y.setCell ⟨b, 1, none⟩ v).cell? ⟨b, 0, none⟩ = some u := by go_cell
theorem net_res79 (tmps : Array Value) (W : World) (p1 : Nat) (a b : Value) (h8 : tmps.getD 4 undef = .pointer (some ⟨p1, 0, none⟩)) (c0 : W.cell? ⟨p1, 0, none⟩ = some a) (c1 : W.cell? ⟨p1, 1, none⟩ = some b) :
    (results Try.f79 tmps).run Try.prog W = .ok (.agg #[a, b]) W := by
  have h8' : tmps[4]?.getD undef = .pointer (some ⟨p1, 0, none⟩) := by simpa using h8
  simp [results, Try.results79, go_sem, h8', c0, c1]
  try rfl
theorem net_res48 (tmps : Array Value) (W : World) (p1 : Nat) (a b : Value) (k : Int) (h8 : tmps.getD 4 undef = .pointer (some ⟨p1, 0, none⟩)) (h9 : tmps.getD 5 undef = .int .i64 k) (c0 : W.cell? ⟨p1, 0, none⟩ = some a) (c1 : W.cell? ⟨p1, 1, none⟩ = some b) :
    (results Try.f48 tmps).run Try.prog W = .ok (.tuple #[.agg #[a, b], .int .i64 k]) W := by
  have h8' : tmps[4]?.getD undef = .pointer (some ⟨p1, 0, none⟩) := by simpa using h8
  have h9' : tmps[5]?.getD undef = .int .i64 k := by simpa using h9
  simp [results, Try.results48, go_sem, h8', h9', c0, c1]
  try rfl
theorem net_res46 (tmps : Array Value) (W : World) (p1 : Nat) (a b : Value) (k : Int) (h8 : tmps.getD 4 undef = .pointer (some ⟨p1, 0, none⟩)) (h9 : tmps.getD 5 undef = .int .i64 k) (c0 : W.cell? ⟨p1, 0, none⟩ = some a) (c1 : W.cell? ⟨p1, 1, none⟩ = some b) :
    (results Try.f46 tmps).run Try.prog W = .ok (.tuple #[.agg #[a, b], .int .i64 k]) W := by
  have h8' : tmps[4]?.getD undef = .pointer (some ⟨p1, 0, none⟩) := by simpa using h8
  have h9' : tmps[5]?.getD undef = .int .i64 k := by simpa using h9
  simp [results, Try.results46, go_sem, h8', h9', c0, c1]
  try rfl
set_option maxRecDepth 100000 in
set_option maxHeartbeats 12800000 in
theorem rwithout_any (A : Option Addr) (n c : Nat) (R : Nat → Int) (B : Option Addr) (m d : Nat) (S : Nat → Sgt) (i : Int) (w : World) (hA : Sl w A n R) (hB : Sgl w B m S) (h0 : 1 ≤ n) (hn : n ≤ 1000) (hm : m ≤ 1000) :
    Calls Try.prog 79 #[encN A n c B m d, .int .i64 i] w (NetOwn n R (witN i m) (witS S i) w) := by
  obtain ⟨j0, hj0, hy0, hy1, hy2⟩ := info_partsU int_infoU
  have HJ := Lib.hid (And.intro hj0 (And.intro hy0 (And.intro hy1 hy2)))
  obtain ⟨i0, hi0, hz0, hz1, hz2⟩ := info_partsU sgt_info
  have HI := Lib.hid (And.intro hi0 (And.intro hz0 (And.intro hz1 hz2)))
  clear hi0 hz0 hz1 hz2 hj0 hy0 hy1 hy2
  obtain ⟨a1, o1, rfl, la1, hc1⟩ := hA (by omega)
  have HA := Lib.hid hA
  have HB := Lib.hid hB
  clear hA hB hc1
  have lw1 : a1 < w.heap.size + 1 := by omega
  have lw2 : a1 < w.heap.size + 1 + 1 := by omega
  have lw3 : a1 < w.heap.size + 1 + 1 + 1 := by omega
  go_enter Try.func79, Try.ntmps79
  obtain ⟨P, hP⟩ : ∃ P, P = (w.alloc (Obj.cells #[.slice (some ⟨a1, o1, none⟩) n c, .slice B m d] 25)).alloc (Obj.cells #[.slice none 0 0, .slice none 0 0] 25) := ⟨_, rfl⟩
  have BP : Bl w P := by rw [hP]; exact Bl.tr (bl_alU _ _) (bl_alU _ _)
  have SP : P.heap.size = w.heap.size + 1 + 1 := by rw [hP]; simp
  have r0 : P.cell? ⟨w.heap.size + 1, 0, none⟩ = some (.slice none 0 0) := by rw [hP]; go_cell
  have r1 : P.cell? ⟨w.heap.size + 1, 1, none⟩ = some (.slice none 0 0) := by rw [hP]; go_cell
  have f0 : P.frozen? ⟨w.heap.size + 1, 0, none⟩ = false := by rw [hP]; go_cell
  have f1 : P.frozen? ⟨w.heap.size + 1, 1, none⟩ = false := by rw [hP]; go_cell
  have x0 : P.cell? ⟨w.heap.size, 0, none⟩ = some (.slice (some ⟨a1, o1, none⟩) n c) := by rw [hP]; go_cell
  have x1 : P.cell? ⟨w.heap.size, 1, none⟩ = some (.slice B m d) := by rw [hP]; go_cell
  have HO0 := World.ownsRow_lit (base := P.heap.size) (size := 1) (e := 3) P #[] 0 (Nat.le_refl _) (by decide) rfl
  obtain ⟨Q, hQ⟩ : ∃ Q, Q = P.alloc (Obj.cells #[] 3) := ⟨_, rfl⟩
  have BQ : Bl P Q := by rw [hQ]; exact bl_alU _ _
  rw [← hQ, SP] at HO0
  have HOL := Lib.hid HO0
  have HBQ := Lib.hid (BP.tr BQ)
  have HRQ := Lib.hid (rg_news (HA.out.below (BP.tr BQ)))
  have HQL := Lib.hid (And.intro (kcb BQ r0) (And.intro (kcb BQ r1) (And.intro (fzb BQ f0 (ltb r0)) (And.intro (fzb BQ f1 (ltb r1)) (And.intro (kcb BQ x0) (kcb BQ x1))))))
  have HSQ := Lib.hid (show w.heap.size + 1 + 1 ≤ Q.heap.size by rw [hQ]; simp [SP])
  clear r0 r1 f0 f1 x0 x1 BP BQ HO0 SP
  subst hQ
  subst hP
  go_wp2_with (at_builtin; refine wpList_append_own _ rfl _ _ _ rfl (w.heap.size + 1 + 1) 3 j0 _ 1 8 Try.underlying22 HJ.out.1 HJ.out.2.1 HJ.out.2.2.1 HJ.out.2.2.2 rfl (by omega) _ 0 [] rfl HOL.out ⟨a1, o1, none⟩ n c (rgC R n) rfl (by simp [rgC]) HRQ.out (rg_one R n) (by unfold maxLen; omega) (by omega) HSQ.out ?_; intro v8 w8 hown hgrow hnil; clear hnil; have hown2 : w8.ownsRow (w.heap.size + 1 + 1) 3 1 v8 n (rgC R n) := (by have h := hown; simp only [Nat.zero_add, List.nil_append] at h; exact h); clear hown; obtain ⟨A1, d1, rfl, _⟩ := sl_of_ownU hown2; have r0 := grow_cellU hgrow HOL.out (by omega) HQL.out.1; have r1 := grow_cellU hgrow HOL.out (by omega) HQL.out.2.1; have f0 := grow_fzU hgrow HOL.out (by omega) (ltb HQL.out.1) HQL.out.2.2.1; have f1 := grow_fzU hgrow HOL.out (by omega) (ltb HQL.out.1) HQL.out.2.2.2.1; have x0 := grow_cellU hgrow HOL.out (by omega) HQL.out.2.2.2.2.1; have x1 := grow_cellU hgrow HOL.out (by omega) HQL.out.2.2.2.2.2; have HB8 := Lib.hid (grow_blU HBQ.out hgrow HOL.out (by omega)); have HR8 := Lib.hid hown2; have lx8 := ltb x0; have lr8 := ltb r0; clear hown2 hgrow; (try simp only [Nat.zero_add]))
  obtain ⟨Z, hZ⟩ : ∃ Z, Z = w8.alloc (Obj.cells #[.slice A1 n d1, .slice none 0 0] 25) := ⟨_, rfl⟩
  have BZ : Bl w8 Z := by rw [hZ]; exact bl_alU _ _
  have y0 : Z.cell? ⟨w8.heap.size, 0, none⟩ = some (.slice A1 n d1) := by rw [hZ]; go_cell
  have y1 : Z.cell? ⟨w8.heap.size, 1, none⟩ = some (.slice none 0 0) := by rw [hZ]; go_cell
  have g1 : Z.frozen? ⟨w8.heap.size, 1, none⟩ = false := by rw [hZ]; go_cell
  have HST := Lib.hid (show (Z.ownsRow (w.heap.size + 1 + 1) 3 1 (.slice A1 n d1) n (rgC R n) ∧ Z.ownsRow (w8.heap.size + 1) 52 5 (.slice none 0 0) (witN i 0) (sgC (witS S i) (witN i 0))) ∧ Bl w Z ∧ Z.cell? ⟨w8.heap.size, 0, none⟩ = some (.slice A1 n d1) ∧ Z.cell? ⟨w8.heap.size, 1, none⟩ = some (.slice none 0 0) ∧ Z.frozen? ⟨w8.heap.size, 1, none⟩ = false ∧ Z.cell? ⟨w.heap.size + 1, 0, none⟩ = some (.slice none 0 0) ∧ Z.cell? ⟨w.heap.size + 1, 1, none⟩ = some (.slice none 0 0) ∧ Z.frozen? ⟨w.heap.size + 1, 0, none⟩ = false ∧ Z.frozen? ⟨w.heap.size + 1, 1, none⟩ = false from
    ⟨⟨own_belowU HR8.out BZ, by rw [show witN i 0 = 0 by unfold witN; split <;> rfl]; exact World.ownsRow_nil _ _ _ _⟩, HB8.out.tr BZ, y0, y1, g1, kcb BZ r0, kcb BZ r1, fzb BZ f0 lr8, fzb BZ f1 lr8⟩)
  have HLT := Lib.hid (own_ltU HR8.out)
  have HW8 := Lib.hid (show w.heap.size + 1 < w8.heap.size from lr8)
  have hx1 := kcb BZ x1
  have lzx := ltb hx1
  rw [← hZ]
  go_wp2_with fail
  clear HOL HQL hx1 lzx y0 y1 g1 r0 r1 f0 f1 x0 x1 hZ BZ lx8 lr8
  go_loopw [16] (fun iv wr => ∃ k : Nat, ∃ v, k ≤ m ∧ iv = .int .i64 k ∧ Hid (wr.ownsRow (w.heap.size + 1 + 1) 3 1 (.slice A1 n d1) n (rgC R n) ∧ wr.ownsRow (w8.heap.size + 1) 52 5 v (witN i k) (sgC (witS S i) (witN i k))) ∧ Bl w wr ∧ wr.cell? ⟨w8.heap.size, 0, none⟩ = some (.slice A1 n d1) ∧ wr.cell? ⟨w8.heap.size, 1, none⟩ = some v ∧ wr.frozen? ⟨w8.heap.size, 1, none⟩ = false ∧ wr.cell? ⟨w.heap.size + 1, 0, none⟩ = some (.slice none 0 0) ∧ wr.cell? ⟨w.heap.size + 1, 1, none⟩ = some (.slice none 0 0) ∧ wr.frozen? ⟨w.heap.size + 1, 0, none⟩ = false ∧ wr.frozen? ⟨w.heap.size + 1, 1, none⟩ = false) (fun iv _ => m - (intOf iv).toNat)
  case atStart => exact ⟨0, _, Nat.zero_le _, rfl, HST.out⟩
  case round =>
    obtain ⟨k, v, hk, rfl, HO, hZ, y0, y1, g1, r0, r1, f0, f1⟩ := hrel
    have HZ := Lib.hid hZ
    have ly := ltb y0
    have lr := ltb r0
    clear HST
    by_cases hlt : k < m
    · obtain ⟨b3, o3, rfl, lb3, hc3⟩ := HB.out.below hZ (by omega)
      obtain ⟨s0, s1, s2, s3, s4⟩ := hc3 k hlt
      have HNX := Lib.hid (fun (h : (k : Int) ≠ i) => wit_next (S := S) h)
      have HSK := Lib.hid (fun (h : (k : Int) = i) => And.intro (wit_skip (S := S) h) (witN_skip h))
      have HNN := Lib.hid (fun (h : (k : Int) ≠ i) => witN_next h)
      obtain ⟨x, hx⟩ : ∃ x, x = S k := ⟨_, rfl⟩
      rw [← hx] at s0 s1 s2 s3 s4 HNX
      have hwk := witN_le i k
      clear hx hc3 hZ
      obtain ⟨Y, hY⟩ : ∃ Y, Y = wr.alloc (Obj.cells #[.int .i64 x.tm, .int .i64 x.ca, .int .i64 x.cb, .int .i64 x.lo, .int .i64 x.hi] 52) := ⟨_, rfl⟩
      have BY : Bl wr Y := by rw [hY]; exact bl_alU _ _
      by_cases q : (k : Int) = i
      · have q' : ((k : Int) != i) = false := by simp [q]
        obtain ⟨e1, e2⟩ := HSK.out q
        have HRL := Lib.hid (show (Y.ownsRow (w.heap.size + 1 + 1) 3 1 (.slice A1 n d1) n (rgC R n) ∧ Y.ownsRow (w8.heap.size + 1) 52 5 v (witN i (k + 1)) (sgC (witS S i) (witN i (k + 1)))) from ⟨own_belowU HO.out.1 BY, by rw [e1, e2]; exact own_belowU HO.out.2 BY⟩)
        have HYR := Lib.hid (show Bl w Y ∧ Y.cell? ⟨w8.heap.size, 0, none⟩ = some (.slice A1 n d1) ∧ Y.cell? ⟨w8.heap.size, 1, none⟩ = some v ∧ Y.frozen? ⟨w8.heap.size, 1, none⟩ = false ∧ Y.cell? ⟨w.heap.size + 1, 0, none⟩ = some (.slice none 0 0) ∧ Y.cell? ⟨w.heap.size + 1, 1, none⟩ = some (.slice none 0 0) ∧ Y.frozen? ⟨w.heap.size + 1, 0, none⟩ = false ∧ Y.frozen? ⟨w.heap.size + 1, 1, none⟩ = false from ⟨HZ.out.tr BY, kcb BY y0, kcb BY y1, fzb BY g1 ly, kcb BY r0, kcb BY r1, fzb BY f0 lr, fzb BY f1 lr⟩)
        clear q e1 e2
        go_wp2_with fail
        rw [← hY]
        go_roundw
        case rel => exact ⟨k + 1, v, by omega, by go_num, HRL.out, HYR.out⟩
        case measure => simp [RowKit.intOf]; omega
      · have q' : ((k : Int) != i) = true := by simp [q]
        have e1 := HNX.out q
        have e2 := HNN.out q
        have SY : Y.heap.size = wr.heap.size + 1 := by rw [hY]; simp
        have t0 : Y.cell? ⟨wr.heap.size, 0, none⟩ = some (.int .i64 x.tm) := by rw [hY]; go_cell
        have t1 : Y.cell? ⟨wr.heap.size, 1, none⟩ = some (.int .i64 x.ca) := by rw [hY]; go_cell
        have t2 : Y.cell? ⟨wr.heap.size, 2, none⟩ = some (.int .i64 x.cb) := by rw [hY]; go_cell
        have t3 : Y.cell? ⟨wr.heap.size, 3, none⟩ = some (.int .i64 x.lo) := by rw [hY]; go_cell
        have t4 : Y.cell? ⟨wr.heap.size, 4, none⟩ = some (.int .i64 x.hi) := by rw [hY]; go_cell
        obtain ⟨A5, d5, hv5, _⟩ := sgl_of_own HO.out.2
        subst hv5
        obtain ⟨Q, hQ⟩ : ∃ Q, Q = Y.alloc (Obj.cells #[.int .i64 x.tm, .int .i64 x.ca, .int .i64 x.cb, .int .i64 x.lo, .int .i64 x.hi] 52) := ⟨_, rfl⟩
        have BQ : Bl Y Q := by rw [hQ]; exact bl_alU _ _
        have u0 : Q.cell? ⟨wr.heap.size + 1, 0, none⟩ = some (.int .i64 x.tm) := by rw [hQ, ← SY]; go_cell
        have u1 : Q.cell? ⟨wr.heap.size + 1, 1, none⟩ = some (.int .i64 x.ca) := by rw [hQ, ← SY]; go_cell
        have u2 : Q.cell? ⟨wr.heap.size + 1, 2, none⟩ = some (.int .i64 x.cb) := by rw [hQ, ← SY]; go_cell
        have u3 : Q.cell? ⟨wr.heap.size + 1, 3, none⟩ = some (.int .i64 x.lo) := by rw [hQ, ← SY]; go_cell
        have u4 : Q.cell? ⟨wr.heap.size + 1, 4, none⟩ = some (.int .i64 x.hi) := by rw [hQ, ← SY]; go_cell
        have HC := Lib.hid (addS_one u0 u1 u2 u3 u4)
        have BB := BY.tr BQ
        have HO1 := Lib.hid (own_belowU HO.out.1 BB)
        have HO2 := Lib.hid (own_belowU HO.out.2 BB)
        have HBB := Lib.hid (HZ.out.tr BB)
        have HQQ := Lib.hid (show Q.cell? ⟨w8.heap.size, 0, none⟩ = some (.slice A1 n d1) ∧ Q.cell? ⟨w8.heap.size, 1, none⟩ = some (.slice A5 (witN i k) d5) ∧ Q.frozen? ⟨w8.heap.size, 1, none⟩ = false ∧ Q.cell? ⟨w.heap.size + 1, 0, none⟩ = some (.slice none 0 0) ∧ Q.cell? ⟨w.heap.size + 1, 1, none⟩ = some (.slice none 0 0) ∧ Q.frozen? ⟨w.heap.size + 1, 0, none⟩ = false ∧ Q.frozen? ⟨w.heap.size + 1, 1, none⟩ = false from ⟨kcb BB y0, kcb BB y1, fzb BB g1 ly, kcb BB r0, kcb BB r1, fzb BB f0 lr, fzb BB f1 lr⟩)
        have HSZ := Lib.hid (show w8.heap.size + 1 ≤ Q.heap.size by have := BB.size; omega)
        have HEQ := Lib.hid (And.intro e1 e2)
        have HLTQ := Lib.hid (fun (g : Nat) (h : (Value.slice A1 n d1).ownBlock = some g) => (show g ≠ w8.heap.size from by have := HLT.out g h; omega))
        have ly2 : w8.heap.size < wr.heap.size + 1 := by omega
        have ly3 : w8.heap.size < wr.heap.size + 1 + 1 := by omega
        have hwk2 : witN i k ≤ 1000 := by omega
        clear q e1 e2 t0 t1 t2 t3 t4 u0 u1 u2 u3 u4 BB BY BQ SY y0 g1 r0 r1 f0 f1
        subst hQ
        subst hY
        go_wp2_with (at_builtin; refine wpList_append_own _ rfl _ _ _ rfl (w8.heap.size + 1) 52 i0 _ 5 40 Try.underlying23 HI.out.1 HI.out.2.1 HI.out.2.2.1 HI.out.2.2.2 rfl (by omega) _ (witN i k) (sgC (witS S i) (witN i k)) rfl HO2.out ⟨wr.heap.size + 1, 0, none⟩ 1 1 (cellsG x) rfl rfl HC.out (cellsG_one x) (by unfold maxLen; omega) (by omega) HSZ.out ?_; intro v9 w9 hown hgrow hnil; clear hnil; rw [HEQ.out.1, ← HEQ.out.2] at hown; obtain ⟨A9, d9, rfl, _⟩ := sgl_of_own hown; have y0 := grow_cellU hgrow HO2.out (by omega) HQQ.out.1; have y1 := grow_cellU hgrow HO2.out (by omega) HQQ.out.2.1; have g1 := grow_fzU hgrow HO2.out (by omega) (ltb HQQ.out.1) HQQ.out.2.2.1; have r0 := grow_cellU hgrow HO2.out (by have := HW8.out; omega) HQQ.out.2.2.2.1; have r1 := grow_cellU hgrow HO2.out (by have := HW8.out; omega) HQQ.out.2.2.2.2.1; have f0 := grow_fzU hgrow HO2.out (by have := HW8.out; omega) (ltb HQQ.out.2.2.2.1) HQQ.out.2.2.2.2.2.1; have f1 := grow_fzU hgrow HO2.out (by have := HW8.out; omega) (ltb HQQ.out.2.2.2.1) HQQ.out.2.2.2.2.2.2; have HO9 := Lib.hid hown; have HR9 := Lib.hid (grow_ownU hgrow HO1.out HO2.out (by decide)); have HB9 := Lib.hid (grow_blU HBB.out hgrow HO2.out (by have := HW8.out; omega)); have ly9 := ltb y0; have lr9 := ltb r0; clear hown hgrow)
        have hw8 := HW8.out
        go_roundw
        case rel => exact ⟨k + 1, _, by omega, by go_num, ⟨own_set_ne HR9.out HLTQ.out, own_setS HO9.out (show w8.heap.size < w8.heap.size + 1 by omega)⟩, bl_set HB9.out (by omega), cell_set1U y0 (by omega), by go_cell, by simpa using g1, cell_setO r0 (by omega), cell_setO r1 (by omega), by simpa using f0, by simpa using f1⟩
        case measure => simp [RowKit.intOf]; omega
    · have hkm : k = m := by omega
      subst k
      have hw8 := HW8.out
      obtain ⟨A5, d5, hv5, hc1, hc2, hs5⟩ := sgl_of_own HO.out.2
      subst hv5
      obtain ⟨A6, d6, e6, hc3, hc4, hs6⟩ := sl_of_ownU HO.out.1
      cases e6
      have HO5 := Lib.hid (And.intro HO.out.1 HO.out.2)
      clear hs5 hs6 HO
      go_wp2_with fail
      refine bodyPost_ret (net_res79 _ _ _ _ _ rfl (put_0U r0 _ _) (put_1U r0 r1 _ _)) rfl ?_
      exact ⟨A1, d1, A5, d5, rfl, own_baseU (own_setS (own_setS HO5.out.1 (by omega)) (by omega)) (by omega), own_baseU (own_setS (own_setS HO5.out.2 (by omega)) (by omega)) (by omega), bl_set (bl_set HZ.out (by omega)) (by omega)⟩
set_option maxRecDepth 100000 in
set_option maxHeartbeats 12800000 in
theorem radded_any (A : Option Addr) (n c : Nat) (R : Nat → Int) (B : Option Addr) (m d : Nat) (S : Nat → Sgt) (s : Sgt) (w : World) (hA : Sl w A n R) (hB : Sgl w B m S) (hn : n ≤ maxLen) (hm : m ≤ maxLen) :
    Calls Try.prog 46 #[encN A n c B m d, encG s] w (NetPost (addF R n S m s) w) := by
  have HV := Lib.hid (fun (W : World) (hW : Bl w W) => rvalidN_any A n c R B m d S W (hA.below hW) (hB.below hW) hn hm)
  have HSG := Lib.hid (fun W => rvalidSight2_any s n W)
  have HA := Lib.hid hA
  have HB := Lib.hid hB
  clear hA hB hn hm
  cases hv : vnB R n S m with
  | false =>
    rw [hv] at HV
    have HF := Lib.hid (show addF R n S m s = noN 1 by rw [addF, hv]; rfl)
    clear hv
    go_enter Try.func46, Try.ntmps46
    go_wp2_with fail
    obtain ⟨Z1, hZ⟩ : ∃ Z, Z = (((w.alloc (Obj.cells #[.slice A n c, .slice B m d] 25)).alloc (Obj.cells #[.int .i64 s.tm, .int .i64 s.ca, .int .i64 s.cb, .int .i64 s.lo, .int .i64 s.hi] 52)).alloc (Obj.cells #[.slice none 0 0, .slice none 0 0] 25)) := ⟨_, rfl⟩
    have bz : Bl w Z1 := by rw [hZ]; exact Bl.tr (Bl.tr (bl_alS _ _) (bl_alS _ _)) (bl_alS _ _)
    have x0 : Z1.cell? ⟨w.heap.size, 0, none⟩ = some (.slice A n c) := by rw [hZ]; go_cell
    have fx0 : Z1.frozen? ⟨w.heap.size, 0, none⟩ = false := by rw [hZ]; go_cell
    have x1 : Z1.cell? ⟨w.heap.size, 1, none⟩ = some (.slice B m d) := by rw [hZ]; go_cell
    have fx1 : Z1.frozen? ⟨w.heap.size, 1, none⟩ = false := by rw [hZ]; go_cell
    have y0 : Z1.cell? ⟨w.heap.size + 1, 0, none⟩ = some (.int .i64 s.tm) := by rw [hZ]; go_cell
    have fy0 : Z1.frozen? ⟨w.heap.size + 1, 0, none⟩ = false := by rw [hZ]; go_cell
    have y1 : Z1.cell? ⟨w.heap.size + 1, 1, none⟩ = some (.int .i64 s.ca) := by rw [hZ]; go_cell
    have fy1 : Z1.frozen? ⟨w.heap.size + 1, 1, none⟩ = false := by rw [hZ]; go_cell
    have y2 : Z1.cell? ⟨w.heap.size + 1, 2, none⟩ = some (.int .i64 s.cb) := by rw [hZ]; go_cell
    have fy2 : Z1.frozen? ⟨w.heap.size + 1, 2, none⟩ = false := by rw [hZ]; go_cell
    have y3 : Z1.cell? ⟨w.heap.size + 1, 3, none⟩ = some (.int .i64 s.lo) := by rw [hZ]; go_cell
    have fy3 : Z1.frozen? ⟨w.heap.size + 1, 3, none⟩ = false := by rw [hZ]; go_cell
    have y4 : Z1.cell? ⟨w.heap.size + 1, 4, none⟩ = some (.int .i64 s.hi) := by rw [hZ]; go_cell
    have fy4 : Z1.frozen? ⟨w.heap.size + 1, 4, none⟩ = false := by rw [hZ]; go_cell
    have r0 : Z1.cell? ⟨w.heap.size + 1 + 1, 0, none⟩ = some (.slice none 0 0) := by rw [hZ]; go_cell
    have fr0 : Z1.frozen? ⟨w.heap.size + 1 + 1, 0, none⟩ = false := by rw [hZ]; go_cell
    have r1 : Z1.cell? ⟨w.heap.size + 1 + 1, 1, none⟩ = some (.slice none 0 0) := by rw [hZ]; go_cell
    have fr1 : Z1.frozen? ⟨w.heap.size + 1 + 1, 1, none⟩ = false := by rw [hZ]; go_cell
    rw [← hZ]
    have HB1 := Lib.hid (bz)
    clear hZ bz
    refine (HV.out _ HB1.out).mono ?_
    rintro e w2 ⟨rfl, hb⟩
    replace fx0 := fzb hb fx0 (ltb x0)
    replace fx1 := fzb hb fx1 (ltb x0)
    replace fy0 := fzb hb fy0 (ltb y0)
    replace fy1 := fzb hb fy1 (ltb y0)
    replace fy2 := fzb hb fy2 (ltb y0)
    replace fy3 := fzb hb fy3 (ltb y0)
    replace fy4 := fzb hb fy4 (ltb y0)
    replace fr0 := fzb hb fr0 (ltb r0)
    replace fr1 := fzb hb fr1 (ltb r0)
    replace x0 := kcb hb x0
    replace x1 := kcb hb x1
    replace y0 := kcb hb y0
    replace y1 := kcb hb y1
    replace y2 := kcb hb y2
    replace y3 := kcb hb y3
    replace y4 := kcb hb y4
    replace r0 := kcb hb r0
    replace r1 := kcb hb r1
    have HB2 := Lib.hid (HB1.out.tr hb)
    clear hb
    have lz0 := ltb x0
    have lz1 := ltb y0
    have lz2 := ltb r0
    go_wp2_with fail
    exact bodyPost_ret (net_res46 _ _ _ _ _ _ rfl rfl (put_0U r0 _ _) (put_1U r0 r1 _ _)) rfl (by rw [HF.out]; exact netPost_no (bl_set (bl_set HB2.out (by omega)) (by omega)))
  | true =>
    rw [hv] at HV
    cases hs : sgB n s with
    | false =>
      rw [hs] at HSG
      have HF := Lib.hid (show addF R n S m s = noN 1 by rw [addF, hv, hs]; rfl)
      clear hv hs
      go_enter Try.func46, Try.ntmps46
      go_wp2_with fail
      obtain ⟨Z1, hZ⟩ : ∃ Z, Z = (((w.alloc (Obj.cells #[.slice A n c, .slice B m d] 25)).alloc (Obj.cells #[.int .i64 s.tm, .int .i64 s.ca, .int .i64 s.cb, .int .i64 s.lo, .int .i64 s.hi] 52)).alloc (Obj.cells #[.slice none 0 0, .slice none 0 0] 25)) := ⟨_, rfl⟩
      have bz : Bl w Z1 := by rw [hZ]; exact Bl.tr (Bl.tr (bl_alS _ _) (bl_alS _ _)) (bl_alS _ _)
      have x0 : Z1.cell? ⟨w.heap.size, 0, none⟩ = some (.slice A n c) := by rw [hZ]; go_cell
      have fx0 : Z1.frozen? ⟨w.heap.size, 0, none⟩ = false := by rw [hZ]; go_cell
      have x1 : Z1.cell? ⟨w.heap.size, 1, none⟩ = some (.slice B m d) := by rw [hZ]; go_cell
      have fx1 : Z1.frozen? ⟨w.heap.size, 1, none⟩ = false := by rw [hZ]; go_cell
      have y0 : Z1.cell? ⟨w.heap.size + 1, 0, none⟩ = some (.int .i64 s.tm) := by rw [hZ]; go_cell
      have fy0 : Z1.frozen? ⟨w.heap.size + 1, 0, none⟩ = false := by rw [hZ]; go_cell
      have y1 : Z1.cell? ⟨w.heap.size + 1, 1, none⟩ = some (.int .i64 s.ca) := by rw [hZ]; go_cell
      have fy1 : Z1.frozen? ⟨w.heap.size + 1, 1, none⟩ = false := by rw [hZ]; go_cell
      have y2 : Z1.cell? ⟨w.heap.size + 1, 2, none⟩ = some (.int .i64 s.cb) := by rw [hZ]; go_cell
      have fy2 : Z1.frozen? ⟨w.heap.size + 1, 2, none⟩ = false := by rw [hZ]; go_cell
      have y3 : Z1.cell? ⟨w.heap.size + 1, 3, none⟩ = some (.int .i64 s.lo) := by rw [hZ]; go_cell
      have fy3 : Z1.frozen? ⟨w.heap.size + 1, 3, none⟩ = false := by rw [hZ]; go_cell
      have y4 : Z1.cell? ⟨w.heap.size + 1, 4, none⟩ = some (.int .i64 s.hi) := by rw [hZ]; go_cell
      have fy4 : Z1.frozen? ⟨w.heap.size + 1, 4, none⟩ = false := by rw [hZ]; go_cell
      have r0 : Z1.cell? ⟨w.heap.size + 1 + 1, 0, none⟩ = some (.slice none 0 0) := by rw [hZ]; go_cell
      have fr0 : Z1.frozen? ⟨w.heap.size + 1 + 1, 0, none⟩ = false := by rw [hZ]; go_cell
      have r1 : Z1.cell? ⟨w.heap.size + 1 + 1, 1, none⟩ = some (.slice none 0 0) := by rw [hZ]; go_cell
      have fr1 : Z1.frozen? ⟨w.heap.size + 1 + 1, 1, none⟩ = false := by rw [hZ]; go_cell
      rw [← hZ]
      have HB1 := Lib.hid (bz)
      clear hZ bz
      refine (HV.out _ HB1.out).mono ?_
      rintro e w2 ⟨rfl, hb⟩
      replace fx0 := fzb hb fx0 (ltb x0)
      replace fx1 := fzb hb fx1 (ltb x0)
      replace fy0 := fzb hb fy0 (ltb y0)
      replace fy1 := fzb hb fy1 (ltb y0)
      replace fy2 := fzb hb fy2 (ltb y0)
      replace fy3 := fzb hb fy3 (ltb y0)
      replace fy4 := fzb hb fy4 (ltb y0)
      replace fr0 := fzb hb fr0 (ltb r0)
      replace fr1 := fzb hb fr1 (ltb r0)
      replace x0 := kcb hb x0
      replace x1 := kcb hb x1
      replace y0 := kcb hb y0
      replace y1 := kcb hb y1
      replace y2 := kcb hb y2
      replace y3 := kcb hb y3
      replace y4 := kcb hb y4
      replace r0 := kcb hb r0
      replace r1 := kcb hb r1
      have HB2 := Lib.hid (HB1.out.tr hb)
      clear hb
      have lz0 := ltb x0
      have lz1 := ltb y0
      have lz2 := ltb r0
      go_wp2_with fail
      refine (HSG.out _).mono ?_
      rintro e w3 ⟨rfl, hb⟩
      replace fx0 := fzb hb fx0 (ltb x0)
      replace fx1 := fzb hb fx1 (ltb x0)
      replace fy0 := fzb hb fy0 (ltb y0)
      replace fy1 := fzb hb fy1 (ltb y0)
      replace fy2 := fzb hb fy2 (ltb y0)
      replace fy3 := fzb hb fy3 (ltb y0)
      replace fy4 := fzb hb fy4 (ltb y0)
      replace fr0 := fzb hb fr0 (ltb r0)
      replace fr1 := fzb hb fr1 (ltb r0)
      replace x0 := kcb hb x0
      replace x1 := kcb hb x1
      replace y0 := kcb hb y0
      replace y1 := kcb hb y1
      replace y2 := kcb hb y2
      replace y3 := kcb hb y3
      replace y4 := kcb hb y4
      replace r0 := kcb hb r0
      replace r1 := kcb hb r1
      have HB3 := Lib.hid (HB2.out.tr hb)
      clear hb
      have lz0 := ltb x0
      have lz1 := ltb y0
      have lz2 := ltb r0
      go_wp2_with fail
      exact bodyPost_ret (net_res46 _ _ _ _ _ _ rfl rfl (put_0U r0 _ _) (put_1U r0 r1 _ _)) rfl (by rw [HF.out]; exact netPost_no (bl_set (bl_set HB3.out (by omega)) (by omega)))
    | true =>
      rw [hs] at HSG
      have HVN := Lib.hid (vn_iff.1 hv)
      by_cases h30 : m = 30
      · have HF := Lib.hid (show addF R n S m s = noN 4 by rw [addF, hv, hs, if_neg (by decide), if_pos h30])
        have hm1 : ((m : Int) == 30) = true := by simp; omega
        clear hv hs h30
        go_enter Try.func46, Try.ntmps46
        go_wp2_with fail
        obtain ⟨Z1, hZ⟩ : ∃ Z, Z = (((w.alloc (Obj.cells #[.slice A n c, .slice B m d] 25)).alloc (Obj.cells #[.int .i64 s.tm, .int .i64 s.ca, .int .i64 s.cb, .int .i64 s.lo, .int .i64 s.hi] 52)).alloc (Obj.cells #[.slice none 0 0, .slice none 0 0] 25)) := ⟨_, rfl⟩
        have bz : Bl w Z1 := by rw [hZ]; exact Bl.tr (Bl.tr (bl_alS _ _) (bl_alS _ _)) (bl_alS _ _)
        have x0 : Z1.cell? ⟨w.heap.size, 0, none⟩ = some (.slice A n c) := by rw [hZ]; go_cell
        have fx0 : Z1.frozen? ⟨w.heap.size, 0, none⟩ = false := by rw [hZ]; go_cell
        have x1 : Z1.cell? ⟨w.heap.size, 1, none⟩ = some (.slice B m d) := by rw [hZ]; go_cell
        have fx1 : Z1.frozen? ⟨w.heap.size, 1, none⟩ = false := by rw [hZ]; go_cell
        have y0 : Z1.cell? ⟨w.heap.size + 1, 0, none⟩ = some (.int .i64 s.tm) := by rw [hZ]; go_cell
        have fy0 : Z1.frozen? ⟨w.heap.size + 1, 0, none⟩ = false := by rw [hZ]; go_cell
        have y1 : Z1.cell? ⟨w.heap.size + 1, 1, none⟩ = some (.int .i64 s.ca) := by rw [hZ]; go_cell
        have fy1 : Z1.frozen? ⟨w.heap.size + 1, 1, none⟩ = false := by rw [hZ]; go_cell
        have y2 : Z1.cell? ⟨w.heap.size + 1, 2, none⟩ = some (.int .i64 s.cb) := by rw [hZ]; go_cell
        have fy2 : Z1.frozen? ⟨w.heap.size + 1, 2, none⟩ = false := by rw [hZ]; go_cell
        have y3 : Z1.cell? ⟨w.heap.size + 1, 3, none⟩ = some (.int .i64 s.lo) := by rw [hZ]; go_cell
        have fy3 : Z1.frozen? ⟨w.heap.size + 1, 3, none⟩ = false := by rw [hZ]; go_cell
        have y4 : Z1.cell? ⟨w.heap.size + 1, 4, none⟩ = some (.int .i64 s.hi) := by rw [hZ]; go_cell
        have fy4 : Z1.frozen? ⟨w.heap.size + 1, 4, none⟩ = false := by rw [hZ]; go_cell
        have r0 : Z1.cell? ⟨w.heap.size + 1 + 1, 0, none⟩ = some (.slice none 0 0) := by rw [hZ]; go_cell
        have fr0 : Z1.frozen? ⟨w.heap.size + 1 + 1, 0, none⟩ = false := by rw [hZ]; go_cell
        have r1 : Z1.cell? ⟨w.heap.size + 1 + 1, 1, none⟩ = some (.slice none 0 0) := by rw [hZ]; go_cell
        have fr1 : Z1.frozen? ⟨w.heap.size + 1 + 1, 1, none⟩ = false := by rw [hZ]; go_cell
        rw [← hZ]
        have HB1 := Lib.hid (bz)
        clear hZ bz
        refine (HV.out _ HB1.out).mono ?_
        rintro e w2 ⟨rfl, hb⟩
        replace fx0 := fzb hb fx0 (ltb x0)
        replace fx1 := fzb hb fx1 (ltb x0)
        replace fy0 := fzb hb fy0 (ltb y0)
        replace fy1 := fzb hb fy1 (ltb y0)
        replace fy2 := fzb hb fy2 (ltb y0)
        replace fy3 := fzb hb fy3 (ltb y0)
        replace fy4 := fzb hb fy4 (ltb y0)
        replace fr0 := fzb hb fr0 (ltb r0)
        replace fr1 := fzb hb fr1 (ltb r0)
        replace x0 := kcb hb x0
        replace x1 := kcb hb x1
        replace y0 := kcb hb y0
        replace y1 := kcb hb y1
        replace y2 := kcb hb y2
        replace y3 := kcb hb y3
        replace y4 := kcb hb y4
        replace r0 := kcb hb r0
        replace r1 := kcb hb r1
        have HB2 := Lib.hid (HB1.out.tr hb)
        clear hb
        have lz0 := ltb x0
        have lz1 := ltb y0
        have lz2 := ltb r0
        go_wp2_with fail
        refine (HSG.out _).mono ?_
        rintro e w3 ⟨rfl, hb⟩
        replace fx0 := fzb hb fx0 (ltb x0)
        replace fx1 := fzb hb fx1 (ltb x0)
        replace fy0 := fzb hb fy0 (ltb y0)
        replace fy1 := fzb hb fy1 (ltb y0)
        replace fy2 := fzb hb fy2 (ltb y0)
        replace fy3 := fzb hb fy3 (ltb y0)
        replace fy4 := fzb hb fy4 (ltb y0)
        replace fr0 := fzb hb fr0 (ltb r0)
        replace fr1 := fzb hb fr1 (ltb r0)
        replace x0 := kcb hb x0
        replace x1 := kcb hb x1
        replace y0 := kcb hb y0
        replace y1 := kcb hb y1
        replace y2 := kcb hb y2
        replace y3 := kcb hb y3
        replace y4 := kcb hb y4
        replace r0 := kcb hb r0
        replace r1 := kcb hb r1
        have HB3 := Lib.hid (HB2.out.tr hb)
        clear hb
        have lz0 := ltb x0
        have lz1 := ltb y0
        have lz2 := ltb r0
        go_wp2_with fail
        exact bodyPost_ret (net_res46 _ _ _ _ _ _ rfl rfl (put_0U r0 _ _) (put_1U r0 r1 _ _)) rfl (by rw [HF.out]; exact netPost_no (bl_set (bl_set HB3.out (by omega)) (by omega)))
      · have HF := Lib.hid (show addF R n S m s = ⟨n, R, m + 1, addS S m s, 0⟩ by rw [addF, hv, hs, if_neg (by decide), if_neg h30])
        have hm1 : ((m : Int) == 30) = false := by simp; omega
        clear hv hs h30
        obtain ⟨i0, hi0, hz0, hz1, hz2⟩ := info_partsU sgt_info
        have HI := Lib.hid (And.intro hi0 (And.intro hz0 (And.intro hz1 hz2)))
        clear hi0 hz0 hz1 hz2
        go_enter Try.func46, Try.ntmps46
        go_wp2_with fail
        obtain ⟨Z1, hZ⟩ : ∃ Z, Z = (((w.alloc (Obj.cells #[.slice A n c, .slice B m d] 25)).alloc (Obj.cells #[.int .i64 s.tm, .int .i64 s.ca, .int .i64 s.cb, .int .i64 s.lo, .int .i64 s.hi] 52)).alloc (Obj.cells #[.slice none 0 0, .slice none 0 0] 25)) := ⟨_, rfl⟩
        have bz : Bl w Z1 := by rw [hZ]; exact Bl.tr (Bl.tr (bl_alS _ _) (bl_alS _ _)) (bl_alS _ _)
        have x0 : Z1.cell? ⟨w.heap.size, 0, none⟩ = some (.slice A n c) := by rw [hZ]; go_cell
        have fx0 : Z1.frozen? ⟨w.heap.size, 0, none⟩ = false := by rw [hZ]; go_cell
        have x1 : Z1.cell? ⟨w.heap.size, 1, none⟩ = some (.slice B m d) := by rw [hZ]; go_cell
        have fx1 : Z1.frozen? ⟨w.heap.size, 1, none⟩ = false := by rw [hZ]; go_cell
        have y0 : Z1.cell? ⟨w.heap.size + 1, 0, none⟩ = some (.int .i64 s.tm) := by rw [hZ]; go_cell
        have fy0 : Z1.frozen? ⟨w.heap.size + 1, 0, none⟩ = false := by rw [hZ]; go_cell
        have y1 : Z1.cell? ⟨w.heap.size + 1, 1, none⟩ = some (.int .i64 s.ca) := by rw [hZ]; go_cell
        have fy1 : Z1.frozen? ⟨w.heap.size + 1, 1, none⟩ = false := by rw [hZ]; go_cell
        have y2 : Z1.cell? ⟨w.heap.size + 1, 2, none⟩ = some (.int .i64 s.cb) := by rw [hZ]; go_cell
        have fy2 : Z1.frozen? ⟨w.heap.size + 1, 2, none⟩ = false := by rw [hZ]; go_cell
        have y3 : Z1.cell? ⟨w.heap.size + 1, 3, none⟩ = some (.int .i64 s.lo) := by rw [hZ]; go_cell
        have fy3 : Z1.frozen? ⟨w.heap.size + 1, 3, none⟩ = false := by rw [hZ]; go_cell
        have y4 : Z1.cell? ⟨w.heap.size + 1, 4, none⟩ = some (.int .i64 s.hi) := by rw [hZ]; go_cell
        have fy4 : Z1.frozen? ⟨w.heap.size + 1, 4, none⟩ = false := by rw [hZ]; go_cell
        have r0 : Z1.cell? ⟨w.heap.size + 1 + 1, 0, none⟩ = some (.slice none 0 0) := by rw [hZ]; go_cell
        have fr0 : Z1.frozen? ⟨w.heap.size + 1 + 1, 0, none⟩ = false := by rw [hZ]; go_cell
        have r1 : Z1.cell? ⟨w.heap.size + 1 + 1, 1, none⟩ = some (.slice none 0 0) := by rw [hZ]; go_cell
        have fr1 : Z1.frozen? ⟨w.heap.size + 1 + 1, 1, none⟩ = false := by rw [hZ]; go_cell
        rw [← hZ]
        have HB1 := Lib.hid (bz)
        clear hZ bz
        refine (HV.out _ HB1.out).mono ?_
        rintro e w2 ⟨rfl, hb⟩
        replace fx0 := fzb hb fx0 (ltb x0)
        replace fx1 := fzb hb fx1 (ltb x0)
        replace fy0 := fzb hb fy0 (ltb y0)
        replace fy1 := fzb hb fy1 (ltb y0)
        replace fy2 := fzb hb fy2 (ltb y0)
        replace fy3 := fzb hb fy3 (ltb y0)
        replace fy4 := fzb hb fy4 (ltb y0)
        replace fr0 := fzb hb fr0 (ltb r0)
        replace fr1 := fzb hb fr1 (ltb r0)
        replace x0 := kcb hb x0
        replace x1 := kcb hb x1
        replace y0 := kcb hb y0
        replace y1 := kcb hb y1
        replace y2 := kcb hb y2
        replace y3 := kcb hb y3
        replace y4 := kcb hb y4
        replace r0 := kcb hb r0
        replace r1 := kcb hb r1
        have HB2 := Lib.hid (HB1.out.tr hb)
        clear hb
        have lz0 := ltb x0
        have lz1 := ltb y0
        have lz2 := ltb r0
        go_wp2_with fail
        refine (HSG.out _).mono ?_
        rintro e w3 ⟨rfl, hb⟩
        replace fx0 := fzb hb fx0 (ltb x0)
        replace fx1 := fzb hb fx1 (ltb x0)
        replace fy0 := fzb hb fy0 (ltb y0)
        replace fy1 := fzb hb fy1 (ltb y0)
        replace fy2 := fzb hb fy2 (ltb y0)
        replace fy3 := fzb hb fy3 (ltb y0)
        replace fy4 := fzb hb fy4 (ltb y0)
        replace fr0 := fzb hb fr0 (ltb r0)
        replace fr1 := fzb hb fr1 (ltb r0)
        replace x0 := kcb hb x0
        replace x1 := kcb hb x1
        replace y0 := kcb hb y0
        replace y1 := kcb hb y1
        replace y2 := kcb hb y2
        replace y3 := kcb hb y3
        replace y4 := kcb hb y4
        replace r0 := kcb hb r0
        replace r1 := kcb hb r1
        have HB3 := Lib.hid (HB2.out.tr hb)
        clear hb
        have lz0 := ltb x0
        have lz1 := ltb y0
        have lz2 := ltb r0
        go_wp2_with fail
        have hx2 := HVN.out.n8
        have hx3 := HVN.out.m30
        have hx4 := HVN.out.n2
        have HRW := rwithout_any A n c R B m d S (-1) _ (HA.out.below HB3.out) (HB.out.below HB3.out) (by omega) (by omega) (by omega)
        rw [witN_neg, witS_neg] at HRW
        refine HRW.mono ?_
        rintro e w4 ⟨A1, d1, B1, d2, rfl, ho1, ho2, hb⟩
        clear HRW
        have lb0 : w.heap.size + 1 + 1 < w3.heap.size := ltb r0
        replace fx0 := fzb hb fx0 (ltb x0)
        replace fx1 := fzb hb fx1 (ltb x0)
        replace fy0 := fzb hb fy0 (ltb y0)
        replace fy1 := fzb hb fy1 (ltb y0)
        replace fy2 := fzb hb fy2 (ltb y0)
        replace fy3 := fzb hb fy3 (ltb y0)
        replace fy4 := fzb hb fy4 (ltb y0)
        replace fr0 := fzb hb fr0 (ltb r0)
        replace fr1 := fzb hb fr1 (ltb r0)
        replace x0 := kcb hb x0
        replace x1 := kcb hb x1
        replace y0 := kcb hb y0
        replace y1 := kcb hb y1
        replace y2 := kcb hb y2
        replace y3 := kcb hb y3
        replace y4 := kcb hb y4
        replace r0 := kcb hb r0
        replace r1 := kcb hb r1
        have HB4 := Lib.hid (HB3.out.tr hb)
        have lz0 := ltb x0
        have lz1 := ltb y0
        have lz2 := ltb r0
        obtain ⟨P, hP⟩ : ∃ P, P = w4.alloc (Obj.cells #[.slice A1 n d1, .slice B1 m d2] 25) := ⟨_, rfl⟩
        have BP : Bl w4 P := by rw [hP]; exact bl_alU _ _
        have SP : P.heap.size = w4.heap.size + 1 := by rw [hP]; simp
        have px0 : P.cell? ⟨w4.heap.size, 0, none⟩ = some (.slice A1 n d1) := by rw [hP]; go_cell
        have px1 : P.cell? ⟨w4.heap.size, 1, none⟩ = some (.slice B1 m d2) := by rw [hP]; go_cell
        have pf1 : P.frozen? ⟨w4.heap.size, 1, none⟩ = false := by rw [hP]; go_cell
        obtain ⟨Q, hQ⟩ : ∃ Q, Q = P.alloc (Obj.cells #[.int .i64 s.tm, .int .i64 s.ca, .int .i64 s.cb, .int .i64 s.lo, .int .i64 s.hi] 52) := ⟨_, rfl⟩
        have BQ : Bl P Q := by rw [hQ]; exact bl_alU _ _
        have BB := BP.tr BQ
        have c0 : Q.cell? ⟨w4.heap.size + 1, 0, none⟩ = some (.int .i64 s.tm) := by rw [hQ, ← SP]; go_cell
        have c1 : Q.cell? ⟨w4.heap.size + 1, 1, none⟩ = some (.int .i64 s.ca) := by rw [hQ, ← SP]; go_cell
        have c2 : Q.cell? ⟨w4.heap.size + 1, 2, none⟩ = some (.int .i64 s.cb) := by rw [hQ, ← SP]; go_cell
        have c3 : Q.cell? ⟨w4.heap.size + 1, 3, none⟩ = some (.int .i64 s.lo) := by rw [hQ, ← SP]; go_cell
        have c4 : Q.cell? ⟨w4.heap.size + 1, 4, none⟩ = some (.int .i64 s.hi) := by rw [hQ, ← SP]; go_cell
        have HC := Lib.hid (addS_one c0 c1 c2 c3 c4)
        have HO1 := Lib.hid (own_belowU ho1 BB)
        have HO2 := Lib.hid (own_belowU ho2 BB)
        have HAP := Lib.hid (show (∀ g, (Value.slice B1 m d2).ownBlock = some g → g < w4.heap.size) ∧ (∀ g, (Value.slice A1 n d1).ownBlock = some g → g < w4.heap.size) from ⟨own_ltU ho2, own_ltU ho1⟩)
        have HQQ := Lib.hid (show Q.cell? ⟨w4.heap.size, 0, none⟩ = some (.slice A1 n d1) ∧ Q.cell? ⟨w4.heap.size, 1, none⟩ = some (.slice B1 m d2) ∧ Q.frozen? ⟨w4.heap.size, 1, none⟩ = false ∧ Q.cell? ⟨w.heap.size + 1 + 1, 0, none⟩ = some (.slice none 0 0) ∧ Q.cell? ⟨w.heap.size + 1 + 1, 1, none⟩ = some (.slice none 0 0) ∧ Q.frozen? ⟨w.heap.size + 1 + 1, 0, none⟩ = false ∧ Q.frozen? ⟨w.heap.size + 1 + 1, 1, none⟩ = false from ⟨kcb BQ px0, kcb BQ px1, fzb BQ pf1 (ltb px0), kcb BB r0, kcb BB r1, fzb BB fr0 lz2, fzb BB fr1 lz2⟩)
        have HBB := Lib.hid (Bl.tr HB4.out BB)
        have HSZ := Lib.hid (show w3.heap.size ≤ Q.heap.size from Nat.le_trans hb.size BB.size)
        have HW4 := Lib.hid (show w3.heap.size ≤ w4.heap.size from hb.size)
        have hy2 : w.heap.size + 1 < w4.heap.size + 1 := by omega
        clear c0 c1 c2 c3 c4 px0 px1 pf1 BB BP BQ SP ho1 ho2 hb r0 r1 fr0 fr1
        subst hQ
        subst hP
        go_wp2_with (at_builtin; refine wpList_append_own _ rfl _ _ _ rfl w3.heap.size 52 i0 _ 5 40 Try.underlying23 HI.out.1 HI.out.2.1 HI.out.2.2.1 HI.out.2.2.2 rfl (by omega) _ m (sgC S m) rfl HO2.out ⟨w4.heap.size + 1, 0, none⟩ 1 1 (cellsG s) rfl rfl HC.out (cellsG_one s) (by unfold maxLen; omega) (by omega) HSZ.out ?_; intro v9 w9 hown hgrow hnil; clear hnil; rw [addS_cells] at hown; obtain ⟨B9, d9, rfl, _⟩ := sgl_of_own hown; have y0 := grow_cellN hgrow HAP.out.1 HQQ.out.1; have y1 := grow_cellN hgrow HAP.out.1 HQQ.out.2.1; have g1 := grow_fzN hgrow HAP.out.1 (ltb HQQ.out.1) HQQ.out.2.2.1; have r0 := grow_cellU hgrow HO2.out (by omega) HQQ.out.2.2.2.1; have r1 := grow_cellU hgrow HO2.out (by omega) HQQ.out.2.2.2.2.1; have f0 := grow_fzU hgrow HO2.out (by omega) (ltb HQQ.out.2.2.2.1) HQQ.out.2.2.2.2.2.1; have f1 := grow_fzU hgrow HO2.out (by omega) (ltb HQQ.out.2.2.2.1) HQQ.out.2.2.2.2.2.2; have HO9 := Lib.hid hown; have HNB := Lib.hid (own_neCell hown (by omega) y0); have HR9 := Lib.hid (grow_ownU hgrow HO1.out HO2.out (by decide)); have HB9 := Lib.hid (grow_blU HBB.out hgrow HO2.out (by omega)); have ly9 := ltb y0; have lr9 := ltb r0; clear hown hgrow)
        refine bodyPost_ret (net_res46 _ _ _ _ _ _ rfl rfl (put_0U (cell_setO r0 (by omega)) _ _) (put_1U (cell_setO r0 (by omega)) (cell_setO r1 (by omega)) _ _)) rfl ?_
        rw [HF.out]
        obtain ⟨A8, d8, e8, _, _, hs8⟩ := sl_of_ownU (own_setS (own_setS (own_set_ne HR9.out (fun g hg => by have := HAP.out.2 g hg; omega) (b := w4.heap.size) (o := 1) (u := .slice B9 (m + 1) d9)) (show w.heap.size + 1 + 1 < w3.heap.size by omega) (o := 0) (u := .slice A1 n d1)) (show w.heap.size + 1 + 1 < w3.heap.size by omega) (o := 1) (u := .slice B9 (m + 1) d9))
        obtain ⟨B8, f8, e9, _, _, hs9⟩ := sgl_of_own (own_setS (own_setS (own_set_ne HO9.out HNB.out (b := w4.heap.size) (o := 1) (u := .slice B9 (m + 1) d9)) (show w.heap.size + 1 + 1 < w3.heap.size by omega) (o := 0) (u := .slice A1 n d1)) (show w.heap.size + 1 + 1 < w3.heap.size by omega) (o := 1) (u := .slice B9 (m + 1) d9))
        cases e8
        cases e9
        exact ⟨A1, d1, B9, d9, rfl, by unfold maxLen; dsimp only; omega, by unfold maxLen; dsimp only; omega, hs8, hs9, bl_set (bl_set (bl_set HB9.out (by omega)) (by omega)) (by omega)⟩
end Go.Proofs.Ytennmdlajealpaa
