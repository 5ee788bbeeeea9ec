/-
  Package sight: the chart of a net.
-/
import Derived.Test.YtchikfegpoonjaaPK
import Derived.Test.YtchikfegpoonjaaPT
import Derived.Deep.AppendLies
import Derived.Stop.RegionWithIn
namespace Go.Proofs.Ytchikfegpoonjaa
open Go.RowKit Go.Maps Go.Shelf
set_option linter.unusedSimpArgs false
set_option linter.unusedVariables false
attribute [local go_sem] Oper.semAt_some

theorem stp_info : (Try.prog.info? 74).map (fun i => (i.zero, i.size, i.bytes)) = some (some (.agg #[.int .i64 0, .int .i64 0, .int .i64 0, .int .i64 0]), 4, 32) := by kernel_rfl
/-- The steps' row has got one more, and the chart knows it. -/
theorem ChB.push_e {w w9 : World} {C M g cap : Nat} {l : List Spt} {s : List Edg} {vp vs : Value} {e : Edg} (h : ChB w C M l s vp vs)
    (hr : w9.ownsRow (C + 2) 74 4 (.slice (some ⟨g, 0, none⟩) (s.length + 1) cap) (s.length + 1) (edC s ++ [.int .i64 (e.fr : Int), .int .i64 (e.to : Int), .int .i64 e.co, .int .i64 e.no]))
    (hg : w.grownBy w9 vs.ownBlock) (hat : vs.ownBlock = some g ∨ g = w.heap.size) : ChB (w9.setCell ⟨C, 2, none⟩ (.slice (some ⟨g, 0, none⟩) (s.length + 1) cap)) C M l (s ++ [e]) vp (.slice (some ⟨g, 0, none⟩) (s.length + 1) cap) := by
  have hC : some C ≠ vs.ownBlock := fun e => by have := (h.rs.lt C e.symm).1; omega
  have hM : some M ≠ vs.ownBlock := fun e => by have := (h.rs.lt M e.symm).1; have := h.mc; omega
  have c0 : w9.cell? ⟨C, 0, none⟩ = some vp := (hg.cell_far ⟨C, 0, none⟩ (ltb h.c0) hC).trans h.c0
  have c1 : w9.cell? ⟨C, 1, none⟩ = some (.map (some M)) := (hg.cell_far ⟨C, 1, none⟩ (ltb h.c0) hC).trans h.c1
  have c2 : w9.cell? ⟨C, 2, none⟩ = some vs := (hg.cell_far ⟨C, 2, none⟩ (ltb h.c0) hC).trans h.c2
  have f0 := (hg.frozen_far ⟨C, 0, none⟩ (ltb h.c0) hC).trans h.f0
  have f2 := (hg.frozen_far ⟨C, 2, none⟩ (ltb h.c0) hC).trans h.f2
  have rp : w9.ownsRow (C + 2) 69 2 vp l.length (ptC l) := h.rp.kept hg (by
    cases hv : vp.ownBlock with
    | none => exact .inl rfl
    | some j => exact .inr (fun e => h.ne j hv e.symm))
  have sz := Nat.le_trans h.sz hg.size
  refine ⟨⟨by go_cell, by go_cell, by go_cell, by simpa using f0, by simpa using f2, own_setS rp (by omega), ?_, ?_, h.mc, by simpa using sz⟩, (h.nm.kept hg hM).kept (grown_setS w9 C 2 _) (fun e => by have := h.mc; have := Option.some.inj e; omega)⟩
  · rw [List.length_append, List.length_singleton, edC_snoc]
    exact own_setS hr (by omega)
  · intro g' e' e
    obtain rfl : g = g' := by simpa [Value.ownBlock] using e
    rcases hat with q | q
    · exact h.ne g e' q
    · have := (h.rp.lt g e').2; omega
theorem Exc.bl {w X Y : World} {C M : Nat} {o : Option Nat} (hb : Bl w X) (h : Exc C M o X Y) (hM : w.heap.size ≤ M) (hC : M < C) (ho : ∀ g, o = some g → C + 2 ≤ g) : Bl w Y :=
  ⟨h.os.trans hb.os, h.tape.trans hb.tape, h.output.trans hb.output, Nat.le_trans hb.size h.size, fun k hk => (h.block k (Nat.lt_of_lt_of_le hk hb.size) (by omega) (by omega) (fun e => by have := ho k e.symm; omega)).trans (hb.block k hk)⟩
theorem bl_grow {w X Y : World} {o : Option Nat} (hb : Bl w X) (h : X.grownBy Y o) (ho : ∀ g, o = some g → w.heap.size ≤ g) : Bl w Y :=
  ⟨h.os.trans hb.os, h.tape.trans hb.tape, h.output.trans hb.output, Nat.le_trans hb.size h.size, fun k hk => (h.block k (Nat.lt_of_lt_of_le hk hb.size) (fun e => by have := ho k e.symm; omega)).trans (hb.block k hk)⟩
/-- An ending by panic left out. -/
def noPan (Q : Exit → Act → World → Prop) : Exit → Act → World → Prop := fun e a w => match e with
  | .panic _ => False
  | e => Q e a w
theorem noPan_le {Q : Exit → Act → World → Prop} (e : Exit) (a : Act) (w : World) (h : noPan Q e a w) : Q e a w := by
  cases e <;> first | exact h | exact False.elim h
theorem noPan_normal (Q : Exit → Act → World → Prop) (a : Act) (w : World) : noPan Q .normal a w = Q .normal a w := rfl
theorem own_shapeS {w : World} {base : Nat} {e : TypeId} {size : Nat} {v : Value} {n : Nat} {xs : List Value} (h : w.ownsRow base e size v n xs) : ∃ A2 cp, v = .slice A2 n cp ∧ cp ≤ maxLen := by
  rcases h.2 with ⟨e, h0⟩ | ⟨g, cap, cur, e, hb, hg, hnc, hcm, _⟩
  · exact ⟨none, 0, by rw [e, h0], Nat.zero_le _⟩
  · exact ⟨_, cap, e, hcm⟩
theorem Ptl.below' {w w' : World} {A : Option Addr} {n : Nat} {P : Nat → Spt} (h : Ptl w A n P) (hb : Bl w w') : Ptl w' A n P := fun hn => by
  obtain ⟨b, off, e, hlt, hc⟩ := h hn
  exact ⟨b, off, e, Nat.lt_of_lt_of_le hlt hb.size, fun j hj => ⟨kcb hb (hc j hj).1, kcb hb (hc j hj).2⟩⟩
theorem take_succP {q : List Spt} {j : Nat} (h : j < q.length) : q.take (j + 1) = q.take j ++ [gtP q j] := by
  rw [List.take_add_one, List.getElem?_eq_getElem h]
  simp [gtP, List.getD_eq_getElem?_getD, List.getElem?_eq_getElem h]
/-- A point of a net of n clocks. -/
def PtB (n : Nat) (p : Spt) : Prop := (0 ≤ p.1 ∧ p.1 < (n : Int)) ∧ 0 ≤ p.2 ∧ p.2 ≤ 1000000000000
theorem spo_ok {n : Nat} {c t : Int} (hn : 1 ≤ n) (hc : 0 ≤ c ∧ c < (n : Int)) (ht : 0 ≤ t ∧ t ≤ 1000000000000) : PtB n (spo c t) := by
  unfold spo PtB
  split
  · exact ⟨⟨by simp, by simp; omega⟩, by simp, by simp⟩
  · exact ⟨hc, ht⟩
theorem tkn_ok {R : Nat → Int} {n m : Nat} {S : Nat → Sgt} (h : VN R n S m) {k : Nat} (hk : k < 2 * m) : PtB n (tkn S k).1 ∧ PtB n (tkn S k).2.1 ∧ -86400000 ≤ (tkn S k).2.2 ∧ (tkn S k).2.2 ≤ 86400000 := by
  have hs := sgB_iff.1 (h.sg (k / 2) (by omega))
  have n1 : 1 ≤ n := by have := h.n2; omega
  have a := spo_ok n1 hs.2.1 hs.1
  have b := spo_ok n1 hs.2.2.1 hs.1
  unfold tkn
  split
  · exact ⟨a, b, by dsimp only; omega, by dsimp only; omega⟩
  · exact ⟨b, a, by dsimp only; omega, by dsimp only; omega⟩
theorem PtB.rng {n : Nat} {p : Spt} (h : PtB n p) (hn : n ≤ 1000) : rngS p.1 ∧ rngS p.2 := by
  obtain ⟨h1, h2⟩ := h
  unfold rngS
  omega
theorem aqS_snoc (l q : List Spt) (p : Spt) : aqS l (q ++ [p]) = adP (aqS l q) p := by
  induction q generalizing l with
  | nil => rfl
  | cons a q ih => exact ih (adP l a)
/-- An append inside a round's region, when what it does is known. -/
theorem stepIn_run {F : Fence} {n : Nat} {P : Program} {ops : Array Oper} {o : Oper} {a : Act} {w w' : World} {K : Act → World → Prop} {Q : Exit → Act → World → Prop} {E : Prop} {v' : Value} (hgd : o.guard = none) (hF : ∀ f, F.fn f) (s x : Operand) {t : TypeId}
    (ho : o.op = .call { callee := .builtin .append, args := #[s, x], argTypes := #[t, t] }) (v y : Value) (hs : a.eval s = v) (hx : a.eval x = y)
    (hrun : (Builtin.append_ #[t, t] o.type #[v, y]).run P w = .ok v' w') (h : K (a.put o.dst v') w') :
    if Region.wanted o (yielded ops a.tmps) = true then Oper.wpIn F n P o a w K Q else E := by
  have hw : Region.wanted o (yielded ops a.tmps) = true := by simp [Region.wanted, hgd]
  rw [if_pos hw]
  refine ⟨fun f _ => hF f, ?_⟩
  rw [Oper.semAt_eq _ _ _ (by rw [ho]; intro c hc; cases hc)]
  unfold execOp
  simp only [ho, resolve, invoke, builtin, Sem.run_bind, Sem.run_pure, Result.andThen_ok, List.map_toArray, List.map_cons, List.map_nil, hs, hx, hrun]
  exact h
theorem Num.same {w w' : World} {B k : Nat} {V : Int → Int → Option Int} (h : Num w B k V) (hb : w'.heap[B]? = w.heap[B]?) : Num w' B k V := by
  obtain ⟨D, ⟨es, clock, h0, h1, h2, h3⟩, hm, hd⟩ := h
  exact ⟨D, ⟨es, clock, hb.trans h0, h1, h2, h3⟩, hm, hd⟩
theorem row_keptS {W W' : World} {base : Nat} {e : TypeId} {size : Nat} {v : Value} {n : Nat} {xs : List Value} (h : W.ownsRow base e size v n xs) (hk : ∀ g, v.ownBlock = some g → W'.heap[g]? = W.heap[g]?) : W'.ownsRow base e size v n xs := by
  refine ⟨h.1, ?_⟩
  rcases h.2 with ⟨e, h0⟩ | ⟨g, cap, cur, e, hb, hg, rest⟩
  · exact .inl ⟨e, h0⟩
  · exact .inr ⟨g, cap, cur, e, hb, (hk g (by rw [e]; rfl)).trans hg, rest⟩
theorem ChB.same {w w' : World} {C M : Nat} {l : List Spt} {s : List Edg} {vp vs : Value} (h : ChB w C M l s vp vs) (hs : w.heap.size ≤ w'.heap.size) (hC : w'.heap[C]? = w.heap[C]?) (hM : w'.heap[M]? = w.heap[M]?) (hp : ∀ g, vp.ownBlock = some g → w'.heap[g]? = w.heap[g]?) (hv : ∀ g, vs.ownBlock = some g → w'.heap[g]? = w.heap[g]?) : ChB w' C M l s vp vs :=
  ⟨⟨(World.cell?_of_block hC).trans h.c0, (World.cell?_of_block hC).trans h.c1, (World.cell?_of_block hC).trans h.c2, (World.frozen?_of_block (a := ⟨C, 0, none⟩) hC).trans h.f0, (World.frozen?_of_block (a := ⟨C, 2, none⟩) hC).trans h.f2, row_keptS h.rp hp, row_keptS h.rs hv, h.ne, h.mc, Nat.le_trans h.sz hs⟩, h.nm.same hM⟩
theorem ptsC_len (S : Nat → Sgt) (m : Nat) (q : List Spt) : (ptsC S m q).length ≤ 4 * m + q.length := by
  obtain ⟨r, e, hr⟩ := aqS_app (mkS S (2 * m)).1 q
  have := (mkS_len S (2 * m)).1
  unfold ptsC
  rw [e, List.length_append]; omega
theorem ptsC_ok {R : Nat → Int} {n m : Nat} {S : Nat → Sgt} {q : List Spt} (h : VN R n S m) (hq : ∀ p, p ∈ q → PtB n p) : ∀ p, p ∈ ptsC S m q → PtB n p := fun p hp => by
  rcases aqS_mem hp with h1 | h1
  · obtain ⟨j, hj, e | e⟩ := mkS_mem h1
    · rw [e]; exact (tkn_ok h hj).1
    · rw [e]; exact (tkn_ok h hj).2.1
  · exact hq p h1
theorem ptl_of_row {w : World} {base : Nat} {A : Option Addr} {n c : Nat} {l : List Spt} (h : w.ownsRow base 69 2 (.slice A n c) l.length (ptC l)) : Ptl w A l.length (gtP l) := fun hn => by
  rcases h.2 with ⟨e, h0⟩ | ⟨g, cap, cur, e, hb, hg, hnc, hcm, hcs, htake⟩
  · omega
  · obtain ⟨rfl, rfl, rfl⟩ : A = some ⟨g, 0, none⟩ ∧ n = l.length ∧ c = cap := by simpa using e
    refine ⟨g, 0, rfl, (Array.getElem?_eq_some_iff.1 hg).1, fun j hj => ?_⟩
    obtain ⟨d0, d1⟩ := ptC_at l hj
    exact ⟨by rw [Nat.zero_add, h.cellAt _ (by omega), d0], by rw [Nat.zero_add, h.cellAt _ (by omega), d1]⟩
set_option maxRecDepth 100000 in
set_option maxHeartbeats 16000000 in
theorem chartOf_any (A : Option Addr) (n c : Nat) (R : Nat → Int) (B : Option Addr) (m d : Nat) (S : Nat → Sgt) (Aq : Option Addr) (cq : Nat) (q : List Spt) (w : World) (hA : Sl w A n R) (hB : Sgl w B m S) (hQ : Ptl w Aq q.length (gtP q)) (hv : VN R n S m) (hq : ∀ p, p ∈ q → PtB n p) (hl : q.length ≤ 8) :
    Calls Try.prog 20 #[encN A n c B m d, .slice Aq q.length cq] w fun e w' => ∃ C M vp vs, e = .returned (.pointer (some ⟨C, 0, none⟩)) ∧ ChB w' C M (ptsC S m q) (stpC R S m q) vp vs ∧ Bl w w' ∧ w.heap.size ≤ M := by
  obtain ⟨i0, hi0, hz0, hz1, hz2⟩ := info_partsS stp_info
  have HI := Lib.hid (And.intro hi0 (And.intro hz0 (And.intro hz1 hz2)))
  have HA := Lib.hid hA
  have HB := Lib.hid hB
  have HQ := Lib.hid hQ
  have HV := Lib.hid hv
  have HQQ := Lib.hid hq
  have hm30 := hv.m30
  have hn8 := hv.n8
  have hmm := @run_makeMap Try.prog
  clear hA hB hQ hv hq hi0 hz0 hz1 hz2
  refine (callsIn_wide (n := 5)).1 ?_
  refine callsIn_of_wp_marks Try.func20 rfl trivial ?_ rfl
  simp only [Try.ntmps20, List.size_toArray, List.length_cons, List.length_nil, Nat.reduceAdd, Nat.reduceSub, Array.replicate_succ, Array.replicate_zero, List.push_toArray, List.append_toArray, List.nil_append, List.cons_append]
  refine wpIn_wide.2 ?_
  go_wp2_with fail
  obtain ⟨V, hV⟩ : ∃ V, V = ((((w.alloc (Obj.cells #[Value.slice A n c, Value.slice B m d] 27)).alloc (Obj.map #[] 0)).alloc (Obj.cells #[Value.slice none 0 0, Value.map (some (w.heap.size + 1)), Value.slice none 0 0] 67)).alloc (Obj.cells #[Value.pointer (some ⟨w.heap.size + 1 + 1, 0, none⟩)] 53)) := ⟨_, rfl⟩
  have HBV := Lib.hid (show Bl w V by rw [hV]; go_grown)
  have HC0 := Lib.hid (show ChB V (w.heap.size + 1 + 1) (w.heap.size + 1) [] [] (.slice none 0 0) (.slice none 0 0) by
    have hn := Num.made (w.alloc (Obj.cells #[Value.slice A n c, Value.slice B m d] 27))
    rw [World.size_alloc] at hn
    rw [hV]
    exact ⟨⟨by go_cell, by go_cell, by go_cell, by go_cell, by go_cell, World.ownsRow_nil _ _ _ _, World.ownsRow_nil _ _ _ _, (fun g e => by cases e), by omega, by (try simp only [World.size_alloc]); omega⟩, ((hn.below (by go_grown)).below (by go_grown)).congr (fun c t => by simp [ixP])⟩)
  have n0 : V.cell? ⟨w.heap.size, 0, none⟩ = some (.slice A n c) := by rw [hV]; refine cellUp (cellUp (cellUp ?_)); go_cell
  have n1 : V.cell? ⟨w.heap.size, 1, none⟩ = some (.slice B m d) := by rw [hV]; refine cellUp (cellUp (cellUp ?_)); go_cell
  have b5 : V.cell? ⟨w.heap.size + 1 + 1 + 1, 0, none⟩ = some (.pointer (some ⟨w.heap.size + 1 + 1, 0, none⟩)) := by rw [hV]; go_cell
  have HNB := Lib.hid (And.intro n0 (And.intro n1 b5))
  rw [← hV]
  clear hV n0 n1 b5 hmm
  obtain ⟨N, hN⟩ : ∃ N, N = w.heap.size := ⟨_, rfl⟩
  have HNN := Lib.hid hN
  have hNw : w.heap.size ≤ N := by omega
  rw [← hN] at HC0 HNB ⊢
  clear hN
  obtain ⟨C, hC⟩ : ∃ C, C = N + 1 + 1 := ⟨_, rfl⟩
  obtain ⟨M, hM⟩ : ∃ M, M = N + 1 := ⟨_, rfl⟩
  obtain ⟨D, hD⟩ : ∃ D, D = N + 1 + 1 + 1 := ⟨_, rfl⟩
  rw [← hC, ← hM] at HC0
  rw [← hD, ← hC] at HNB
  rw [← hD, ← hC, ← hM]
  have h1 : N < M := by omega
  have h2 : M < C := by omega
  have h3 : C < D := by omega
  have h4 : D < C + 2 := by omega
  clear hC hM hD
  go_loopw [22] (fun i wr => ∃ (k : Nat) (vp vs : Value), k ≤ 2 * m ∧ i = .int .i64 k ∧ Hid (ChB wr C M (mkS S k).1 (mkS S k).2 vp vs) ∧ Hid (Bl w wr) ∧ wr.cell? ⟨N, 0, none⟩ = some (.slice A n c) ∧ wr.cell? ⟨N, 1, none⟩ = some (.slice B m d) ∧ wr.cell? ⟨D, 0, none⟩ = some (.pointer (some ⟨C, 0, none⟩))) (fun i _ => 2 * m - (RowKit.intOf i).toNat)
  case atStart => exact ⟨0, _, _, Nat.zero_le _, rfl, HC0, HBV, HNB.out.1, HNB.out.2.1, HNB.out.2.2⟩
  case round =>
    clear HC0 HBV HNB
    obtain ⟨k, vp, vs, hk, rfl, HC, HBW, n0, n1, b5⟩ := hrel
    have ln := ltb n0
    have ld := ltb b5
    by_cases hlt : k < 2 * m
    · have hlt' : (k : Int) < 2 * (m : Int) := by omega
      have hok := tkn_ok HV.out hlt
      have hsg := sgB_iff.1 (HV.out.sg (k / 2) (by omega))
      have hlen := mkS_len S k
      obtain ⟨A3, c3, rfl, hc3⟩ := own_shapeS HC.out.rs
      go_wp2_with fail
      refine (taken_any A n c B m d S k _ (HB.out.below HBW.out) hlt (by omega) ⟨hsg.2.2.2.2.1, by omega⟩).mono ?_
      rintro e1 w1 ⟨rfl, hb⟩
      have HP := Lib.hid hok
      have HSK := Lib.hid (show mkS S (k + 1) = (adP (adP (mkS S k).1 (tkn S k).1) (tkn S k).2.1, (mkS S k).2 ++ [⟨ixP (tkn S k).1 (mkS S k).1, ixP (tkn S k).2.1 (adP (mkS S k).1 (tkn S k).1), (tkn S k).2.2, k⟩]) from rfl)
      obtain ⟨p, hp⟩ : ∃ p, p = (tkn S k).1 := ⟨_, rfl⟩
      obtain ⟨r, hr⟩ : ∃ r, r = (tkn S k).2.1 := ⟨_, rfl⟩
      obtain ⟨co, hco⟩ : ∃ co, co = (tkn S k).2.2 := ⟨_, rfl⟩
      obtain ⟨l, hl0⟩ : ∃ l, l = (mkS S k).1 := ⟨_, rfl⟩
      obtain ⟨s, hs0⟩ : ∃ s, s = (mkS S k).2 := ⟨_, rfl⟩
      rw [← hp, ← hr, ← hco, ← hl0, ← hs0] at HSK
      rw [← hp, ← hr, ← hco] at HP ⊢
      rw [← hl0, ← hs0] at HC hlen
      have hlen1 := hlen.1
      have hlens : s.length ≤ 2 * m := by omega
      clear hlen
      clear hp hr hco hl0 hs0 hok hsg
      have n0 := kcb hb n0
      have n1 := kcb hb n1
      have b5 := kcb hb b5
      have ln := ltb n0
      have ld := ltb b5
      have HB1 := Lib.hid (HBW.out.tr hb)
      have HC1 := Lib.hid (HC.out.below hb)
      clear hb
      go_wp2_with fail
      obtain ⟨X2, hX2⟩ : ∃ X2, X2 = (w1.alloc (Obj.cells #[.int .i64 p.1, .int .i64 p.2] 69)).alloc (Obj.cells #[.int .i64 r.1, .int .i64 r.2] 69) := ⟨_, rfl⟩
      have BX : Bl w1 X2 := by rw [hX2]; go_grown
      have r0 : X2.cell? ⟨w1.heap.size + 1, 0, none⟩ = some (.int .i64 r.1) := by rw [hX2]; go_cell
      have r1 : X2.cell? ⟨w1.heap.size + 1, 1, none⟩ = some (.int .i64 r.2) := by rw [hX2]; go_cell
      have HC2 := Lib.hid (HC1.out.below BX)
      have HB2 := Lib.hid (HB1.out.tr BX)
      have n0 := kcb BX n0
      have n1 := kcb BX n1
      have b5 := kcb BX b5
      have hCw : C < w1.heap.size := by have := HC1.out.sz; omega
      have HOV := Lib.hid (show ∀ g, vp.ownBlock = some g → C + 2 ≤ g ∧ g < w1.heap.size from fun g e => HC1.out.rp.lt g e)
      rw [← hX2]
      clear hX2 BX HC1 HB1
      refine (numberS_any C M l s vp _ p _ HC2.out (HP.out.1.rng (by omega)).1 (HP.out.1.rng (by omega)).2 (by omega)).mono ?_
      rintro e2 w2 ⟨rfl, vp2, hc2, hx2⟩
      have r0 := hx2.cell (by omega) (by omega) (fun e => by have := (HOV.out _ e.symm).2; omega) r0
      have r1 := hx2.cell (by omega) (by omega) (fun e => by have := (HOV.out _ e.symm).2; omega) r1
      have n0 := hx2.cell (by omega) (by omega) (fun e => by have := (HOV.out _ e.symm).1; omega) n0
      have n1 := hx2.cell (by omega) (by omega) (fun e => by have := (HOV.out _ e.symm).1; omega) n1
      have b5 := hx2.cell (by omega) (by omega) (fun e => by have := (HOV.out _ e.symm).1; omega) b5
      have HB3 := Lib.hid (Exc.bl HB2.out hx2 (by omega) h2 (fun g e => (HOV.out g e).1))
      have HC3 := Lib.hid hc2
      have HOV := Lib.hid (show ∀ g, vp2.ownBlock = some g → C + 2 ≤ g from fun g e => (hc2.rp.lt g e).1)
      have lr := ltb r0
      have ld := ltb b5
      have hlen2 : (adP l p).length ≤ l.length + 1 := by
        obtain ⟨x, e, hx⟩ := adP_app l p
        rw [e, List.length_append]; omega
      clear hx2 hc2 HC2 HB2
      go_wp2_with fail
      refine (numberS_any C M (adP l p) s vp2 _ r _ HC3.out (HP.out.2.1.rng (by omega)).1 (HP.out.2.1.rng (by omega)).2 (by omega)).mono ?_
      rintro e3 w3 ⟨rfl, vp3, hc3, hx3⟩
      have n0 := hx3.cell (by omega) (by omega) (fun e => by have := (HOV.out _ e.symm); omega) n0
      have n1 := hx3.cell (by omega) (by omega) (fun e => by have := (HOV.out _ e.symm); omega) n1
      have b5 := hx3.cell (by omega) (by omega) (fun e => by have := (HOV.out _ e.symm); omega) b5
      have HB4 := Lib.hid (Exc.bl HB3.out hx3 (by omega) h2 (fun g e => HOV.out g e))
      have HC4 := Lib.hid hc3
      have c2 := hc3.c2
      have f2 := hc3.f2
      have ld := ltb b5
      have lc := ltb c2
      have HNB := Lib.hid (And.intro n0 (And.intro n1 b5))
      obtain ⟨ia, hia⟩ : ∃ ia, ia = ixP p l := ⟨_, rfl⟩
      obtain ⟨ib, hib⟩ : ∃ ib, ib = ixP r (adP l p) := ⟨_, rfl⟩
      rw [← hia, ← hib] at HSK
      rw [← hia, ← hib]
      have HC5 := Lib.hid (HC4.out.below (show Bl w3 (w3.drew.alloc (.cells #[.int .i64 (ia : Int), .int .i64 (ib : Int), .int .i64 co, .int .i64 (k : Int)] 74)) from Bl.tr (bl_drS _) (by go_grown)))
      have HB55 := Lib.hid (show Bl w3 (w3.drew.alloc (.cells #[.int .i64 (ia : Int), .int .i64 (ib : Int), .int .i64 co, .int .i64 (k : Int)] 74)) from Bl.tr (bl_drS _) (by go_grown))
      have HVO := Lib.hid (show ∀ g, (Value.slice A3 s.length c3).ownBlock = some g → C + 2 ≤ g from fun g e => (HC5.out.rs.lt g e).1)
      clear hx3 hc3 HC3 HB3 hia hib n0 n1 r0 r1 lr ln
      go_wp2_with fail
      refine wp_mono ?_ noPan_le
      go_region_law (refine step_append_lies _ (by rfl) _ _ _ (by rfl) (C + 2) 74 i0 _ 4 32 Try.underlying65 HI.out.1 HI.out.2.1 HI.out.2.2.1 HI.out.2.2.2 rfl (by omega) _ s.length (edC s) (by rfl) HC5.out.rs ⟨w3.heap.size, 0, none⟩ 1 1 [.int .i64 (ia : Int), .int .i64 (ib : Int), .int .i64 co, .int .i64 (k : Int)] (by rfl) (by rfl) (World.news_of_block (cs := #[.int .i64 (ia : Int), .int .i64 (ib : Int), .int .i64 co, .int .i64 (k : Int)]) (t := 74) (fr := (0, 0)) (heap_alloc_new w3.drew _)) (by simp [Value.oneCell']) (by omega) (by unfold maxLen; omega) (by omega) (by have := HC5.out.sz; (try simp only [World.size_alloc, World.size_drew] at this ⊢); omega) _ rfl ?_; intro gg cap w9 hown9 hgrow hat hlt9; have k2 := (hgrow.cell_far ⟨C, 2, none⟩ (ltb HC5.out.c2) (fun e => by have := HVO.out _ e.symm; have e' : C + 2 ≤ C := this; omega)).trans HC5.out.c2; have kf := (hgrow.frozen_far ⟨C, 2, none⟩ (ltb HC5.out.c2) (fun e => by have := HVO.out _ e.symm; have e' : C + 2 ≤ C := this; omega)).trans HC5.out.f2; have k5 := (hgrow.cell_far ⟨D, 0, none⟩ (ltb (kcb HB55.out HNB.out.2.2)) (fun e => by have e' : C + 2 ≤ D := HVO.out _ e.symm; omega)).trans (kcb HB55.out HNB.out.2.2); have lk5 := ltb k5; have lk2 := ltb k2)
      all_goals
        rw [noPan_normal]
        have B5 : Bl w3 (w3.drew.alloc (.cells #[.int .i64 (ia : Int), .int .i64 (ib : Int), .int .i64 co, .int .i64 (k : Int)] 74)) := Bl.tr (bl_drS _) (by go_grown)
        have HB9 := Lib.hid (bl_set (b := C) (o := 2) (v := .slice (some ⟨gg, 0, none⟩) (s.length + 1) cap) (bl_grow (HB4.out.tr B5) hgrow (fun g e => by have := HVO.out g e; omega)) (by omega))
        have m0 := cell_setO (b := C) (o := 2) (v := .slice (some ⟨gg, 0, none⟩) (s.length + 1) cap) ((hgrow.cell_far ⟨N, 0, none⟩ (ltb (kcb B5 HNB.out.1)) (fun e => by have e' : C + 2 ≤ N := HVO.out _ e.symm; omega)).trans (kcb B5 HNB.out.1)) (by omega)
        have m1 := cell_setO (b := C) (o := 2) (v := .slice (some ⟨gg, 0, none⟩) (s.length + 1) cap) ((hgrow.cell_far ⟨N, 1, none⟩ (ltb (kcb B5 HNB.out.1)) (fun e => by have e' : C + 2 ≤ N := HVO.out _ e.symm; omega)).trans (kcb B5 HNB.out.2.1)) (by omega)
        have m5 := cell_setO (b := C) (o := 2) (v := .slice (some ⟨gg, 0, none⟩) (s.length + 1) cap) ((hgrow.cell_far ⟨D, 0, none⟩ (ltb (kcb B5 HNB.out.2.2)) (fun e => by have e' : C + 2 ≤ D := HVO.out _ e.symm; omega)).trans (kcb B5 HNB.out.2.2)) (by omega)
        have HC9 := Lib.hid (show ChB (w9.setCell ⟨C, 2, none⟩ (.slice (some ⟨gg, 0, none⟩) (s.length + 1) cap)) C M (mkS S (k + 1)).1 (mkS S (k + 1)).2 vp3 (.slice (some ⟨gg, 0, none⟩) (s.length + 1) cap) by
          rw [HSK.out]
          exact HC5.out.push_e (e := ⟨ia, ib, co, k⟩) hown9 hgrow hat)
        clear B5 hown9 hgrow hat
        go_wp2_with fail
        go_roundw
        case rel => exact ⟨k + 1, vp3, _, by omega, by go_num, HC9, HB9, m0, m1, m5⟩
        case measure => simp [RowKit.intOf]; omega
    · obtain rfl : k = 2 * m := by omega
      have hlt' : ¬ (((2 * m : Nat) : Int) < 2 * (m : Int)) := by omega
      have hml := (mkS_len S (2 * m)).1
      have HC0 := HC
      have HBW0 := HBW
      have HNB := Lib.hid (And.intro n0 (And.intro n1 b5))
      have HOA := Lib.hid (show ∀ g, vs.ownBlock = some g → C + 2 ≤ g from fun g e => (HC.out.rs.lt g e).1)
      go_wp2_with fail
      clear HC HBW n0 n1 b5 ln ld hlt'
      obtain ⟨wo, hwo⟩ : ∃ wo, wo = wr := ⟨_, rfl⟩
      subst hwo
      obtain ⟨qn, hqn⟩ : ∃ qn, qn = q.length := ⟨_, rfl⟩
      have HQN := Lib.hid hqn
      rw [← hqn] at hl ⊢
      clear hqn
      go_loopw [55] (fun i wr => ∃ (j : Nat) (vp : Value), j ≤ qn ∧ i = .int .i64 j ∧ Hid (ChB wr C M (aqS (mkS S (2 * m)).1 (q.take j)) (mkS S (2 * m)).2 vp vs) ∧ Hid (Bl w wr) ∧ wr.cell? ⟨N, 0, none⟩ = some (.slice A n c) ∧ wr.cell? ⟨N, 1, none⟩ = some (.slice B m d) ∧ wr.cell? ⟨D, 0, none⟩ = some (.pointer (some ⟨C, 0, none⟩))) (fun i _ => qn - (RowKit.intOf i).toNat)
      case atStart => exact ⟨0, _, Nat.zero_le _, rfl, HC0, HBW0, HNB.out.1, HNB.out.2.1, HNB.out.2.2⟩
      case round =>
        clear HC0 HBW0 HNB
        obtain ⟨j, vp, hj, rfl, HC, HBW, n0, n1, b5⟩ := hrel
        have ln := ltb n0
        have ld := ltb b5
        by_cases hlt : j < qn
        · obtain ⟨qb, qo, hAq, hqb, hqc⟩ := (HQ.out.below' HBW.out) (by rw [← HQN.out]; omega)
          subst hAq
          obtain ⟨d0, d1⟩ := hqc j (by rw [← HQN.out]; exact hlt)
          clear hqc
          have hmem : gtP q j ∈ q := gtP_mem (by rw [← HQN.out]; exact hlt)
          have HP := Lib.hid (HQQ.out _ hmem)
          have HTK := Lib.hid (show aqS (mkS S (2 * m)).1 (q.take (j + 1)) = adP (aqS (mkS S (2 * m)).1 (q.take j)) (gtP q j) by rw [take_succP (by rw [← HQN.out]; exact hlt), aqS_snoc])
          obtain ⟨p, hp⟩ : ∃ p, p = gtP q j := ⟨_, rfl⟩
          rw [← hp] at d0 d1 HP HTK
          have hlen : (aqS (mkS S (2 * m)).1 (q.take j)).length ≤ 200 := by
            obtain ⟨x, e, hx⟩ := aqS_app (mkS S (2 * m)).1 (q.take j)
            have h5 : (q.take j).length ≤ j := by simp [List.length_take]; omega
            rw [e, List.length_append]; omega
          obtain ⟨l, hl0⟩ : ∃ l, l = aqS (mkS S (2 * m)).1 (q.take j) := ⟨_, rfl⟩
          rw [← hl0] at HC HTK hlen
          clear hp hl0 hmem
          go_wp2_with fail
          obtain ⟨X2, hX2⟩ : ∃ X2, X2 = wr.alloc (Obj.cells #[.int .i64 p.1, .int .i64 p.2] 69) := ⟨_, rfl⟩
          have BX : Bl wr X2 := by rw [hX2]; go_grown
          have n0 := kcb BX n0
          have n1 := kcb BX n1
          have b5 := kcb BX b5
          have HC2 := Lib.hid (HC.out.below BX)
          have HB2 := Lib.hid (HBW.out.tr BX)
          rw [← hX2]
          clear hX2 BX
          refine (numberS_any C M l _ vp vs p _ HC2.out (HP.out.rng (by omega)).1 (HP.out.rng (by omega)).2 (by omega)).mono ?_
          rintro e2 w2 ⟨rfl, vp2, hc2, hx2⟩
          have HOV := Lib.hid (show ∀ g, vp.ownBlock = some g → C + 2 ≤ g from fun g e => (HC2.out.rp.lt g e).1)
          have n0 := hx2.cell (by omega) (by omega) (fun e => by have := (HOV.out _ e.symm); omega) n0
          have n1 := hx2.cell (by omega) (by omega) (fun e => by have := (HOV.out _ e.symm); omega) n1
          have b5 := hx2.cell (by omega) (by omega) (fun e => by have := (HOV.out _ e.symm); omega) b5
          have HB3 := Lib.hid (Exc.bl HB2.out hx2 (by omega) h2 (fun g e => HOV.out g e))
          have HC3 := Lib.hid (show ChB w2 C M (aqS (mkS S (2 * m)).1 (q.take (j + 1))) (mkS S (2 * m)).2 vp2 vs by rw [HTK.out]; exact hc2)
          clear hx2 hc2 HC2 HB2
          go_wp2_with fail
          go_roundw
          case rel => exact ⟨j + 1, vp2, by omega, by go_num, HC3, HB3, n0, n1, b5⟩
          case measure => simp [RowKit.intOf]; omega
        · obtain rfl : j = qn := by omega
          have HC1 := Lib.hid (show ChB wr C M (ptsC S m q) (mkS S (2 * m)).2 vp vs by have := HC.out; rw [HQN.out, List.take_length] at this; exact this)
          go_wp2_with fail
          refine (carries_any C A n c _).mono ?_
          rintro e3 w3 ⟨rfl, rfl⟩
          go_wp2_with fail
          obtain ⟨A2, c2', rfl, hc2'⟩ := own_shapeS HC1.out.rp
          obtain ⟨l, hl0⟩ : ∃ l, l = ptsC S m q := ⟨_, rfl⟩
          have HPT := Lib.hid (ptsC_ok HV.out HQQ.out)
          have HLN := Lib.hid (ptsC_len S m q)
          have HST := Lib.hid (show stpC R S m q = (mkS S (2 * m)).2 ++ crO R (gtP (ptsC S m q)) (ptsC S m q).length (ptsC S m q).length from rfl)
          have HES := Lib.hid (mkS_len S (2 * m)).2
          have HL0 := Lib.hid hl0
          rw [← hl0] at HC1 HPT HLN HST
          obtain ⟨s, hs0⟩ : ∃ s, s = (mkS S (2 * m)).2 := ⟨_, rfl⟩
          rw [← hs0] at HC1 HST HES
          clear HC hl0 hs0
          obtain ⟨W0, hW0⟩ : ∃ W0, W0 = (wr.alloc (Obj.cells #[Value.pointer (some ⟨C, 0, none⟩)] 53)).alloc (Obj.cells #[Value.slice A n c] 24) := ⟨_, rfl⟩
          have B0 : Bl wr W0 := by rw [hW0]; go_grown
          have HCF := Lib.hid (show CF wr.heap.size (wr.heap.size + 1) C A n c R A2 l.length c2' (gtP l) W0 from
            ⟨by rw [hW0]; go_cell, by rw [hW0]; go_cell, kcb B0 HC1.out.c0, ptl_of_row (HC1.out.below B0).rp, HA.out.below (HBW.out.tr B0)⟩)
          have zW0 : W0.heap.size = wr.heap.size + 2 := by rw [hW0]; simp
          have HC2 := Lib.hid (HC1.out.below B0)
          have HB2 := Lib.hid (HBW.out.tr B0)
          have b5 := kcb B0 b5
          have HOV := Lib.hid (show ∀ g, vs.ownBlock = some g → C + 2 ≤ g ∧ g < wr.heap.size from fun g e => HC1.out.rs.lt g e)
          have HOP := Lib.hid (show ∀ g, (Value.slice A2 l.length c2').ownBlock = some g → C + 2 ≤ g ∧ g < wr.heap.size from fun g e => HC1.out.rp.lt g e)
          have hCr : C + 2 ≤ wr.heap.size := HC1.out.sz
          have hAb : ∀ k, InK A k → k < w.heap.size := fun k ⟨a, e, ek⟩ => by
            obtain ⟨b', off', e', hlt', _⟩ := HA.out (by have := HV.out.n2; omega)
            rw [e] at e'; cases e'; rw [← ek]; exact hlt'
          have HAB := Lib.hid hAb
          rw [← hW0]
          clear hW0 HC1 HBW B0 hAb n0 n1 ln ld
          obtain ⟨T1, hT1⟩ : ∃ T1, T1 = wr.heap.size := ⟨_, rfl⟩
          rw [← hT1] at HCF zW0 HOV HOP hCr ⊢
          clear hT1
          refine (wpIn_wide (n := 5)).1 ?_
          refine loopO rfl (by omega) (gf := 40) (lb := #[.pointer (some ⟨T1, 0, none⟩), .pointer (some ⟨T1 + 1, 0, none⟩)]) rfl trivial (enters_of Try.func40 (by kernel_rfl) rfl)
            (carries_seq T1 (T1 + 1) C A n c R A2 l.length c2' (gtP l) W0 HCF.out hn8 (by have := HLN.out; have := HQN.out; omega) HV.out.ra (fun j hj => HPT.out _ (gtP_mem hj)))
            KpC.trans (fun W k o hk _ => KpC.put (n₀ := W0.heap.size) (fun i hi => by
              rcases hi with rfl | rfl | h | ⟨a, e, ek⟩
              · omega
              · omega
              · have := HAB.out _ h; omega
              · have := HOP.out i (by rw [e, ← ek]; rfl); omega) (by omega) W k o hk) (Below.refl _ _) (fun _ => rfl)
            (fun x X Y h hk => trivial)
            (fun pre O W' => ∃ v, ChB W' C M l (s ++ pre) (.slice A2 l.length c2') v ∧ Bl w W' ∧ W'.cell? ⟨D, 0, none⟩ = some (.pointer (some ⟨C, 0, none⟩)) ∧ (∀ g, v.ownBlock = some g → (C + 2 ≤ g ∧ g < T1) ∨ O g) ∧ pre.length ≤ 20000)
            (fun pre O W' => False)
            ?hI (fun s O X Y h hb hO => h) ⟨vs, by rw [List.append_nil]; exact HC2.out, HB2.out, b5, fun g e => .inl (HOV.out g e), by simp⟩
            (fun x Wb a' X => ∃ g, Wb.heap.size ≤ g ∧ a' = { tmps := #[encN A n c B m d, Value.slice Aq j cq, Value.pointer (some ⟨N, 0, none⟩), undef, Value.pointer none, Value.pointer (some ⟨D, 0, none⟩), u6, u7, u8, u9, u10, u11, undef, u13, Value.pointer (some ⟨g, 0, none⟩), Value.map (some M), Value.agg #[Value.slice none 0 0, Value.map (some M), Value.slice none 0 0], Value.pointer (some ⟨C, 0, none⟩), Value.pointer (some ⟨N, 1, none⟩), Value.slice B m d, Value.int IntKind.i64 ↑m, Value.int IntKind.i64 (2 * ↑m), Value.int IntKind.i64 (2 * ↑m), Value.bool false, u24, u25, u26, u27, u28, u29, u30, u31, u32, u33, u34, u35, u36, u37, u38, u39, u40, u41, u42, u43, u44, u45, u46, u47, u48, u49, u50, u51, u52, Value.slice Aq j cq, Value.int IntKind.i64 ↑j, Value.int IntKind.i64 ↑j, Value.bool false, u57, u58, u59, u60, u61, u62, Value.pointer (some ⟨C, 0, none⟩), Value.pointer (some ⟨N, 0, none⟩), Value.slice A n c, Value.func (Fn.func 40) #[] #[Value.pointer (some ⟨T1, 0, none⟩), Value.pointer (some ⟨T1 + 1, 0, none⟩)], .agg #[.int .i64 (x.fr : Int), .int .i64 (x.to : Int), .int .i64 x.co, .int .i64 x.no], undef, undef, undef, undef, undef, undef, undef, undef, undef, undef, undef], defers := [] } ∧ X.cell? ⟨g, 0, none⟩ = some (.int .i64 (x.fr : Int)) ∧ X.cell? ⟨g, 1, none⟩ = some (.int .i64 (x.to : Int)) ∧ X.cell? ⟨g, 2, none⟩ = some (.int .i64 x.co) ∧ X.cell? ⟨g, 3, none⟩ = some (.int .i64 x.no))
            ?hA ?assign ?body ?done ?stop
          case hI =>
            rintro pre O X Y ⟨v, hc, hb, b5, hov, hlen⟩ hbY hOY
            refine ⟨v, hc.same hbY.size (hbY.block C (by omega)) (hbY.block M (by omega)) (fun g e => hbY.block g (by have := HOP.out g e; omega)) (fun g e => ?_), Below.trans hb (hbY.mono (by omega)), (hbY.cell (p := ⟨D, 0, none⟩) (by show D < _; omega)).trans b5, hov, hlen⟩
            rcases hov g e with h | h
            · exact hbY.block g (by omega)
            · exact hOY g h
          case hA =>
            rintro x Wb a' X k o ⟨g, h0, rfl, e0, e1, e2, e3⟩ hk ⟨o', ho, hoc⟩
            have kk : ∀ {b i : Nat} {v : Value}, X.cell? ⟨b, i, none⟩ = some v → (X.putObj k o).cell? ⟨b, i, none⟩ = some v := fun h => cell_kept h (grownBy_putObj' _ k o) (fun r e => by cases e; exact ⟨_, ho, hoc⟩)
            exact ⟨g, by simpa using h0, rfl, kk e0, kk e1, kk e2, kk e3⟩
          case assign =>
            intro k x Wb K hz hK
            unfold encE
            gi_wp2
            exact hK _ _ (by go_grown) ⟨Wb.heap.size, Nat.le_refl _, rfl, by go_cell, by go_cell, by go_cell, by go_cell⟩
          case body =>
            rintro k pre x O a' Wb X hk ⟨rr, hr⟩ ⟨v, hc, hb, b5, hov, hlen⟩ hO hat hG hX ⟨g, hg, rfl, e0, e1, e2, e3⟩ hpl
            obtain ⟨A3, c3, rfl, hc3⟩ := own_shapeS hc.rs
            have HSX := Lib.hid (show s ++ (pre ++ [x]) = (s ++ pre) ++ [x] by rw [List.append_assoc])
            have hLL : (s ++ pre).length ≤ 20100 := by rw [List.length_append, HES.out]; omega
            obtain ⟨L, hL⟩ : ∃ L, L = s ++ pre := ⟨_, rfl⟩
            rw [← hL] at hc hov HSX hLL
            clear hL
            have HVO := Lib.hid hov
            have HOO := Lib.hid hO
            have HHC := Lib.hid hc
            have HHB := Lib.hid hb
            have HHX := Lib.hid hX
            have HCX := Lib.hid (hc.below hX)
            have b5X := kcb hX b5
            have c2X := HCX.out.c2
            have f2X := HCX.out.f2
            have zX := hX.size
            have BA : Bl X (X.drew.alloc (.cells #[.int .i64 (x.fr : Int), .int .i64 (x.to : Int), .int .i64 x.co, .int .i64 x.no] 74)) := Bl.tr (bl_drS _) (by go_grown)
            have HC5 := Lib.hid (HCX.out.below BA)
            have zB : W0.heap.size ≤ Wb.heap.size := by have := (Array.getElem?_eq_some_iff.1 hr).1; omega
            obtain ⟨gg, cap, w9, hrun, hown9, hgrow, hat9, hlt9⟩ := run_append_lies (P := Try.prog) (X.drew.alloc (.cells #[.int .i64 (x.fr : Int), .int .i64 (x.to : Int), .int .i64 x.co, .int .i64 x.no] 74)) 65 65 (C + 2) 74 i0 _ 4 32 Try.underlying65 HI.out.1 HI.out.2.1 HI.out.2.2.1 HI.out.2.2.2 rfl (by omega) _ L.length (edC L) HC5.out.rs ⟨X.heap.size, 0, none⟩ 1 1 [.int .i64 (x.fr : Int), .int .i64 (x.to : Int), .int .i64 x.co, .int .i64 x.no] rfl (World.news_of_block (cs := #[.int .i64 (x.fr : Int), .int .i64 (x.to : Int), .int .i64 x.co, .int .i64 x.no]) (t := 74) (fr := (0, 0)) (heap_alloc_new X.drew _)) (by simp [Value.oneCell']) (by omega) (by unfold maxLen; omega) (by omega) (by have := HC5.out.sz; omega) _ rfl
            have hrun2 : Sem.run Try.prog (Builtin.append_ #[65, 65] 65 #[Value.slice A3 L.length c3, Value.slice (some ⟨X.heap.size, 0, none⟩) 1 1]) (X.alloc (.cells #[.int .i64 (x.fr : Int), .int .i64 (x.to : Int), .int .i64 x.co, .int .i64 x.no] 74)).drew = .ok (Value.slice (some ⟨gg, 0, none⟩) (L.length + 1) cap) w9 := hrun
            have HVN := Lib.hid (show ∀ g, (Value.slice A3 L.length c3).ownBlock = some g → C + 2 ≤ g from fun g e => (HC5.out.rs.lt g e).1)
            have k2 := (hgrow.cell_far ⟨C, 2, none⟩ (ltb HC5.out.c2) (fun e => by have e' : C + 2 ≤ C := HVN.out _ e.symm; omega)).trans HC5.out.c2
            have kf := (hgrow.frozen_far ⟨C, 2, none⟩ (ltb HC5.out.c2) (fun e => by have e' : C + 2 ≤ C := HVN.out _ e.symm; omega)).trans HC5.out.f2
            have k5 := (hgrow.cell_far ⟨D, 0, none⟩ (ltb (kcb BA b5X)) (fun e => by have e' : C + 2 ≤ D := HVN.out _ e.symm; omega)).trans (kcb BA b5X)
            have lk2 := ltb k2
            have lk5 := ltb k5
            have lc2 := ltb c2X
            have lb5 := ltb b5X
            have le0 := ltb e0
            have HBA := Lib.hid BA
            have HGR := Lib.hid hgrow
            have HOW := Lib.hid hown9
            have HAT := Lib.hid hat9
            have zw9 := hgrow.size
            rw [World.size_alloc] at zw9
            clear BA hgrow hown9 hat9 hc hb hX hov hO hG hat HI
            have LEAF : ∀ a : Act, postO W0.heap.size (fun _ _ => False) (KpC (CK T1 (T1 + 1) A A2) C) (fun (pre : List Edg) O W' => ∃ v, ChB W' C M l (s ++ pre) (.slice A2 l.length c2') v ∧ Bl w W' ∧ W'.cell? ⟨D, 0, none⟩ = some (.pointer (some ⟨C, 0, none⟩)) ∧ (∀ g, v.ownBlock = some g → (C + 2 ≤ g ∧ g < T1) ∨ O g) ∧ pre.length ≤ 20000) (fun _ _ _ => False) pre x O Wb .normal a (w9.setCell ⟨C, 2, none⟩ (.slice (some ⟨gg, 0, none⟩) (L.length + 1) cap)) := by
              intro a
              have hgg := HOW.out.lt gg rfl
              have zX1 := HHX.out.size
              have hv2 : ∀ g, (Value.slice A3 L.length c3).ownBlock = some g → (C + 2 ≤ g ∧ g < T1) ∨ O g := HVO.out
              have hk9 : ∀ i, i < Wb.heap.size → i ≠ C → (Value.slice A3 L.length c3).ownBlock ≠ some i → (w9.setCell ⟨C, 2, none⟩ (.slice (some ⟨gg, 0, none⟩) (L.length + 1) cap)).heap[i]? = Wb.heap[i]? := fun i h1 h2 h3 =>
                (Below.heap_setCell _ _ _ i (by show i ≠ C; exact h2)).trans ((HGR.out.block i (by rw [World.size_alloc]; show i < X.heap.size + 1; omega) (fun e => h3 e.symm)).trans ((HBA.out.block i (by omega)).trans (HHX.out.block i h1)))
              have z9 : (w9.setCell ⟨C, 2, none⟩ (.slice (some ⟨gg, 0, none⟩) (L.length + 1) cap)).heap.size = w9.heap.size := by simp
              have zw9' : X.heap.size + 1 ≤ w9.heap.size := by have := zw9; simpa using this
              have HC9 := HC5.out.push_e (e := x) HOW.out HGR.out HAT.out
              rw [← HSX.out] at HC9
              refine ⟨fun i => O i ∨ (i = gg ∧ W0.heap.size ≤ i), fun i hi => ⟨?_, ?_⟩, ⟨by rw [z9]; omega, fun i h1 h2 h3 => hk9 i h2 (by omega) (fun e => ?_)⟩, ⟨by rw [z9]; omega, fun i hi => hk9 i ?_ ?_ ?_, fun u hu => ?_⟩, _, HC9, ?_, ?_, ?_, ?_⟩
              · rcases hi with h | ⟨rfl, h⟩
                · exact .inl h
                · rcases HAT.out with q | q
                  · rcases hv2 i q with r | r
                    · omega
                    · exact .inl r
                  · right; right
                    have q' : i = X.heap.size + 1 := by have := q; simpa using this
                    omega
              · rw [z9]
                rcases hi with h | ⟨rfl, h⟩
                · have := (HOO.out i h).2; omega
                · exact hgg.2
              · rcases hv2 i e with r | r
                · omega
                · exact h3 (.inl r)
              · rcases hi with rfl | rfl | h | ⟨q, e, ek⟩
                · omega
                · omega
                · have := HAB.out _ h; have := HB2.out.size; omega
                · have := HOP.out i (by rw [e, ← ek]; rfl); omega
              · rcases hi with rfl | rfl | h | ⟨q, e, ek⟩
                · omega
                · omega
                · have := HAB.out _ h; omega
                · have := HOP.out i (by rw [e, ← ek]; rfl); omega
              · intro e2
                have e3 := hv2 i e2
                rcases hi with rfl | rfl | h | ⟨q, e, ek⟩
                · rcases e3 with r | r
                  · omega
                  · have := (HOO.out _ r).1; omega
                · rcases e3 with r | r
                  · omega
                  · have := (HOO.out _ r).1; omega
                · have := HAB.out _ h
                  rcases e3 with r | r
                  · omega
                  · have := (HOO.out _ r).1; omega
                · exact HHC.out.ne i (by rw [e, ← ek]; rfl) e2
              · rw [HHC.out.c0] at hu
                rw [← hu]
                exact HC9.c0
              · exact bl_set (bl_grow ((HHB.out.tr HHX.out).tr HBA.out) HGR.out (fun g e => by have := HVN.out g e; omega)) (by omega)
              · exact cell_setO k5 (by omega)
              · intro g e
                obtain rfl : gg = g := by simpa [Value.ownBlock] using e
                rcases HAT.out with q | q
                · rcases hv2 gg q with r | r
                  · exact .inl r
                  · exact .inr (.inl r)
                · right; right
                  have q' : gg = X.heap.size + 1 := by have := q; simpa using this
                  exact ⟨rfl, by omega⟩
              · rw [List.length_append, List.length_singleton]; omega
            gi_wp2_with fail
            refine wpIn_region_any (by kernel_rfl) ?_
            try (change wpAnyIn _ _ _ _ _ _ _ _ _ (World.drew _))
            refine wpAnyIn_ready (rs := [0, 1, 5]) (by kernel_rfl) (by simp) ?_
            refine AllReadyIn.cons rfl (fun K hK => ?_) ?_
            go_simp
            refine hK _ _ ?_; clear hK K
            refine wpAnyIn_ready (rs := [1, 5]) (by kernel_rfl) (by simp) ?_
            refine AllReadyIn.cons rfl (fun K hK => ?_) ?_
            go_simp
            refine hK _ _ ?_; clear hK K
            refine wpAnyIn_ready (rs := [2, 5]) (by kernel_rfl) (by simp) ?_
            refine AllReadyIn.cons rfl (fun K hK => ?_) ?_
            go_simp
            refine hK _ _ ?_; clear hK K
            refine wpAnyIn_ready (rs := [3, 5]) (by kernel_rfl) (by simp) ?_
            refine AllReadyIn.cons rfl (fun K hK => ?_) ?_
            go_simp
            refine hK _ _ ?_; clear hK K
            refine wpAnyIn_ready (rs := [4, 5]) (by kernel_rfl) (by simp) ?_
            refine AllReadyIn.cons rfl (fun K hK => ?_) ?_
            go_simp
            refine hK _ _ ?_; clear hK K
            refine wpAnyIn_ready (rs := [5]) (by kernel_rfl) (by simp) ?_
            refine AllReadyIn.cons rfl (fun K hK => ?_) ?_
            go_simp
            refine hK _ _ ?_; clear hK K
            refine wpAnyIn_ready (rs := [6]) (by kernel_rfl) (by simp) ?_
            refine AllReadyIn.cons rfl (fun K hK => ?_) ?_
            go_simp
            refine hK _ _ ?_; clear hK K
            refine wpAnyIn_ready (rs := [7]) (by kernel_rfl) (by simp) ?_
            refine AllReadyIn.cons rfl (fun K hK => ?_) ?_
            refine stepIn_run (by rfl) (fun _ => trivial) _ _ (by rfl) _ _ (by rfl) (by rfl) hrun ?_
            refine hK _ _ ?_; clear hK K
            refine wpAnyIn_ready (rs := [8]) (by kernel_rfl) (by simp) ?_
            refine AllReadyIn.cons rfl (fun K hK => ?_) ?_
            go_simp
            refine hK _ _ ?_; clear hK K
            refine wpAnyIn_ready (rs := [9]) (by kernel_rfl) (by simp) ?_
            refine AllReadyIn.cons rfl (fun K hK => ?_) ?_
            go_simp
            refine hK _ _ ?_; clear hK K
            refine wpAnyIn_ready (rs := [10]) (by kernel_rfl) (by simp) ?_
            refine AllReadyIn.cons rfl (fun K hK => ?_) ?_
            go_simp
            refine hK _ _ ?_; clear hK K
            refine wpAnyIn_done (by kernel_rfl) ?_ _; exact LEAF ⟨#[], []⟩
            exact AllReadyIn.nil
            exact AllReadyIn.nil
            exact AllReadyIn.nil
            exact AllReadyIn.nil
            exact AllReadyIn.nil
            exact AllReadyIn.nil
            refine AllReadyIn.cons rfl (fun K hK => ?_) ?_
            go_simp
            refine hK _ _ ?_; clear hK K
            refine wpAnyIn_ready (rs := [4, 6]) (by kernel_rfl) (by simp) ?_
            refine AllReadyIn.cons rfl (fun K hK => ?_) ?_
            go_simp
            refine hK _ _ ?_; clear hK K
            refine wpAnyIn_ready (rs := [6]) (by kernel_rfl) (by simp) ?_
            refine AllReadyIn.cons rfl (fun K hK => ?_) ?_
            go_simp
            refine hK _ _ ?_; clear hK K
            refine wpAnyIn_ready (rs := [7]) (by kernel_rfl) (by simp) ?_
            refine AllReadyIn.cons rfl (fun K hK => ?_) ?_
            refine stepIn_run (by rfl) (fun _ => trivial) _ _ (by rfl) _ _ (by rfl) (by rfl) hrun ?_
            refine hK _ _ ?_; clear hK K
            refine wpAnyIn_ready (rs := [8]) (by kernel_rfl) (by simp) ?_
            refine AllReadyIn.cons rfl (fun K hK => ?_) ?_
            go_simp
            refine hK _ _ ?_; clear hK K
            refine wpAnyIn_ready (rs := [9]) (by kernel_rfl) (by simp) ?_
            refine AllReadyIn.cons rfl (fun K hK => ?_) ?_
            go_simp
            refine hK _ _ ?_; clear hK K
            refine wpAnyIn_ready (rs := [10]) (by kernel_rfl) (by simp) ?_
            refine AllReadyIn.cons rfl (fun K hK => ?_) ?_
            go_simp
            refine hK _ _ ?_; clear hK K
            refine wpAnyIn_done (by kernel_rfl) ?_ _; exact LEAF ⟨#[], []⟩
            exact AllReadyIn.nil
            exact AllReadyIn.nil
            exact AllReadyIn.nil
            exact AllReadyIn.nil
            exact AllReadyIn.nil
            refine AllReadyIn.cons rfl (fun K hK => ?_) ?_
            go_simp
            refine hK _ _ ?_; clear hK K
            refine wpAnyIn_ready (rs := [4]) (by kernel_rfl) (by simp) ?_
            refine AllReadyIn.cons rfl (fun K hK => ?_) ?_
            go_simp
            refine hK _ _ ?_; clear hK K
            refine wpAnyIn_ready (rs := [7]) (by kernel_rfl) (by simp) ?_
            refine AllReadyIn.cons rfl (fun K hK => ?_) ?_
            refine stepIn_run (by rfl) (fun _ => trivial) _ _ (by rfl) _ _ (by rfl) (by rfl) hrun ?_
            refine hK _ _ ?_; clear hK K
            refine wpAnyIn_ready (rs := [8]) (by kernel_rfl) (by simp) ?_
            refine AllReadyIn.cons rfl (fun K hK => ?_) ?_
            go_simp
            refine hK _ _ ?_; clear hK K
            refine wpAnyIn_ready (rs := [9]) (by kernel_rfl) (by simp) ?_
            refine AllReadyIn.cons rfl (fun K hK => ?_) ?_
            go_simp
            refine hK _ _ ?_; clear hK K
            refine wpAnyIn_ready (rs := [10]) (by kernel_rfl) (by simp) ?_
            refine AllReadyIn.cons rfl (fun K hK => ?_) ?_
            go_simp
            refine hK _ _ ?_; clear hK K
            refine wpAnyIn_done (by kernel_rfl) ?_ _; exact LEAF ⟨#[], []⟩
            exact AllReadyIn.nil
            exact AllReadyIn.nil
            exact AllReadyIn.nil
            exact AllReadyIn.nil
            exact AllReadyIn.nil
            exact AllReadyIn.nil
            exact AllReadyIn.nil
            refine AllReadyIn.cons rfl (fun K hK => ?_) ?_
            go_simp
            refine hK _ _ ?_; clear hK K
            refine wpAnyIn_ready (rs := [3, 6]) (by kernel_rfl) (by simp) ?_
            refine AllReadyIn.cons rfl (fun K hK => ?_) ?_
            go_simp
            refine hK _ _ ?_; clear hK K
            refine wpAnyIn_ready (rs := [4, 6]) (by kernel_rfl) (by simp) ?_
            refine AllReadyIn.cons rfl (fun K hK => ?_) ?_
            go_simp
            refine hK _ _ ?_; clear hK K
            refine wpAnyIn_ready (rs := [6]) (by kernel_rfl) (by simp) ?_
            refine AllReadyIn.cons rfl (fun K hK => ?_) ?_
            go_simp
            refine hK _ _ ?_; clear hK K
            refine wpAnyIn_ready (rs := [7]) (by kernel_rfl) (by simp) ?_
            refine AllReadyIn.cons rfl (fun K hK => ?_) ?_
            refine stepIn_run (by rfl) (fun _ => trivial) _ _ (by rfl) _ _ (by rfl) (by rfl) hrun ?_
            refine hK _ _ ?_; clear hK K
            refine wpAnyIn_ready (rs := [8]) (by kernel_rfl) (by simp) ?_
            refine AllReadyIn.cons rfl (fun K hK => ?_) ?_
            go_simp
            refine hK _ _ ?_; clear hK K
            refine wpAnyIn_ready (rs := [9]) (by kernel_rfl) (by simp) ?_
            refine AllReadyIn.cons rfl (fun K hK => ?_) ?_
            go_simp
            refine hK _ _ ?_; clear hK K
            refine wpAnyIn_ready (rs := [10]) (by kernel_rfl) (by simp) ?_
            refine AllReadyIn.cons rfl (fun K hK => ?_) ?_
            go_simp
            refine hK _ _ ?_; clear hK K
            refine wpAnyIn_done (by kernel_rfl) ?_ _; exact LEAF ⟨#[], []⟩
            exact AllReadyIn.nil
            exact AllReadyIn.nil
            exact AllReadyIn.nil
            exact AllReadyIn.nil
            exact AllReadyIn.nil
            refine AllReadyIn.cons rfl (fun K hK => ?_) ?_
            go_simp
            refine hK _ _ ?_; clear hK K
            refine wpAnyIn_ready (rs := [4]) (by kernel_rfl) (by simp) ?_
            refine AllReadyIn.cons rfl (fun K hK => ?_) ?_
            go_simp
            refine hK _ _ ?_; clear hK K
            refine wpAnyIn_ready (rs := [7]) (by kernel_rfl) (by simp) ?_
            refine AllReadyIn.cons rfl (fun K hK => ?_) ?_
            refine stepIn_run (by rfl) (fun _ => trivial) _ _ (by rfl) _ _ (by rfl) (by rfl) hrun ?_
            refine hK _ _ ?_; clear hK K
            refine wpAnyIn_ready (rs := [8]) (by kernel_rfl) (by simp) ?_
            refine AllReadyIn.cons rfl (fun K hK => ?_) ?_
            go_simp
            refine hK _ _ ?_; clear hK K
            refine wpAnyIn_ready (rs := [9]) (by kernel_rfl) (by simp) ?_
            refine AllReadyIn.cons rfl (fun K hK => ?_) ?_
            go_simp
            refine hK _ _ ?_; clear hK K
            refine wpAnyIn_ready (rs := [10]) (by kernel_rfl) (by simp) ?_
            refine AllReadyIn.cons rfl (fun K hK => ?_) ?_
            go_simp
            refine hK _ _ ?_; clear hK K
            refine wpAnyIn_done (by kernel_rfl) ?_ _; exact LEAF ⟨#[], []⟩
            exact AllReadyIn.nil
            exact AllReadyIn.nil
            exact AllReadyIn.nil
            exact AllReadyIn.nil
            exact AllReadyIn.nil
            exact AllReadyIn.nil
            refine AllReadyIn.cons rfl (fun K hK => ?_) ?_
            go_simp
            refine hK _ _ ?_; clear hK K
            refine wpAnyIn_ready (rs := [3]) (by kernel_rfl) (by simp) ?_
            refine AllReadyIn.cons rfl (fun K hK => ?_) ?_
            go_simp
            refine hK _ _ ?_; clear hK K
            refine wpAnyIn_ready (rs := [4]) (by kernel_rfl) (by simp) ?_
            refine AllReadyIn.cons rfl (fun K hK => ?_) ?_
            go_simp
            refine hK _ _ ?_; clear hK K
            refine wpAnyIn_ready (rs := [7]) (by kernel_rfl) (by simp) ?_
            refine AllReadyIn.cons rfl (fun K hK => ?_) ?_
            refine stepIn_run (by rfl) (fun _ => trivial) _ _ (by rfl) _ _ (by rfl) (by rfl) hrun ?_
            refine hK _ _ ?_; clear hK K
            refine wpAnyIn_ready (rs := [8]) (by kernel_rfl) (by simp) ?_
            refine AllReadyIn.cons rfl (fun K hK => ?_) ?_
            go_simp
            refine hK _ _ ?_; clear hK K
            refine wpAnyIn_ready (rs := [9]) (by kernel_rfl) (by simp) ?_
            refine AllReadyIn.cons rfl (fun K hK => ?_) ?_
            go_simp
            refine hK _ _ ?_; clear hK K
            refine wpAnyIn_ready (rs := [10]) (by kernel_rfl) (by simp) ?_
            refine AllReadyIn.cons rfl (fun K hK => ?_) ?_
            go_simp
            refine hK _ _ ?_; clear hK K
            refine wpAnyIn_done (by kernel_rfl) ?_ _; exact LEAF ⟨#[], []⟩
            exact AllReadyIn.nil
            exact AllReadyIn.nil
            exact AllReadyIn.nil
            exact AllReadyIn.nil
            exact AllReadyIn.nil
            exact AllReadyIn.nil
            exact AllReadyIn.nil
            exact AllReadyIn.nil
            refine AllReadyIn.cons rfl (fun K hK => ?_) ?_
            go_simp
            refine hK _ _ ?_; clear hK K
            refine wpAnyIn_ready (rs := [2, 6]) (by kernel_rfl) (by simp) ?_
            refine AllReadyIn.cons rfl (fun K hK => ?_) ?_
            go_simp
            refine hK _ _ ?_; clear hK K
            refine wpAnyIn_ready (rs := [3, 6]) (by kernel_rfl) (by simp) ?_
            refine AllReadyIn.cons rfl (fun K hK => ?_) ?_
            go_simp
            refine hK _ _ ?_; clear hK K
            refine wpAnyIn_ready (rs := [4, 6]) (by kernel_rfl) (by simp) ?_
            refine AllReadyIn.cons rfl (fun K hK => ?_) ?_
            go_simp
            refine hK _ _ ?_; clear hK K
            refine wpAnyIn_ready (rs := [6]) (by kernel_rfl) (by simp) ?_
            refine AllReadyIn.cons rfl (fun K hK => ?_) ?_
            go_simp
            refine hK _ _ ?_; clear hK K
            refine wpAnyIn_ready (rs := [7]) (by kernel_rfl) (by simp) ?_
            refine AllReadyIn.cons rfl (fun K hK => ?_) ?_
            refine stepIn_run (by rfl) (fun _ => trivial) _ _ (by rfl) _ _ (by rfl) (by rfl) hrun ?_
            refine hK _ _ ?_; clear hK K
            refine wpAnyIn_ready (rs := [8]) (by kernel_rfl) (by simp) ?_
            refine AllReadyIn.cons rfl (fun K hK => ?_) ?_
            go_simp
            refine hK _ _ ?_; clear hK K
            refine wpAnyIn_ready (rs := [9]) (by kernel_rfl) (by simp) ?_
            refine AllReadyIn.cons rfl (fun K hK => ?_) ?_
            go_simp
            refine hK _ _ ?_; clear hK K
            refine wpAnyIn_ready (rs := [10]) (by kernel_rfl) (by simp) ?_
            refine AllReadyIn.cons rfl (fun K hK => ?_) ?_
            go_simp
            refine hK _ _ ?_; clear hK K
            refine wpAnyIn_done (by kernel_rfl) ?_ _; exact LEAF ⟨#[], []⟩
            exact AllReadyIn.nil
            exact AllReadyIn.nil
            exact AllReadyIn.nil
            exact AllReadyIn.nil
            exact AllReadyIn.nil
            refine AllReadyIn.cons rfl (fun K hK => ?_) ?_
            go_simp
            refine hK _ _ ?_; clear hK K
            refine wpAnyIn_ready (rs := [4]) (by kernel_rfl) (by simp) ?_
            refine AllReadyIn.cons rfl (fun K hK => ?_) ?_
            go_simp
            refine hK _ _ ?_; clear hK K
            refine wpAnyIn_ready (rs := [7]) (by kernel_rfl) (by simp) ?_
            refine AllReadyIn.cons rfl (fun K hK => ?_) ?_
            refine stepIn_run (by rfl) (fun _ => trivial) _ _ (by rfl) _ _ (by rfl) (by rfl) hrun ?_
            refine hK _ _ ?_; clear hK K
            refine wpAnyIn_ready (rs := [8]) (by kernel_rfl) (by simp) ?_
            refine AllReadyIn.cons rfl (fun K hK => ?_) ?_
            go_simp
            refine hK _ _ ?_; clear hK K
            refine wpAnyIn_ready (rs := [9]) (by kernel_rfl) (by simp) ?_
            refine AllReadyIn.cons rfl (fun K hK => ?_) ?_
            go_simp
            refine hK _ _ ?_; clear hK K
            refine wpAnyIn_ready (rs := [10]) (by kernel_rfl) (by simp) ?_
            refine AllReadyIn.cons rfl (fun K hK => ?_) ?_
            go_simp
            refine hK _ _ ?_; clear hK K
            refine wpAnyIn_done (by kernel_rfl) ?_ _; exact LEAF ⟨#[], []⟩
            exact AllReadyIn.nil
            exact AllReadyIn.nil
            exact AllReadyIn.nil
            exact AllReadyIn.nil
            exact AllReadyIn.nil
            exact AllReadyIn.nil
            refine AllReadyIn.cons rfl (fun K hK => ?_) ?_
            go_simp
            refine hK _ _ ?_; clear hK K
            refine wpAnyIn_ready (rs := [3]) (by kernel_rfl) (by simp) ?_
            refine AllReadyIn.cons rfl (fun K hK => ?_) ?_
            go_simp
            refine hK _ _ ?_; clear hK K
            refine wpAnyIn_ready (rs := [4]) (by kernel_rfl) (by simp) ?_
            refine AllReadyIn.cons rfl (fun K hK => ?_) ?_
            go_simp
            refine hK _ _ ?_; clear hK K
            refine wpAnyIn_ready (rs := [7]) (by kernel_rfl) (by simp) ?_
            refine AllReadyIn.cons rfl (fun K hK => ?_) ?_
            refine stepIn_run (by rfl) (fun _ => trivial) _ _ (by rfl) _ _ (by rfl) (by rfl) hrun ?_
            refine hK _ _ ?_; clear hK K
            refine wpAnyIn_ready (rs := [8]) (by kernel_rfl) (by simp) ?_
            refine AllReadyIn.cons rfl (fun K hK => ?_) ?_
            go_simp
            refine hK _ _ ?_; clear hK K
            refine wpAnyIn_ready (rs := [9]) (by kernel_rfl) (by simp) ?_
            refine AllReadyIn.cons rfl (fun K hK => ?_) ?_
            go_simp
            refine hK _ _ ?_; clear hK K
            refine wpAnyIn_ready (rs := [10]) (by kernel_rfl) (by simp) ?_
            refine AllReadyIn.cons rfl (fun K hK => ?_) ?_
            go_simp
            refine hK _ _ ?_; clear hK K
            refine wpAnyIn_done (by kernel_rfl) ?_ _; exact LEAF ⟨#[], []⟩
            exact AllReadyIn.nil
            exact AllReadyIn.nil
            exact AllReadyIn.nil
            exact AllReadyIn.nil
            exact AllReadyIn.nil
            exact AllReadyIn.nil
            exact AllReadyIn.nil
            refine AllReadyIn.cons rfl (fun K hK => ?_) ?_
            go_simp
            refine hK _ _ ?_; clear hK K
            refine wpAnyIn_ready (rs := [2]) (by kernel_rfl) (by simp) ?_
            refine AllReadyIn.cons rfl (fun K hK => ?_) ?_
            go_simp
            refine hK _ _ ?_; clear hK K
            refine wpAnyIn_ready (rs := [3]) (by kernel_rfl) (by simp) ?_
            refine AllReadyIn.cons rfl (fun K hK => ?_) ?_
            go_simp
            refine hK _ _ ?_; clear hK K
            refine wpAnyIn_ready (rs := [4]) (by kernel_rfl) (by simp) ?_
            refine AllReadyIn.cons rfl (fun K hK => ?_) ?_
            go_simp
            refine hK _ _ ?_; clear hK K
            refine wpAnyIn_ready (rs := [7]) (by kernel_rfl) (by simp) ?_
            refine AllReadyIn.cons rfl (fun K hK => ?_) ?_
            refine stepIn_run (by rfl) (fun _ => trivial) _ _ (by rfl) _ _ (by rfl) (by rfl) hrun ?_
            refine hK _ _ ?_; clear hK K
            refine wpAnyIn_ready (rs := [8]) (by kernel_rfl) (by simp) ?_
            refine AllReadyIn.cons rfl (fun K hK => ?_) ?_
            go_simp
            refine hK _ _ ?_; clear hK K
            refine wpAnyIn_ready (rs := [9]) (by kernel_rfl) (by simp) ?_
            refine AllReadyIn.cons rfl (fun K hK => ?_) ?_
            go_simp
            refine hK _ _ ?_; clear hK K
            refine wpAnyIn_ready (rs := [10]) (by kernel_rfl) (by simp) ?_
            refine AllReadyIn.cons rfl (fun K hK => ?_) ?_
            go_simp
            refine hK _ _ ?_; clear hK K
            refine wpAnyIn_done (by kernel_rfl) ?_ _; exact LEAF ⟨#[], []⟩
            exact AllReadyIn.nil
            exact AllReadyIn.nil
            exact AllReadyIn.nil
            exact AllReadyIn.nil
            exact AllReadyIn.nil
            exact AllReadyIn.nil
            exact AllReadyIn.nil
            exact AllReadyIn.nil
            exact AllReadyIn.nil
            refine AllReadyIn.cons rfl (fun K hK => ?_) ?_
            go_simp
            refine hK _ _ ?_; clear hK K
            refine wpAnyIn_ready (rs := [1, 6]) (by kernel_rfl) (by simp) ?_
            refine AllReadyIn.cons rfl (fun K hK => ?_) ?_
            go_simp
            refine hK _ _ ?_; clear hK K
            refine wpAnyIn_ready (rs := [2, 6]) (by kernel_rfl) (by simp) ?_
            refine AllReadyIn.cons rfl (fun K hK => ?_) ?_
            go_simp
            refine hK _ _ ?_; clear hK K
            refine wpAnyIn_ready (rs := [3, 6]) (by kernel_rfl) (by simp) ?_
            refine AllReadyIn.cons rfl (fun K hK => ?_) ?_
            go_simp
            refine hK _ _ ?_; clear hK K
            refine wpAnyIn_ready (rs := [4, 6]) (by kernel_rfl) (by simp) ?_
            refine AllReadyIn.cons rfl (fun K hK => ?_) ?_
            go_simp
            refine hK _ _ ?_; clear hK K
            refine wpAnyIn_ready (rs := [6]) (by kernel_rfl) (by simp) ?_
            refine AllReadyIn.cons rfl (fun K hK => ?_) ?_
            go_simp
            refine hK _ _ ?_; clear hK K
            refine wpAnyIn_ready (rs := [7]) (by kernel_rfl) (by simp) ?_
            refine AllReadyIn.cons rfl (fun K hK => ?_) ?_
            refine stepIn_run (by rfl) (fun _ => trivial) _ _ (by rfl) _ _ (by rfl) (by rfl) hrun ?_
            refine hK _ _ ?_; clear hK K
            refine wpAnyIn_ready (rs := [8]) (by kernel_rfl) (by simp) ?_
            refine AllReadyIn.cons rfl (fun K hK => ?_) ?_
            go_simp
            refine hK _ _ ?_; clear hK K
            refine wpAnyIn_ready (rs := [9]) (by kernel_rfl) (by simp) ?_
            refine AllReadyIn.cons rfl (fun K hK => ?_) ?_
            go_simp
            refine hK _ _ ?_; clear hK K
            refine wpAnyIn_ready (rs := [10]) (by kernel_rfl) (by simp) ?_
            refine AllReadyIn.cons rfl (fun K hK => ?_) ?_
            go_simp
            refine hK _ _ ?_; clear hK K
            refine wpAnyIn_done (by kernel_rfl) ?_ _; exact LEAF ⟨#[], []⟩
            exact AllReadyIn.nil
            exact AllReadyIn.nil
            exact AllReadyIn.nil
            exact AllReadyIn.nil
            exact AllReadyIn.nil
            refine AllReadyIn.cons rfl (fun K hK => ?_) ?_
            go_simp
            refine hK _ _ ?_; clear hK K
            refine wpAnyIn_ready (rs := [4]) (by kernel_rfl) (by simp) ?_
            refine AllReadyIn.cons rfl (fun K hK => ?_) ?_
            go_simp
            refine hK _ _ ?_; clear hK K
            refine wpAnyIn_ready (rs := [7]) (by kernel_rfl) (by simp) ?_
            refine AllReadyIn.cons rfl (fun K hK => ?_) ?_
            refine stepIn_run (by rfl) (fun _ => trivial) _ _ (by rfl) _ _ (by rfl) (by rfl) hrun ?_
            refine hK _ _ ?_; clear hK K
            refine wpAnyIn_ready (rs := [8]) (by kernel_rfl) (by simp) ?_
            refine AllReadyIn.cons rfl (fun K hK => ?_) ?_
            go_simp
            refine hK _ _ ?_; clear hK K
            refine wpAnyIn_ready (rs := [9]) (by kernel_rfl) (by simp) ?_
            refine AllReadyIn.cons rfl (fun K hK => ?_) ?_
            go_simp
            refine hK _ _ ?_; clear hK K
            refine wpAnyIn_ready (rs := [10]) (by kernel_rfl) (by simp) ?_
            refine AllReadyIn.cons rfl (fun K hK => ?_) ?_
            go_simp
            refine hK _ _ ?_; clear hK K
            refine wpAnyIn_done (by kernel_rfl) ?_ _; exact LEAF ⟨#[], []⟩
            exact AllReadyIn.nil
            exact AllReadyIn.nil
            exact AllReadyIn.nil
            exact AllReadyIn.nil
            exact AllReadyIn.nil
            exact AllReadyIn.nil
            refine AllReadyIn.cons rfl (fun K hK => ?_) ?_
            go_simp
            refine hK _ _ ?_; clear hK K
            refine wpAnyIn_ready (rs := [3]) (by kernel_rfl) (by simp) ?_
            refine AllReadyIn.cons rfl (fun K hK => ?_) ?_
            go_simp
            refine hK _ _ ?_; clear hK K
            refine wpAnyIn_ready (rs := [4]) (by kernel_rfl) (by simp) ?_
            refine AllReadyIn.cons rfl (fun K hK => ?_) ?_
            go_simp
            refine hK _ _ ?_; clear hK K
            refine wpAnyIn_ready (rs := [7]) (by kernel_rfl) (by simp) ?_
            refine AllReadyIn.cons rfl (fun K hK => ?_) ?_
            refine stepIn_run (by rfl) (fun _ => trivial) _ _ (by rfl) _ _ (by rfl) (by rfl) hrun ?_
            refine hK _ _ ?_; clear hK K
            refine wpAnyIn_ready (rs := [8]) (by kernel_rfl) (by simp) ?_
            refine AllReadyIn.cons rfl (fun K hK => ?_) ?_
            go_simp
            refine hK _ _ ?_; clear hK K
            refine wpAnyIn_ready (rs := [9]) (by kernel_rfl) (by simp) ?_
            refine AllReadyIn.cons rfl (fun K hK => ?_) ?_
            go_simp
            refine hK _ _ ?_; clear hK K
            refine wpAnyIn_ready (rs := [10]) (by kernel_rfl) (by simp) ?_
            refine AllReadyIn.cons rfl (fun K hK => ?_) ?_
            go_simp
            refine hK _ _ ?_; clear hK K
            refine wpAnyIn_done (by kernel_rfl) ?_ _; exact LEAF ⟨#[], []⟩
            exact AllReadyIn.nil
            exact AllReadyIn.nil
            exact AllReadyIn.nil
            exact AllReadyIn.nil
            exact AllReadyIn.nil
            exact AllReadyIn.nil
            exact AllReadyIn.nil
            refine AllReadyIn.cons rfl (fun K hK => ?_) ?_
            go_simp
            refine hK _ _ ?_; clear hK K
            refine wpAnyIn_ready (rs := [2]) (by kernel_rfl) (by simp) ?_
            refine AllReadyIn.cons rfl (fun K hK => ?_) ?_
            go_simp
            refine hK _ _ ?_; clear hK K
            refine wpAnyIn_ready (rs := [3]) (by kernel_rfl) (by simp) ?_
            refine AllReadyIn.cons rfl (fun K hK => ?_) ?_
            go_simp
            refine hK _ _ ?_; clear hK K
            refine wpAnyIn_ready (rs := [4]) (by kernel_rfl) (by simp) ?_
            refine AllReadyIn.cons rfl (fun K hK => ?_) ?_
            go_simp
            refine hK _ _ ?_; clear hK K
            refine wpAnyIn_ready (rs := [7]) (by kernel_rfl) (by simp) ?_
            refine AllReadyIn.cons rfl (fun K hK => ?_) ?_
            refine stepIn_run (by rfl) (fun _ => trivial) _ _ (by rfl) _ _ (by rfl) (by rfl) hrun ?_
            refine hK _ _ ?_; clear hK K
            refine wpAnyIn_ready (rs := [8]) (by kernel_rfl) (by simp) ?_
            refine AllReadyIn.cons rfl (fun K hK => ?_) ?_
            go_simp
            refine hK _ _ ?_; clear hK K
            refine wpAnyIn_ready (rs := [9]) (by kernel_rfl) (by simp) ?_
            refine AllReadyIn.cons rfl (fun K hK => ?_) ?_
            go_simp
            refine hK _ _ ?_; clear hK K
            refine wpAnyIn_ready (rs := [10]) (by kernel_rfl) (by simp) ?_
            refine AllReadyIn.cons rfl (fun K hK => ?_) ?_
            go_simp
            refine hK _ _ ?_; clear hK K
            refine wpAnyIn_done (by kernel_rfl) ?_ _; exact LEAF ⟨#[], []⟩
            exact AllReadyIn.nil
            exact AllReadyIn.nil
            exact AllReadyIn.nil
            exact AllReadyIn.nil
            exact AllReadyIn.nil
            exact AllReadyIn.nil
            exact AllReadyIn.nil
            exact AllReadyIn.nil
            refine AllReadyIn.cons rfl (fun K hK => ?_) ?_
            go_simp
            refine hK _ _ ?_; clear hK K
            refine wpAnyIn_ready (rs := [1]) (by kernel_rfl) (by simp) ?_
            refine AllReadyIn.cons rfl (fun K hK => ?_) ?_
            go_simp
            refine hK _ _ ?_; clear hK K
            refine wpAnyIn_ready (rs := [2]) (by kernel_rfl) (by simp) ?_
            refine AllReadyIn.cons rfl (fun K hK => ?_) ?_
            go_simp
            refine hK _ _ ?_; clear hK K
            refine wpAnyIn_ready (rs := [3]) (by kernel_rfl) (by simp) ?_
            refine AllReadyIn.cons rfl (fun K hK => ?_) ?_
            go_simp
            refine hK _ _ ?_; clear hK K
            refine wpAnyIn_ready (rs := [4]) (by kernel_rfl) (by simp) ?_
            refine AllReadyIn.cons rfl (fun K hK => ?_) ?_
            go_simp
            refine hK _ _ ?_; clear hK K
            refine wpAnyIn_ready (rs := [7]) (by kernel_rfl) (by simp) ?_
            refine AllReadyIn.cons rfl (fun K hK => ?_) ?_
            refine stepIn_run (by rfl) (fun _ => trivial) _ _ (by rfl) _ _ (by rfl) (by rfl) hrun ?_
            refine hK _ _ ?_; clear hK K
            refine wpAnyIn_ready (rs := [8]) (by kernel_rfl) (by simp) ?_
            refine AllReadyIn.cons rfl (fun K hK => ?_) ?_
            go_simp
            refine hK _ _ ?_; clear hK K
            refine wpAnyIn_ready (rs := [9]) (by kernel_rfl) (by simp) ?_
            refine AllReadyIn.cons rfl (fun K hK => ?_) ?_
            go_simp
            refine hK _ _ ?_; clear hK K
            refine wpAnyIn_ready (rs := [10]) (by kernel_rfl) (by simp) ?_
            refine AllReadyIn.cons rfl (fun K hK => ?_) ?_
            go_simp
            refine hK _ _ ?_; clear hK K
            refine wpAnyIn_done (by kernel_rfl) ?_ _; exact LEAF ⟨#[], []⟩
            exact AllReadyIn.nil
            exact AllReadyIn.nil
            exact AllReadyIn.nil
            exact AllReadyIn.nil
            exact AllReadyIn.nil
            exact AllReadyIn.nil
            exact AllReadyIn.nil
            exact AllReadyIn.nil
            exact AllReadyIn.nil
            exact AllReadyIn.nil
            refine AllReadyIn.cons rfl (fun K hK => ?_) ?_
            go_simp
            refine hK _ _ ?_; clear hK K
            refine wpAnyIn_ready (rs := [0, 2, 5]) (by kernel_rfl) (by simp) ?_
            refine AllReadyIn.cons rfl (fun K hK => ?_) ?_
            go_simp
            refine hK _ _ ?_; clear hK K
            refine wpAnyIn_ready (rs := [2, 5]) (by kernel_rfl) (by simp) ?_
            refine AllReadyIn.cons rfl (fun K hK => ?_) ?_
            go_simp
            refine hK _ _ ?_; clear hK K
            refine wpAnyIn_ready (rs := [3, 5]) (by kernel_rfl) (by simp) ?_
            refine AllReadyIn.cons rfl (fun K hK => ?_) ?_
            go_simp
            refine hK _ _ ?_; clear hK K
            refine wpAnyIn_ready (rs := [4, 5]) (by kernel_rfl) (by simp) ?_
            refine AllReadyIn.cons rfl (fun K hK => ?_) ?_
            go_simp
            refine hK _ _ ?_; clear hK K
            refine wpAnyIn_ready (rs := [5]) (by kernel_rfl) (by simp) ?_
            refine AllReadyIn.cons rfl (fun K hK => ?_) ?_
            go_simp
            refine hK _ _ ?_; clear hK K
            refine wpAnyIn_ready (rs := [6]) (by kernel_rfl) (by simp) ?_
            refine AllReadyIn.cons rfl (fun K hK => ?_) ?_
            go_simp
            refine hK _ _ ?_; clear hK K
            refine wpAnyIn_ready (rs := [7]) (by kernel_rfl) (by simp) ?_
            refine AllReadyIn.cons rfl (fun K hK => ?_) ?_
            refine stepIn_run (by rfl) (fun _ => trivial) _ _ (by rfl) _ _ (by rfl) (by rfl) hrun ?_
            refine hK _ _ ?_; clear hK K
            refine wpAnyIn_ready (rs := [8]) (by kernel_rfl) (by simp) ?_
            refine AllReadyIn.cons rfl (fun K hK => ?_) ?_
            go_simp
            refine hK _ _ ?_; clear hK K
            refine wpAnyIn_ready (rs := [9]) (by kernel_rfl) (by simp) ?_
            refine AllReadyIn.cons rfl (fun K hK => ?_) ?_
            go_simp
            refine hK _ _ ?_; clear hK K
            refine wpAnyIn_ready (rs := [10]) (by kernel_rfl) (by simp) ?_
            refine AllReadyIn.cons rfl (fun K hK => ?_) ?_
            go_simp
            refine hK _ _ ?_; clear hK K
            refine wpAnyIn_done (by kernel_rfl) ?_ _; exact LEAF ⟨#[], []⟩
            exact AllReadyIn.nil
            exact AllReadyIn.nil
            exact AllReadyIn.nil
            exact AllReadyIn.nil
            exact AllReadyIn.nil
            exact AllReadyIn.nil
            refine AllReadyIn.cons rfl (fun K hK => ?_) ?_
            go_simp
            refine hK _ _ ?_; clear hK K
            refine wpAnyIn_ready (rs := [4, 6]) (by kernel_rfl) (by simp) ?_
            refine AllReadyIn.cons rfl (fun K hK => ?_) ?_
            go_simp
            refine hK _ _ ?_; clear hK K
            refine wpAnyIn_ready (rs := [6]) (by kernel_rfl) (by simp) ?_
            refine AllReadyIn.cons rfl (fun K hK => ?_) ?_
            go_simp
            refine hK _ _ ?_; clear hK K
            refine wpAnyIn_ready (rs := [7]) (by kernel_rfl) (by simp) ?_
            refine AllReadyIn.cons rfl (fun K hK => ?_) ?_
            refine stepIn_run (by rfl) (fun _ => trivial) _ _ (by rfl) _ _ (by rfl) (by rfl) hrun ?_
            refine hK _ _ ?_; clear hK K
            refine wpAnyIn_ready (rs := [8]) (by kernel_rfl) (by simp) ?_
            refine AllReadyIn.cons rfl (fun K hK => ?_) ?_
            go_simp
            refine hK _ _ ?_; clear hK K
            refine wpAnyIn_ready (rs := [9]) (by kernel_rfl) (by simp) ?_
            refine AllReadyIn.cons rfl (fun K hK => ?_) ?_
            go_simp
            refine hK _ _ ?_; clear hK K
            refine wpAnyIn_ready (rs := [10]) (by kernel_rfl) (by simp) ?_
            refine AllReadyIn.cons rfl (fun K hK => ?_) ?_
            go_simp
            refine hK _ _ ?_; clear hK K
            refine wpAnyIn_done (by kernel_rfl) ?_ _; exact LEAF ⟨#[], []⟩
            exact AllReadyIn.nil
            exact AllReadyIn.nil
            exact AllReadyIn.nil
            exact AllReadyIn.nil
            exact AllReadyIn.nil
            refine AllReadyIn.cons rfl (fun K hK => ?_) ?_
            go_simp
            refine hK _ _ ?_; clear hK K
            refine wpAnyIn_ready (rs := [4]) (by kernel_rfl) (by simp) ?_
            refine AllReadyIn.cons rfl (fun K hK => ?_) ?_
            go_simp
            refine hK _ _ ?_; clear hK K
            refine wpAnyIn_ready (rs := [7]) (by kernel_rfl) (by simp) ?_
            refine AllReadyIn.cons rfl (fun K hK => ?_) ?_
            refine stepIn_run (by rfl) (fun _ => trivial) _ _ (by rfl) _ _ (by rfl) (by rfl) hrun ?_
            refine hK _ _ ?_; clear hK K
            refine wpAnyIn_ready (rs := [8]) (by kernel_rfl) (by simp) ?_
            refine AllReadyIn.cons rfl (fun K hK => ?_) ?_
            go_simp
            refine hK _ _ ?_; clear hK K
            refine wpAnyIn_ready (rs := [9]) (by kernel_rfl) (by simp) ?_
            refine AllReadyIn.cons rfl (fun K hK => ?_) ?_
            go_simp
            refine hK _ _ ?_; clear hK K
            refine wpAnyIn_ready (rs := [10]) (by kernel_rfl) (by simp) ?_
            refine AllReadyIn.cons rfl (fun K hK => ?_) ?_
            go_simp
            refine hK _ _ ?_; clear hK K
            refine wpAnyIn_done (by kernel_rfl) ?_ _; exact LEAF ⟨#[], []⟩
            exact AllReadyIn.nil
            exact AllReadyIn.nil
            exact AllReadyIn.nil
            exact AllReadyIn.nil
            exact AllReadyIn.nil
            exact AllReadyIn.nil
            exact AllReadyIn.nil
            refine AllReadyIn.cons rfl (fun K hK => ?_) ?_
            go_simp
            refine hK _ _ ?_; clear hK K
            refine wpAnyIn_ready (rs := [3, 6]) (by kernel_rfl) (by simp) ?_
            refine AllReadyIn.cons rfl (fun K hK => ?_) ?_
            go_simp
            refine hK _ _ ?_; clear hK K
            refine wpAnyIn_ready (rs := [4, 6]) (by kernel_rfl) (by simp) ?_
            refine AllReadyIn.cons rfl (fun K hK => ?_) ?_
            go_simp
            refine hK _ _ ?_; clear hK K
            refine wpAnyIn_ready (rs := [6]) (by kernel_rfl) (by simp) ?_
            refine AllReadyIn.cons rfl (fun K hK => ?_) ?_
            go_simp
            refine hK _ _ ?_; clear hK K
            refine wpAnyIn_ready (rs := [7]) (by kernel_rfl) (by simp) ?_
            refine AllReadyIn.cons rfl (fun K hK => ?_) ?_
            refine stepIn_run (by rfl) (fun _ => trivial) _ _ (by rfl) _ _ (by rfl) (by rfl) hrun ?_
            refine hK _ _ ?_; clear hK K
            refine wpAnyIn_ready (rs := [8]) (by kernel_rfl) (by simp) ?_
            refine AllReadyIn.cons rfl (fun K hK => ?_) ?_
            go_simp
            refine hK _ _ ?_; clear hK K
            refine wpAnyIn_ready (rs := [9]) (by kernel_rfl) (by simp) ?_
            refine AllReadyIn.cons rfl (fun K hK => ?_) ?_
            go_simp
            refine hK _ _ ?_; clear hK K
            refine wpAnyIn_ready (rs := [10]) (by kernel_rfl) (by simp) ?_
            refine AllReadyIn.cons rfl (fun K hK => ?_) ?_
            go_simp
            refine hK _ _ ?_; clear hK K
            refine wpAnyIn_done (by kernel_rfl) ?_ _; exact LEAF ⟨#[], []⟩
            exact AllReadyIn.nil
            exact AllReadyIn.nil
            exact AllReadyIn.nil
            exact AllReadyIn.nil
            exact AllReadyIn.nil
            refine AllReadyIn.cons rfl (fun K hK => ?_) ?_
            go_simp
            refine hK _ _ ?_; clear hK K
            refine wpAnyIn_ready (rs := [4]) (by kernel_rfl) (by simp) ?_
            refine AllReadyIn.cons rfl (fun K hK => ?_) ?_
            go_simp
            refine hK _ _ ?_; clear hK K
            refine wpAnyIn_ready (rs := [7]) (by kernel_rfl) (by simp) ?_
            refine AllReadyIn.cons rfl (fun K hK => ?_) ?_
            refine stepIn_run (by rfl) (fun _ => trivial) _ _ (by rfl) _ _ (by rfl) (by rfl) hrun ?_
            refine hK _ _ ?_; clear hK K
            refine wpAnyIn_ready (rs := [8]) (by kernel_rfl) (by simp) ?_
            refine AllReadyIn.cons rfl (fun K hK => ?_) ?_
            go_simp
            refine hK _ _ ?_; clear hK K
            refine wpAnyIn_ready (rs := [9]) (by kernel_rfl) (by simp) ?_
            refine AllReadyIn.cons rfl (fun K hK => ?_) ?_
            go_simp
            refine hK _ _ ?_; clear hK K
            refine wpAnyIn_ready (rs := [10]) (by kernel_rfl) (by simp) ?_
            refine AllReadyIn.cons rfl (fun K hK => ?_) ?_
            go_simp
            refine hK _ _ ?_; clear hK K
            refine wpAnyIn_done (by kernel_rfl) ?_ _; exact LEAF ⟨#[], []⟩
            exact AllReadyIn.nil
            exact AllReadyIn.nil
            exact AllReadyIn.nil
            exact AllReadyIn.nil
            exact AllReadyIn.nil
            exact AllReadyIn.nil
            refine AllReadyIn.cons rfl (fun K hK => ?_) ?_
            go_simp
            refine hK _ _ ?_; clear hK K
            refine wpAnyIn_ready (rs := [3]) (by kernel_rfl) (by simp) ?_
            refine AllReadyIn.cons rfl (fun K hK => ?_) ?_
            go_simp
            refine hK _ _ ?_; clear hK K
            refine wpAnyIn_ready (rs := [4]) (by kernel_rfl) (by simp) ?_
            refine AllReadyIn.cons rfl (fun K hK => ?_) ?_
            go_simp
            refine hK _ _ ?_; clear hK K
            refine wpAnyIn_ready (rs := [7]) (by kernel_rfl) (by simp) ?_
            refine AllReadyIn.cons rfl (fun K hK => ?_) ?_
            refine stepIn_run (by rfl) (fun _ => trivial) _ _ (by rfl) _ _ (by rfl) (by rfl) hrun ?_
            refine hK _ _ ?_; clear hK K
            refine wpAnyIn_ready (rs := [8]) (by kernel_rfl) (by simp) ?_
            refine AllReadyIn.cons rfl (fun K hK => ?_) ?_
            go_simp
            refine hK _ _ ?_; clear hK K
            refine wpAnyIn_ready (rs := [9]) (by kernel_rfl) (by simp) ?_
            refine AllReadyIn.cons rfl (fun K hK => ?_) ?_
            go_simp
            refine hK _ _ ?_; clear hK K
            refine wpAnyIn_ready (rs := [10]) (by kernel_rfl) (by simp) ?_
            refine AllReadyIn.cons rfl (fun K hK => ?_) ?_
            go_simp
            refine hK _ _ ?_; clear hK K
            refine wpAnyIn_done (by kernel_rfl) ?_ _; exact LEAF ⟨#[], []⟩
            exact AllReadyIn.nil
            exact AllReadyIn.nil
            exact AllReadyIn.nil
            exact AllReadyIn.nil
            exact AllReadyIn.nil
            exact AllReadyIn.nil
            exact AllReadyIn.nil
            exact AllReadyIn.nil
            refine AllReadyIn.cons rfl (fun K hK => ?_) ?_
            go_simp
            refine hK _ _ ?_; clear hK K
            refine wpAnyIn_ready (rs := [2, 6]) (by kernel_rfl) (by simp) ?_
            refine AllReadyIn.cons rfl (fun K hK => ?_) ?_
            go_simp
            refine hK _ _ ?_; clear hK K
            refine wpAnyIn_ready (rs := [3, 6]) (by kernel_rfl) (by simp) ?_
            refine AllReadyIn.cons rfl (fun K hK => ?_) ?_
            go_simp
            refine hK _ _ ?_; clear hK K
            refine wpAnyIn_ready (rs := [4, 6]) (by kernel_rfl) (by simp) ?_
            refine AllReadyIn.cons rfl (fun K hK => ?_) ?_
            go_simp
            refine hK _ _ ?_; clear hK K
            refine wpAnyIn_ready (rs := [6]) (by kernel_rfl) (by simp) ?_
            refine AllReadyIn.cons rfl (fun K hK => ?_) ?_
            go_simp
            refine hK _ _ ?_; clear hK K
            refine wpAnyIn_ready (rs := [7]) (by kernel_rfl) (by simp) ?_
            refine AllReadyIn.cons rfl (fun K hK => ?_) ?_
            refine stepIn_run (by rfl) (fun _ => trivial) _ _ (by rfl) _ _ (by rfl) (by rfl) hrun ?_
            refine hK _ _ ?_; clear hK K
            refine wpAnyIn_ready (rs := [8]) (by kernel_rfl) (by simp) ?_
            refine AllReadyIn.cons rfl (fun K hK => ?_) ?_
            go_simp
            refine hK _ _ ?_; clear hK K
            refine wpAnyIn_ready (rs := [9]) (by kernel_rfl) (by simp) ?_
            refine AllReadyIn.cons rfl (fun K hK => ?_) ?_
            go_simp
            refine hK _ _ ?_; clear hK K
            refine wpAnyIn_ready (rs := [10]) (by kernel_rfl) (by simp) ?_
            refine AllReadyIn.cons rfl (fun K hK => ?_) ?_
            go_simp
            refine hK _ _ ?_; clear hK K
            refine wpAnyIn_done (by kernel_rfl) ?_ _; exact LEAF ⟨#[], []⟩
            exact AllReadyIn.nil
            exact AllReadyIn.nil
            exact AllReadyIn.nil
            exact AllReadyIn.nil
            exact AllReadyIn.nil
            refine AllReadyIn.cons rfl (fun K hK => ?_) ?_
            go_simp
            refine hK _ _ ?_; clear hK K
            refine wpAnyIn_ready (rs := [4]) (by kernel_rfl) (by simp) ?_
            refine AllReadyIn.cons rfl (fun K hK => ?_) ?_
            go_simp
            refine hK _ _ ?_; clear hK K
            refine wpAnyIn_ready (rs := [7]) (by kernel_rfl) (by simp) ?_
            refine AllReadyIn.cons rfl (fun K hK => ?_) ?_
            refine stepIn_run (by rfl) (fun _ => trivial) _ _ (by rfl) _ _ (by rfl) (by rfl) hrun ?_
            refine hK _ _ ?_; clear hK K
            refine wpAnyIn_ready (rs := [8]) (by kernel_rfl) (by simp) ?_
            refine AllReadyIn.cons rfl (fun K hK => ?_) ?_
            go_simp
            refine hK _ _ ?_; clear hK K
            refine wpAnyIn_ready (rs := [9]) (by kernel_rfl) (by simp) ?_
            refine AllReadyIn.cons rfl (fun K hK => ?_) ?_
            go_simp
            refine hK _ _ ?_; clear hK K
            refine wpAnyIn_ready (rs := [10]) (by kernel_rfl) (by simp) ?_
            refine AllReadyIn.cons rfl (fun K hK => ?_) ?_
            go_simp
            refine hK _ _ ?_; clear hK K
            refine wpAnyIn_done (by kernel_rfl) ?_ _; exact LEAF ⟨#[], []⟩
            exact AllReadyIn.nil
            exact AllReadyIn.nil
            exact AllReadyIn.nil
            exact AllReadyIn.nil
            exact AllReadyIn.nil
            exact AllReadyIn.nil
            refine AllReadyIn.cons rfl (fun K hK => ?_) ?_
            go_simp
            refine hK _ _ ?_; clear hK K
            refine wpAnyIn_ready (rs := [3]) (by kernel_rfl) (by simp) ?_
            refine AllReadyIn.cons rfl (fun K hK => ?_) ?_
            go_simp
            refine hK _ _ ?_; clear hK K
            refine wpAnyIn_ready (rs := [4]) (by kernel_rfl) (by simp) ?_
            refine AllReadyIn.cons rfl (fun K hK => ?_) ?_
            go_simp
            refine hK _ _ ?_; clear hK K
            refine wpAnyIn_ready (rs := [7]) (by kernel_rfl) (by simp) ?_
            refine AllReadyIn.cons rfl (fun K hK => ?_) ?_
            refine stepIn_run (by rfl) (fun _ => trivial) _ _ (by rfl) _ _ (by rfl) (by rfl) hrun ?_
            refine hK _ _ ?_; clear hK K
            refine wpAnyIn_ready (rs := [8]) (by kernel_rfl) (by simp) ?_
            refine AllReadyIn.cons rfl (fun K hK => ?_) ?_
            go_simp
            refine hK _ _ ?_; clear hK K
            refine wpAnyIn_ready (rs := [9]) (by kernel_rfl) (by simp) ?_
            refine AllReadyIn.cons rfl (fun K hK => ?_) ?_
            go_simp
            refine hK _ _ ?_; clear hK K
            refine wpAnyIn_ready (rs := [10]) (by kernel_rfl) (by simp) ?_
            refine AllReadyIn.cons rfl (fun K hK => ?_) ?_
            go_simp
            refine hK _ _ ?_; clear hK K
            refine wpAnyIn_done (by kernel_rfl) ?_ _; exact LEAF ⟨#[], []⟩
            exact AllReadyIn.nil
            exact AllReadyIn.nil
            exact AllReadyIn.nil
            exact AllReadyIn.nil
            exact AllReadyIn.nil
            exact AllReadyIn.nil
            exact AllReadyIn.nil
            refine AllReadyIn.cons rfl (fun K hK => ?_) ?_
            go_simp
            refine hK _ _ ?_; clear hK K
            refine wpAnyIn_ready (rs := [2]) (by kernel_rfl) (by simp) ?_
            refine AllReadyIn.cons rfl (fun K hK => ?_) ?_
            go_simp
            refine hK _ _ ?_; clear hK K
            refine wpAnyIn_ready (rs := [3]) (by kernel_rfl) (by simp) ?_
            refine AllReadyIn.cons rfl (fun K hK => ?_) ?_
            go_simp
            refine hK _ _ ?_; clear hK K
            refine wpAnyIn_ready (rs := [4]) (by kernel_rfl) (by simp) ?_
            refine AllReadyIn.cons rfl (fun K hK => ?_) ?_
            go_simp
            refine hK _ _ ?_; clear hK K
            refine wpAnyIn_ready (rs := [7]) (by kernel_rfl) (by simp) ?_
            refine AllReadyIn.cons rfl (fun K hK => ?_) ?_
            refine stepIn_run (by rfl) (fun _ => trivial) _ _ (by rfl) _ _ (by rfl) (by rfl) hrun ?_
            refine hK _ _ ?_; clear hK K
            refine wpAnyIn_ready (rs := [8]) (by kernel_rfl) (by simp) ?_
            refine AllReadyIn.cons rfl (fun K hK => ?_) ?_
            go_simp
            refine hK _ _ ?_; clear hK K
            refine wpAnyIn_ready (rs := [9]) (by kernel_rfl) (by simp) ?_
            refine AllReadyIn.cons rfl (fun K hK => ?_) ?_
            go_simp
            refine hK _ _ ?_; clear hK K
            refine wpAnyIn_ready (rs := [10]) (by kernel_rfl) (by simp) ?_
            refine AllReadyIn.cons rfl (fun K hK => ?_) ?_
            go_simp
            refine hK _ _ ?_; clear hK K
            refine wpAnyIn_done (by kernel_rfl) ?_ _; exact LEAF ⟨#[], []⟩
            exact AllReadyIn.nil
            exact AllReadyIn.nil
            exact AllReadyIn.nil
            exact AllReadyIn.nil
            exact AllReadyIn.nil
            exact AllReadyIn.nil
            exact AllReadyIn.nil
            exact AllReadyIn.nil
            exact AllReadyIn.nil
            refine AllReadyIn.cons rfl (fun K hK => ?_) ?_
            go_simp
            refine hK _ _ ?_; clear hK K
            refine wpAnyIn_ready (rs := [0, 3, 5]) (by kernel_rfl) (by simp) ?_
            refine AllReadyIn.cons rfl (fun K hK => ?_) ?_
            go_simp
            refine hK _ _ ?_; clear hK K
            refine wpAnyIn_ready (rs := [3, 5]) (by kernel_rfl) (by simp) ?_
            refine AllReadyIn.cons rfl (fun K hK => ?_) ?_
            go_simp
            refine hK _ _ ?_; clear hK K
            refine wpAnyIn_ready (rs := [4, 5]) (by kernel_rfl) (by simp) ?_
            refine AllReadyIn.cons rfl (fun K hK => ?_) ?_
            go_simp
            refine hK _ _ ?_; clear hK K
            refine wpAnyIn_ready (rs := [5]) (by kernel_rfl) (by simp) ?_
            refine AllReadyIn.cons rfl (fun K hK => ?_) ?_
            go_simp
            refine hK _ _ ?_; clear hK K
            refine wpAnyIn_ready (rs := [6]) (by kernel_rfl) (by simp) ?_
            refine AllReadyIn.cons rfl (fun K hK => ?_) ?_
            go_simp
            refine hK _ _ ?_; clear hK K
            refine wpAnyIn_ready (rs := [7]) (by kernel_rfl) (by simp) ?_
            refine AllReadyIn.cons rfl (fun K hK => ?_) ?_
            refine stepIn_run (by rfl) (fun _ => trivial) _ _ (by rfl) _ _ (by rfl) (by rfl) hrun ?_
            refine hK _ _ ?_; clear hK K
            refine wpAnyIn_ready (rs := [8]) (by kernel_rfl) (by simp) ?_
            refine AllReadyIn.cons rfl (fun K hK => ?_) ?_
            go_simp
            refine hK _ _ ?_; clear hK K
            refine wpAnyIn_ready (rs := [9]) (by kernel_rfl) (by simp) ?_
            refine AllReadyIn.cons rfl (fun K hK => ?_) ?_
            go_simp
            refine hK _ _ ?_; clear hK K
            refine wpAnyIn_ready (rs := [10]) (by kernel_rfl) (by simp) ?_
            refine AllReadyIn.cons rfl (fun K hK => ?_) ?_
            go_simp
            refine hK _ _ ?_; clear hK K
            refine wpAnyIn_done (by kernel_rfl) ?_ _; exact LEAF ⟨#[], []⟩
            exact AllReadyIn.nil
            exact AllReadyIn.nil
            exact AllReadyIn.nil
            exact AllReadyIn.nil
            exact AllReadyIn.nil
            exact AllReadyIn.nil
            refine AllReadyIn.cons rfl (fun K hK => ?_) ?_
            go_simp
            refine hK _ _ ?_; clear hK K
            refine wpAnyIn_ready (rs := [4, 6]) (by kernel_rfl) (by simp) ?_
            refine AllReadyIn.cons rfl (fun K hK => ?_) ?_
            go_simp
            refine hK _ _ ?_; clear hK K
            refine wpAnyIn_ready (rs := [6]) (by kernel_rfl) (by simp) ?_
            refine AllReadyIn.cons rfl (fun K hK => ?_) ?_
            go_simp
            refine hK _ _ ?_; clear hK K
            refine wpAnyIn_ready (rs := [7]) (by kernel_rfl) (by simp) ?_
            refine AllReadyIn.cons rfl (fun K hK => ?_) ?_
            refine stepIn_run (by rfl) (fun _ => trivial) _ _ (by rfl) _ _ (by rfl) (by rfl) hrun ?_
            refine hK _ _ ?_; clear hK K
            refine wpAnyIn_ready (rs := [8]) (by kernel_rfl) (by simp) ?_
            refine AllReadyIn.cons rfl (fun K hK => ?_) ?_
            go_simp
            refine hK _ _ ?_; clear hK K
            refine wpAnyIn_ready (rs := [9]) (by kernel_rfl) (by simp) ?_
            refine AllReadyIn.cons rfl (fun K hK => ?_) ?_
            go_simp
            refine hK _ _ ?_; clear hK K
            refine wpAnyIn_ready (rs := [10]) (by kernel_rfl) (by simp) ?_
            refine AllReadyIn.cons rfl (fun K hK => ?_) ?_
            go_simp
            refine hK _ _ ?_; clear hK K
            refine wpAnyIn_done (by kernel_rfl) ?_ _; exact LEAF ⟨#[], []⟩
            exact AllReadyIn.nil
            exact AllReadyIn.nil
            exact AllReadyIn.nil
            exact AllReadyIn.nil
            exact AllReadyIn.nil
            refine AllReadyIn.cons rfl (fun K hK => ?_) ?_
            go_simp
            refine hK _ _ ?_; clear hK K
            refine wpAnyIn_ready (rs := [4]) (by kernel_rfl) (by simp) ?_
            refine AllReadyIn.cons rfl (fun K hK => ?_) ?_
            go_simp
            refine hK _ _ ?_; clear hK K
            refine wpAnyIn_ready (rs := [7]) (by kernel_rfl) (by simp) ?_
            refine AllReadyIn.cons rfl (fun K hK => ?_) ?_
            refine stepIn_run (by rfl) (fun _ => trivial) _ _ (by rfl) _ _ (by rfl) (by rfl) hrun ?_
            refine hK _ _ ?_; clear hK K
            refine wpAnyIn_ready (rs := [8]) (by kernel_rfl) (by simp) ?_
            refine AllReadyIn.cons rfl (fun K hK => ?_) ?_
            go_simp
            refine hK _ _ ?_; clear hK K
            refine wpAnyIn_ready (rs := [9]) (by kernel_rfl) (by simp) ?_
            refine AllReadyIn.cons rfl (fun K hK => ?_) ?_
            go_simp
            refine hK _ _ ?_; clear hK K
            refine wpAnyIn_ready (rs := [10]) (by kernel_rfl) (by simp) ?_
            refine AllReadyIn.cons rfl (fun K hK => ?_) ?_
            go_simp
            refine hK _ _ ?_; clear hK K
            refine wpAnyIn_done (by kernel_rfl) ?_ _; exact LEAF ⟨#[], []⟩
            exact AllReadyIn.nil
            exact AllReadyIn.nil
            exact AllReadyIn.nil
            exact AllReadyIn.nil
            exact AllReadyIn.nil
            exact AllReadyIn.nil
            exact AllReadyIn.nil
            refine AllReadyIn.cons rfl (fun K hK => ?_) ?_
            go_simp
            refine hK _ _ ?_; clear hK K
            refine wpAnyIn_ready (rs := [3, 6]) (by kernel_rfl) (by simp) ?_
            refine AllReadyIn.cons rfl (fun K hK => ?_) ?_
            go_simp
            refine hK _ _ ?_; clear hK K
            refine wpAnyIn_ready (rs := [4, 6]) (by kernel_rfl) (by simp) ?_
            refine AllReadyIn.cons rfl (fun K hK => ?_) ?_
            go_simp
            refine hK _ _ ?_; clear hK K
            refine wpAnyIn_ready (rs := [6]) (by kernel_rfl) (by simp) ?_
            refine AllReadyIn.cons rfl (fun K hK => ?_) ?_
            go_simp
            refine hK _ _ ?_; clear hK K
            refine wpAnyIn_ready (rs := [7]) (by kernel_rfl) (by simp) ?_
            refine AllReadyIn.cons rfl (fun K hK => ?_) ?_
            refine stepIn_run (by rfl) (fun _ => trivial) _ _ (by rfl) _ _ (by rfl) (by rfl) hrun ?_
            refine hK _ _ ?_; clear hK K
            refine wpAnyIn_ready (rs := [8]) (by kernel_rfl) (by simp) ?_
            refine AllReadyIn.cons rfl (fun K hK => ?_) ?_
            go_simp
            refine hK _ _ ?_; clear hK K
            refine wpAnyIn_ready (rs := [9]) (by kernel_rfl) (by simp) ?_
            refine AllReadyIn.cons rfl (fun K hK => ?_) ?_
            go_simp
            refine hK _ _ ?_; clear hK K
            refine wpAnyIn_ready (rs := [10]) (by kernel_rfl) (by simp) ?_
            refine AllReadyIn.cons rfl (fun K hK => ?_) ?_
            go_simp
            refine hK _ _ ?_; clear hK K
            refine wpAnyIn_done (by kernel_rfl) ?_ _; exact LEAF ⟨#[], []⟩
            exact AllReadyIn.nil
            exact AllReadyIn.nil
            exact AllReadyIn.nil
            exact AllReadyIn.nil
            exact AllReadyIn.nil
            refine AllReadyIn.cons rfl (fun K hK => ?_) ?_
            go_simp
            refine hK _ _ ?_; clear hK K
            refine wpAnyIn_ready (rs := [4]) (by kernel_rfl) (by simp) ?_
            refine AllReadyIn.cons rfl (fun K hK => ?_) ?_
            go_simp
            refine hK _ _ ?_; clear hK K
            refine wpAnyIn_ready (rs := [7]) (by kernel_rfl) (by simp) ?_
            refine AllReadyIn.cons rfl (fun K hK => ?_) ?_
            refine stepIn_run (by rfl) (fun _ => trivial) _ _ (by rfl) _ _ (by rfl) (by rfl) hrun ?_
            refine hK _ _ ?_; clear hK K
            refine wpAnyIn_ready (rs := [8]) (by kernel_rfl) (by simp) ?_
            refine AllReadyIn.cons rfl (fun K hK => ?_) ?_
            go_simp
            refine hK _ _ ?_; clear hK K
            refine wpAnyIn_ready (rs := [9]) (by kernel_rfl) (by simp) ?_
            refine AllReadyIn.cons rfl (fun K hK => ?_) ?_
            go_simp
            refine hK _ _ ?_; clear hK K
            refine wpAnyIn_ready (rs := [10]) (by kernel_rfl) (by simp) ?_
            refine AllReadyIn.cons rfl (fun K hK => ?_) ?_
            go_simp
            refine hK _ _ ?_; clear hK K
            refine wpAnyIn_done (by kernel_rfl) ?_ _; exact LEAF ⟨#[], []⟩
            exact AllReadyIn.nil
            exact AllReadyIn.nil
            exact AllReadyIn.nil
            exact AllReadyIn.nil
            exact AllReadyIn.nil
            exact AllReadyIn.nil
            refine AllReadyIn.cons rfl (fun K hK => ?_) ?_
            go_simp
            refine hK _ _ ?_; clear hK K
            refine wpAnyIn_ready (rs := [3]) (by kernel_rfl) (by simp) ?_
            refine AllReadyIn.cons rfl (fun K hK => ?_) ?_
            go_simp
            refine hK _ _ ?_; clear hK K
            refine wpAnyIn_ready (rs := [4]) (by kernel_rfl) (by simp) ?_
            refine AllReadyIn.cons rfl (fun K hK => ?_) ?_
            go_simp
            refine hK _ _ ?_; clear hK K
            refine wpAnyIn_ready (rs := [7]) (by kernel_rfl) (by simp) ?_
            refine AllReadyIn.cons rfl (fun K hK => ?_) ?_
            refine stepIn_run (by rfl) (fun _ => trivial) _ _ (by rfl) _ _ (by rfl) (by rfl) hrun ?_
            refine hK _ _ ?_; clear hK K
            refine wpAnyIn_ready (rs := [8]) (by kernel_rfl) (by simp) ?_
            refine AllReadyIn.cons rfl (fun K hK => ?_) ?_
            go_simp
            refine hK _ _ ?_; clear hK K
            refine wpAnyIn_ready (rs := [9]) (by kernel_rfl) (by simp) ?_
            refine AllReadyIn.cons rfl (fun K hK => ?_) ?_
            go_simp
            refine hK _ _ ?_; clear hK K
            refine wpAnyIn_ready (rs := [10]) (by kernel_rfl) (by simp) ?_
            refine AllReadyIn.cons rfl (fun K hK => ?_) ?_
            go_simp
            refine hK _ _ ?_; clear hK K
            refine wpAnyIn_done (by kernel_rfl) ?_ _; exact LEAF ⟨#[], []⟩
            exact AllReadyIn.nil
            exact AllReadyIn.nil
            exact AllReadyIn.nil
            exact AllReadyIn.nil
            exact AllReadyIn.nil
            exact AllReadyIn.nil
            exact AllReadyIn.nil
            exact AllReadyIn.nil
            refine AllReadyIn.cons rfl (fun K hK => ?_) ?_
            go_simp
            refine hK _ _ ?_; clear hK K
            refine wpAnyIn_ready (rs := [0, 4, 5]) (by kernel_rfl) (by simp) ?_
            refine AllReadyIn.cons rfl (fun K hK => ?_) ?_
            go_simp
            refine hK _ _ ?_; clear hK K
            refine wpAnyIn_ready (rs := [4, 5]) (by kernel_rfl) (by simp) ?_
            refine AllReadyIn.cons rfl (fun K hK => ?_) ?_
            go_simp
            refine hK _ _ ?_; clear hK K
            refine wpAnyIn_ready (rs := [5]) (by kernel_rfl) (by simp) ?_
            refine AllReadyIn.cons rfl (fun K hK => ?_) ?_
            go_simp
            refine hK _ _ ?_; clear hK K
            refine wpAnyIn_ready (rs := [6]) (by kernel_rfl) (by simp) ?_
            refine AllReadyIn.cons rfl (fun K hK => ?_) ?_
            go_simp
            refine hK _ _ ?_; clear hK K
            refine wpAnyIn_ready (rs := [7]) (by kernel_rfl) (by simp) ?_
            refine AllReadyIn.cons rfl (fun K hK => ?_) ?_
            refine stepIn_run (by rfl) (fun _ => trivial) _ _ (by rfl) _ _ (by rfl) (by rfl) hrun ?_
            refine hK _ _ ?_; clear hK K
            refine wpAnyIn_ready (rs := [8]) (by kernel_rfl) (by simp) ?_
            refine AllReadyIn.cons rfl (fun K hK => ?_) ?_
            go_simp
            refine hK _ _ ?_; clear hK K
            refine wpAnyIn_ready (rs := [9]) (by kernel_rfl) (by simp) ?_
            refine AllReadyIn.cons rfl (fun K hK => ?_) ?_
            go_simp
            refine hK _ _ ?_; clear hK K
            refine wpAnyIn_ready (rs := [10]) (by kernel_rfl) (by simp) ?_
            refine AllReadyIn.cons rfl (fun K hK => ?_) ?_
            go_simp
            refine hK _ _ ?_; clear hK K
            refine wpAnyIn_done (by kernel_rfl) ?_ _; exact LEAF ⟨#[], []⟩
            exact AllReadyIn.nil
            exact AllReadyIn.nil
            exact AllReadyIn.nil
            exact AllReadyIn.nil
            exact AllReadyIn.nil
            exact AllReadyIn.nil
            refine AllReadyIn.cons rfl (fun K hK => ?_) ?_
            go_simp
            refine hK _ _ ?_; clear hK K
            refine wpAnyIn_ready (rs := [4, 6]) (by kernel_rfl) (by simp) ?_
            refine AllReadyIn.cons rfl (fun K hK => ?_) ?_
            go_simp
            refine hK _ _ ?_; clear hK K
            refine wpAnyIn_ready (rs := [6]) (by kernel_rfl) (by simp) ?_
            refine AllReadyIn.cons rfl (fun K hK => ?_) ?_
            go_simp
            refine hK _ _ ?_; clear hK K
            refine wpAnyIn_ready (rs := [7]) (by kernel_rfl) (by simp) ?_
            refine AllReadyIn.cons rfl (fun K hK => ?_) ?_
            refine stepIn_run (by rfl) (fun _ => trivial) _ _ (by rfl) _ _ (by rfl) (by rfl) hrun ?_
            refine hK _ _ ?_; clear hK K
            refine wpAnyIn_ready (rs := [8]) (by kernel_rfl) (by simp) ?_
            refine AllReadyIn.cons rfl (fun K hK => ?_) ?_
            go_simp
            refine hK _ _ ?_; clear hK K
            refine wpAnyIn_ready (rs := [9]) (by kernel_rfl) (by simp) ?_
            refine AllReadyIn.cons rfl (fun K hK => ?_) ?_
            go_simp
            refine hK _ _ ?_; clear hK K
            refine wpAnyIn_ready (rs := [10]) (by kernel_rfl) (by simp) ?_
            refine AllReadyIn.cons rfl (fun K hK => ?_) ?_
            go_simp
            refine hK _ _ ?_; clear hK K
            refine wpAnyIn_done (by kernel_rfl) ?_ _; exact LEAF ⟨#[], []⟩
            exact AllReadyIn.nil
            exact AllReadyIn.nil
            exact AllReadyIn.nil
            exact AllReadyIn.nil
            exact AllReadyIn.nil
            refine AllReadyIn.cons rfl (fun K hK => ?_) ?_
            go_simp
            refine hK _ _ ?_; clear hK K
            refine wpAnyIn_ready (rs := [4]) (by kernel_rfl) (by simp) ?_
            refine AllReadyIn.cons rfl (fun K hK => ?_) ?_
            go_simp
            refine hK _ _ ?_; clear hK K
            refine wpAnyIn_ready (rs := [7]) (by kernel_rfl) (by simp) ?_
            refine AllReadyIn.cons rfl (fun K hK => ?_) ?_
            refine stepIn_run (by rfl) (fun _ => trivial) _ _ (by rfl) _ _ (by rfl) (by rfl) hrun ?_
            refine hK _ _ ?_; clear hK K
            refine wpAnyIn_ready (rs := [8]) (by kernel_rfl) (by simp) ?_
            refine AllReadyIn.cons rfl (fun K hK => ?_) ?_
            go_simp
            refine hK _ _ ?_; clear hK K
            refine wpAnyIn_ready (rs := [9]) (by kernel_rfl) (by simp) ?_
            refine AllReadyIn.cons rfl (fun K hK => ?_) ?_
            go_simp
            refine hK _ _ ?_; clear hK K
            refine wpAnyIn_ready (rs := [10]) (by kernel_rfl) (by simp) ?_
            refine AllReadyIn.cons rfl (fun K hK => ?_) ?_
            go_simp
            refine hK _ _ ?_; clear hK K
            refine wpAnyIn_done (by kernel_rfl) ?_ _; exact LEAF ⟨#[], []⟩
            exact AllReadyIn.nil
            exact AllReadyIn.nil
            exact AllReadyIn.nil
            exact AllReadyIn.nil
            exact AllReadyIn.nil
            exact AllReadyIn.nil
            exact AllReadyIn.nil
            refine AllReadyIn.cons rfl (fun K hK => ?_) ?_
            go_simp
            refine hK _ _ ?_; clear hK K
            refine wpAnyIn_ready (rs := [0, 5]) (by kernel_rfl) (by simp) ?_
            refine AllReadyIn.cons rfl (fun K hK => ?_) ?_
            go_simp
            refine hK _ _ ?_; clear hK K
            refine wpAnyIn_ready (rs := [5]) (by kernel_rfl) (by simp) ?_
            refine AllReadyIn.cons rfl (fun K hK => ?_) ?_
            go_simp
            refine hK _ _ ?_; clear hK K
            refine wpAnyIn_ready (rs := [6]) (by kernel_rfl) (by simp) ?_
            refine AllReadyIn.cons rfl (fun K hK => ?_) ?_
            go_simp
            refine hK _ _ ?_; clear hK K
            refine wpAnyIn_ready (rs := [7]) (by kernel_rfl) (by simp) ?_
            refine AllReadyIn.cons rfl (fun K hK => ?_) ?_
            refine stepIn_run (by rfl) (fun _ => trivial) _ _ (by rfl) _ _ (by rfl) (by rfl) hrun ?_
            refine hK _ _ ?_; clear hK K
            refine wpAnyIn_ready (rs := [8]) (by kernel_rfl) (by simp) ?_
            refine AllReadyIn.cons rfl (fun K hK => ?_) ?_
            go_simp
            refine hK _ _ ?_; clear hK K
            refine wpAnyIn_ready (rs := [9]) (by kernel_rfl) (by simp) ?_
            refine AllReadyIn.cons rfl (fun K hK => ?_) ?_
            go_simp
            refine hK _ _ ?_; clear hK K
            refine wpAnyIn_ready (rs := [10]) (by kernel_rfl) (by simp) ?_
            refine AllReadyIn.cons rfl (fun K hK => ?_) ?_
            go_simp
            refine hK _ _ ?_; clear hK K
            refine wpAnyIn_done (by kernel_rfl) ?_ _; exact LEAF ⟨#[], []⟩
            exact AllReadyIn.nil
            exact AllReadyIn.nil
            exact AllReadyIn.nil
            exact AllReadyIn.nil
            exact AllReadyIn.nil
            exact AllReadyIn.nil
            refine AllReadyIn.cons rfl (fun K hK => ?_) ?_
            go_simp
            refine hK _ _ ?_; clear hK K
            refine wpAnyIn_ready (rs := [0, 6]) (by kernel_rfl) (by simp) ?_
            refine AllReadyIn.cons rfl (fun K hK => ?_) ?_
            go_simp
            refine hK _ _ ?_; clear hK K
            refine wpAnyIn_ready (rs := [6]) (by kernel_rfl) (by simp) ?_
            refine AllReadyIn.cons rfl (fun K hK => ?_) ?_
            go_simp
            refine hK _ _ ?_; clear hK K
            refine wpAnyIn_ready (rs := [7]) (by kernel_rfl) (by simp) ?_
            refine AllReadyIn.cons rfl (fun K hK => ?_) ?_
            refine stepIn_run (by rfl) (fun _ => trivial) _ _ (by rfl) _ _ (by rfl) (by rfl) hrun ?_
            refine hK _ _ ?_; clear hK K
            refine wpAnyIn_ready (rs := [8]) (by kernel_rfl) (by simp) ?_
            refine AllReadyIn.cons rfl (fun K hK => ?_) ?_
            go_simp
            refine hK _ _ ?_; clear hK K
            refine wpAnyIn_ready (rs := [9]) (by kernel_rfl) (by simp) ?_
            refine AllReadyIn.cons rfl (fun K hK => ?_) ?_
            go_simp
            refine hK _ _ ?_; clear hK K
            refine wpAnyIn_ready (rs := [10]) (by kernel_rfl) (by simp) ?_
            refine AllReadyIn.cons rfl (fun K hK => ?_) ?_
            go_simp
            refine hK _ _ ?_; clear hK K
            refine wpAnyIn_done (by kernel_rfl) ?_ _; exact LEAF ⟨#[], []⟩
            exact AllReadyIn.nil
            exact AllReadyIn.nil
            exact AllReadyIn.nil
            exact AllReadyIn.nil
            exact AllReadyIn.nil
            refine AllReadyIn.cons rfl (fun K hK => ?_) ?_
            go_simp
            refine hK _ _ ?_; clear hK K
            refine wpAnyIn_ready (rs := [0, 7]) (by kernel_rfl) (by simp) ?_
            refine AllReadyIn.cons rfl (fun K hK => ?_) ?_
            go_simp
            refine hK _ _ ?_; clear hK K
            refine wpAnyIn_ready (rs := [7]) (by kernel_rfl) (by simp) ?_
            refine AllReadyIn.cons rfl (fun K hK => ?_) ?_
            refine stepIn_run (by rfl) (fun _ => trivial) _ _ (by rfl) _ _ (by rfl) (by rfl) hrun ?_
            refine hK _ _ ?_; clear hK K
            refine wpAnyIn_ready (rs := [8]) (by kernel_rfl) (by simp) ?_
            refine AllReadyIn.cons rfl (fun K hK => ?_) ?_
            go_simp
            refine hK _ _ ?_; clear hK K
            refine wpAnyIn_ready (rs := [9]) (by kernel_rfl) (by simp) ?_
            refine AllReadyIn.cons rfl (fun K hK => ?_) ?_
            go_simp
            refine hK _ _ ?_; clear hK K
            refine wpAnyIn_ready (rs := [10]) (by kernel_rfl) (by simp) ?_
            refine AllReadyIn.cons rfl (fun K hK => ?_) ?_
            go_simp
            refine hK _ _ ?_; clear hK K
            refine wpAnyIn_done (by kernel_rfl) ?_ _; exact LEAF ⟨#[], []⟩
            exact AllReadyIn.nil
            exact AllReadyIn.nil
            exact AllReadyIn.nil
            exact AllReadyIn.nil
            refine AllReadyIn.cons rfl (fun K hK => ?_) ?_
            refine stepIn_run (by rfl) (fun _ => trivial) _ _ (by rfl) _ _ (by rfl) (by rfl) hrun ?_
            refine hK _ _ ?_; clear hK K
            refine wpAnyIn_ready (rs := [0]) (by kernel_rfl) (by simp) ?_
            refine AllReadyIn.cons rfl (fun K hK => ?_) ?_
            go_simp
            refine hK _ _ ?_; clear hK K
            refine wpAnyIn_ready (rs := [8]) (by kernel_rfl) (by simp) ?_
            refine AllReadyIn.cons rfl (fun K hK => ?_) ?_
            go_simp
            refine hK _ _ ?_; clear hK K
            refine wpAnyIn_ready (rs := [9]) (by kernel_rfl) (by simp) ?_
            refine AllReadyIn.cons rfl (fun K hK => ?_) ?_
            go_simp
            refine hK _ _ ?_; clear hK K
            refine wpAnyIn_ready (rs := [10]) (by kernel_rfl) (by simp) ?_
            refine AllReadyIn.cons rfl (fun K hK => ?_) ?_
            go_simp
            refine hK _ _ ?_; clear hK K
            refine wpAnyIn_done (by kernel_rfl) ?_ _; exact LEAF ⟨#[], []⟩
            exact AllReadyIn.nil
            exact AllReadyIn.nil
            exact AllReadyIn.nil
            exact AllReadyIn.nil
            exact AllReadyIn.nil
            exact AllReadyIn.nil
            exact AllReadyIn.nil
            refine AllReadyIn.cons rfl (fun K hK => ?_) ?_
            go_simp
            refine hK _ _ ?_; clear hK K
            refine wpAnyIn_ready (rs := [0, 4, 6]) (by kernel_rfl) (by simp) ?_
            refine AllReadyIn.cons rfl (fun K hK => ?_) ?_
            go_simp
            refine hK _ _ ?_; clear hK K
            refine wpAnyIn_ready (rs := [4, 6]) (by kernel_rfl) (by simp) ?_
            refine AllReadyIn.cons rfl (fun K hK => ?_) ?_
            go_simp
            refine hK _ _ ?_; clear hK K
            refine wpAnyIn_ready (rs := [6]) (by kernel_rfl) (by simp) ?_
            refine AllReadyIn.cons rfl (fun K hK => ?_) ?_
            go_simp
            refine hK _ _ ?_; clear hK K
            refine wpAnyIn_ready (rs := [7]) (by kernel_rfl) (by simp) ?_
            refine AllReadyIn.cons rfl (fun K hK => ?_) ?_
            refine stepIn_run (by rfl) (fun _ => trivial) _ _ (by rfl) _ _ (by rfl) (by rfl) hrun ?_
            refine hK _ _ ?_; clear hK K
            refine wpAnyIn_ready (rs := [8]) (by kernel_rfl) (by simp) ?_
            refine AllReadyIn.cons rfl (fun K hK => ?_) ?_
            go_simp
            refine hK _ _ ?_; clear hK K
            refine wpAnyIn_ready (rs := [9]) (by kernel_rfl) (by simp) ?_
            refine AllReadyIn.cons rfl (fun K hK => ?_) ?_
            go_simp
            refine hK _ _ ?_; clear hK K
            refine wpAnyIn_ready (rs := [10]) (by kernel_rfl) (by simp) ?_
            refine AllReadyIn.cons rfl (fun K hK => ?_) ?_
            go_simp
            refine hK _ _ ?_; clear hK K
            refine wpAnyIn_done (by kernel_rfl) ?_ _; exact LEAF ⟨#[], []⟩
            exact AllReadyIn.nil
            exact AllReadyIn.nil
            exact AllReadyIn.nil
            exact AllReadyIn.nil
            exact AllReadyIn.nil
            refine AllReadyIn.cons rfl (fun K hK => ?_) ?_
            go_simp
            refine hK _ _ ?_; clear hK K
            refine wpAnyIn_ready (rs := [4]) (by kernel_rfl) (by simp) ?_
            refine AllReadyIn.cons rfl (fun K hK => ?_) ?_
            go_simp
            refine hK _ _ ?_; clear hK K
            refine wpAnyIn_ready (rs := [7]) (by kernel_rfl) (by simp) ?_
            refine AllReadyIn.cons rfl (fun K hK => ?_) ?_
            refine stepIn_run (by rfl) (fun _ => trivial) _ _ (by rfl) _ _ (by rfl) (by rfl) hrun ?_
            refine hK _ _ ?_; clear hK K
            refine wpAnyIn_ready (rs := [8]) (by kernel_rfl) (by simp) ?_
            refine AllReadyIn.cons rfl (fun K hK => ?_) ?_
            go_simp
            refine hK _ _ ?_; clear hK K
            refine wpAnyIn_ready (rs := [9]) (by kernel_rfl) (by simp) ?_
            refine AllReadyIn.cons rfl (fun K hK => ?_) ?_
            go_simp
            refine hK _ _ ?_; clear hK K
            refine wpAnyIn_ready (rs := [10]) (by kernel_rfl) (by simp) ?_
            refine AllReadyIn.cons rfl (fun K hK => ?_) ?_
            go_simp
            refine hK _ _ ?_; clear hK K
            refine wpAnyIn_done (by kernel_rfl) ?_ _; exact LEAF ⟨#[], []⟩
            exact AllReadyIn.nil
            exact AllReadyIn.nil
            exact AllReadyIn.nil
            exact AllReadyIn.nil
            exact AllReadyIn.nil
            exact AllReadyIn.nil
            refine AllReadyIn.cons rfl (fun K hK => ?_) ?_
            go_simp
            refine hK _ _ ?_; clear hK K
            refine wpAnyIn_ready (rs := [0, 6]) (by kernel_rfl) (by simp) ?_
            refine AllReadyIn.cons rfl (fun K hK => ?_) ?_
            go_simp
            refine hK _ _ ?_; clear hK K
            refine wpAnyIn_ready (rs := [6]) (by kernel_rfl) (by simp) ?_
            refine AllReadyIn.cons rfl (fun K hK => ?_) ?_
            go_simp
            refine hK _ _ ?_; clear hK K
            refine wpAnyIn_ready (rs := [7]) (by kernel_rfl) (by simp) ?_
            refine AllReadyIn.cons rfl (fun K hK => ?_) ?_
            refine stepIn_run (by rfl) (fun _ => trivial) _ _ (by rfl) _ _ (by rfl) (by rfl) hrun ?_
            refine hK _ _ ?_; clear hK K
            refine wpAnyIn_ready (rs := [8]) (by kernel_rfl) (by simp) ?_
            refine AllReadyIn.cons rfl (fun K hK => ?_) ?_
            go_simp
            refine hK _ _ ?_; clear hK K
            refine wpAnyIn_ready (rs := [9]) (by kernel_rfl) (by simp) ?_
            refine AllReadyIn.cons rfl (fun K hK => ?_) ?_
            go_simp
            refine hK _ _ ?_; clear hK K
            refine wpAnyIn_ready (rs := [10]) (by kernel_rfl) (by simp) ?_
            refine AllReadyIn.cons rfl (fun K hK => ?_) ?_
            go_simp
            refine hK _ _ ?_; clear hK K
            refine wpAnyIn_done (by kernel_rfl) ?_ _; exact LEAF ⟨#[], []⟩
            exact AllReadyIn.nil
            exact AllReadyIn.nil
            exact AllReadyIn.nil
            exact AllReadyIn.nil
            exact AllReadyIn.nil
            refine AllReadyIn.cons rfl (fun K hK => ?_) ?_
            go_simp
            refine hK _ _ ?_; clear hK K
            refine wpAnyIn_ready (rs := [0, 7]) (by kernel_rfl) (by simp) ?_
            refine AllReadyIn.cons rfl (fun K hK => ?_) ?_
            go_simp
            refine hK _ _ ?_; clear hK K
            refine wpAnyIn_ready (rs := [7]) (by kernel_rfl) (by simp) ?_
            refine AllReadyIn.cons rfl (fun K hK => ?_) ?_
            refine stepIn_run (by rfl) (fun _ => trivial) _ _ (by rfl) _ _ (by rfl) (by rfl) hrun ?_
            refine hK _ _ ?_; clear hK K
            refine wpAnyIn_ready (rs := [8]) (by kernel_rfl) (by simp) ?_
            refine AllReadyIn.cons rfl (fun K hK => ?_) ?_
            go_simp
            refine hK _ _ ?_; clear hK K
            refine wpAnyIn_ready (rs := [9]) (by kernel_rfl) (by simp) ?_
            refine AllReadyIn.cons rfl (fun K hK => ?_) ?_
            go_simp
            refine hK _ _ ?_; clear hK K
            refine wpAnyIn_ready (rs := [10]) (by kernel_rfl) (by simp) ?_
            refine AllReadyIn.cons rfl (fun K hK => ?_) ?_
            go_simp
            refine hK _ _ ?_; clear hK K
            refine wpAnyIn_done (by kernel_rfl) ?_ _; exact LEAF ⟨#[], []⟩
            exact AllReadyIn.nil
            exact AllReadyIn.nil
            exact AllReadyIn.nil
            exact AllReadyIn.nil
            refine AllReadyIn.cons rfl (fun K hK => ?_) ?_
            refine stepIn_run (by rfl) (fun _ => trivial) _ _ (by rfl) _ _ (by rfl) (by rfl) hrun ?_
            refine hK _ _ ?_; clear hK K
            refine wpAnyIn_ready (rs := [0]) (by kernel_rfl) (by simp) ?_
            refine AllReadyIn.cons rfl (fun K hK => ?_) ?_
            go_simp
            refine hK _ _ ?_; clear hK K
            refine wpAnyIn_ready (rs := [8]) (by kernel_rfl) (by simp) ?_
            refine AllReadyIn.cons rfl (fun K hK => ?_) ?_
            go_simp
            refine hK _ _ ?_; clear hK K
            refine wpAnyIn_ready (rs := [9]) (by kernel_rfl) (by simp) ?_
            refine AllReadyIn.cons rfl (fun K hK => ?_) ?_
            go_simp
            refine hK _ _ ?_; clear hK K
            refine wpAnyIn_ready (rs := [10]) (by kernel_rfl) (by simp) ?_
            refine AllReadyIn.cons rfl (fun K hK => ?_) ?_
            go_simp
            refine hK _ _ ?_; clear hK K
            refine wpAnyIn_done (by kernel_rfl) ?_ _; exact LEAF ⟨#[], []⟩
            exact AllReadyIn.nil
            exact AllReadyIn.nil
            exact AllReadyIn.nil
            exact AllReadyIn.nil
            exact AllReadyIn.nil
            exact AllReadyIn.nil
            refine AllReadyIn.cons rfl (fun K hK => ?_) ?_
            go_simp
            refine hK _ _ ?_; clear hK K
            refine wpAnyIn_ready (rs := [0, 4]) (by kernel_rfl) (by simp) ?_
            refine AllReadyIn.cons rfl (fun K hK => ?_) ?_
            go_simp
            refine hK _ _ ?_; clear hK K
            refine wpAnyIn_ready (rs := [4]) (by kernel_rfl) (by simp) ?_
            refine AllReadyIn.cons rfl (fun K hK => ?_) ?_
            go_simp
            refine hK _ _ ?_; clear hK K
            refine wpAnyIn_ready (rs := [7]) (by kernel_rfl) (by simp) ?_
            refine AllReadyIn.cons rfl (fun K hK => ?_) ?_
            refine stepIn_run (by rfl) (fun _ => trivial) _ _ (by rfl) _ _ (by rfl) (by rfl) hrun ?_
            refine hK _ _ ?_; clear hK K
            refine wpAnyIn_ready (rs := [8]) (by kernel_rfl) (by simp) ?_
            refine AllReadyIn.cons rfl (fun K hK => ?_) ?_
            go_simp
            refine hK _ _ ?_; clear hK K
            refine wpAnyIn_ready (rs := [9]) (by kernel_rfl) (by simp) ?_
            refine AllReadyIn.cons rfl (fun K hK => ?_) ?_
            go_simp
            refine hK _ _ ?_; clear hK K
            refine wpAnyIn_ready (rs := [10]) (by kernel_rfl) (by simp) ?_
            refine AllReadyIn.cons rfl (fun K hK => ?_) ?_
            go_simp
            refine hK _ _ ?_; clear hK K
            refine wpAnyIn_done (by kernel_rfl) ?_ _; exact LEAF ⟨#[], []⟩
            exact AllReadyIn.nil
            exact AllReadyIn.nil
            exact AllReadyIn.nil
            exact AllReadyIn.nil
            exact AllReadyIn.nil
            refine AllReadyIn.cons rfl (fun K hK => ?_) ?_
            go_simp
            refine hK _ _ ?_; clear hK K
            refine wpAnyIn_ready (rs := [0, 7]) (by kernel_rfl) (by simp) ?_
            refine AllReadyIn.cons rfl (fun K hK => ?_) ?_
            go_simp
            refine hK _ _ ?_; clear hK K
            refine wpAnyIn_ready (rs := [7]) (by kernel_rfl) (by simp) ?_
            refine AllReadyIn.cons rfl (fun K hK => ?_) ?_
            refine stepIn_run (by rfl) (fun _ => trivial) _ _ (by rfl) _ _ (by rfl) (by rfl) hrun ?_
            refine hK _ _ ?_; clear hK K
            refine wpAnyIn_ready (rs := [8]) (by kernel_rfl) (by simp) ?_
            refine AllReadyIn.cons rfl (fun K hK => ?_) ?_
            go_simp
            refine hK _ _ ?_; clear hK K
            refine wpAnyIn_ready (rs := [9]) (by kernel_rfl) (by simp) ?_
            refine AllReadyIn.cons rfl (fun K hK => ?_) ?_
            go_simp
            refine hK _ _ ?_; clear hK K
            refine wpAnyIn_ready (rs := [10]) (by kernel_rfl) (by simp) ?_
            refine AllReadyIn.cons rfl (fun K hK => ?_) ?_
            go_simp
            refine hK _ _ ?_; clear hK K
            refine wpAnyIn_done (by kernel_rfl) ?_ _; exact LEAF ⟨#[], []⟩
            exact AllReadyIn.nil
            exact AllReadyIn.nil
            exact AllReadyIn.nil
            exact AllReadyIn.nil
            refine AllReadyIn.cons rfl (fun K hK => ?_) ?_
            refine stepIn_run (by rfl) (fun _ => trivial) _ _ (by rfl) _ _ (by rfl) (by rfl) hrun ?_
            refine hK _ _ ?_; clear hK K
            refine wpAnyIn_ready (rs := [0]) (by kernel_rfl) (by simp) ?_
            refine AllReadyIn.cons rfl (fun K hK => ?_) ?_
            go_simp
            refine hK _ _ ?_; clear hK K
            refine wpAnyIn_ready (rs := [8]) (by kernel_rfl) (by simp) ?_
            refine AllReadyIn.cons rfl (fun K hK => ?_) ?_
            go_simp
            refine hK _ _ ?_; clear hK K
            refine wpAnyIn_ready (rs := [9]) (by kernel_rfl) (by simp) ?_
            refine AllReadyIn.cons rfl (fun K hK => ?_) ?_
            go_simp
            refine hK _ _ ?_; clear hK K
            refine wpAnyIn_ready (rs := [10]) (by kernel_rfl) (by simp) ?_
            refine AllReadyIn.cons rfl (fun K hK => ?_) ?_
            go_simp
            refine hK _ _ ?_; clear hK K
            refine wpAnyIn_done (by kernel_rfl) ?_ _; exact LEAF ⟨#[], []⟩
            exact AllReadyIn.nil
            exact AllReadyIn.nil
            exact AllReadyIn.nil
            exact AllReadyIn.nil
            exact AllReadyIn.nil
            exact AllReadyIn.nil
            exact AllReadyIn.nil
            exact AllReadyIn.nil
            refine AllReadyIn.cons rfl (fun K hK => ?_) ?_
            go_simp
            refine hK _ _ ?_; clear hK K
            refine wpAnyIn_ready (rs := [0, 3, 6]) (by kernel_rfl) (by simp) ?_
            refine AllReadyIn.cons rfl (fun K hK => ?_) ?_
            go_simp
            refine hK _ _ ?_; clear hK K
            refine wpAnyIn_ready (rs := [3, 6]) (by kernel_rfl) (by simp) ?_
            refine AllReadyIn.cons rfl (fun K hK => ?_) ?_
            go_simp
            refine hK _ _ ?_; clear hK K
            refine wpAnyIn_ready (rs := [4, 6]) (by kernel_rfl) (by simp) ?_
            refine AllReadyIn.cons rfl (fun K hK => ?_) ?_
            go_simp
            refine hK _ _ ?_; clear hK K
            refine wpAnyIn_ready (rs := [6]) (by kernel_rfl) (by simp) ?_
            refine AllReadyIn.cons rfl (fun K hK => ?_) ?_
            go_simp
            refine hK _ _ ?_; clear hK K
            refine wpAnyIn_ready (rs := [7]) (by kernel_rfl) (by simp) ?_
            refine AllReadyIn.cons rfl (fun K hK => ?_) ?_
            refine stepIn_run (by rfl) (fun _ => trivial) _ _ (by rfl) _ _ (by rfl) (by rfl) hrun ?_
            refine hK _ _ ?_; clear hK K
            refine wpAnyIn_ready (rs := [8]) (by kernel_rfl) (by simp) ?_
            refine AllReadyIn.cons rfl (fun K hK => ?_) ?_
            go_simp
            refine hK _ _ ?_; clear hK K
            refine wpAnyIn_ready (rs := [9]) (by kernel_rfl) (by simp) ?_
            refine AllReadyIn.cons rfl (fun K hK => ?_) ?_
            go_simp
            refine hK _ _ ?_; clear hK K
            refine wpAnyIn_ready (rs := [10]) (by kernel_rfl) (by simp) ?_
            refine AllReadyIn.cons rfl (fun K hK => ?_) ?_
            go_simp
            refine hK _ _ ?_; clear hK K
            refine wpAnyIn_done (by kernel_rfl) ?_ _; exact LEAF ⟨#[], []⟩
            exact AllReadyIn.nil
            exact AllReadyIn.nil
            exact AllReadyIn.nil
            exact AllReadyIn.nil
            exact AllReadyIn.nil
            refine AllReadyIn.cons rfl (fun K hK => ?_) ?_
            go_simp
            refine hK _ _ ?_; clear hK K
            refine wpAnyIn_ready (rs := [4]) (by kernel_rfl) (by simp) ?_
            refine AllReadyIn.cons rfl (fun K hK => ?_) ?_
            go_simp
            refine hK _ _ ?_; clear hK K
            refine wpAnyIn_ready (rs := [7]) (by kernel_rfl) (by simp) ?_
            refine AllReadyIn.cons rfl (fun K hK => ?_) ?_
            refine stepIn_run (by rfl) (fun _ => trivial) _ _ (by rfl) _ _ (by rfl) (by rfl) hrun ?_
            refine hK _ _ ?_; clear hK K
            refine wpAnyIn_ready (rs := [8]) (by kernel_rfl) (by simp) ?_
            refine AllReadyIn.cons rfl (fun K hK => ?_) ?_
            go_simp
            refine hK _ _ ?_; clear hK K
            refine wpAnyIn_ready (rs := [9]) (by kernel_rfl) (by simp) ?_
            refine AllReadyIn.cons rfl (fun K hK => ?_) ?_
            go_simp
            refine hK _ _ ?_; clear hK K
            refine wpAnyIn_ready (rs := [10]) (by kernel_rfl) (by simp) ?_
            refine AllReadyIn.cons rfl (fun K hK => ?_) ?_
            go_simp
            refine hK _ _ ?_; clear hK K
            refine wpAnyIn_done (by kernel_rfl) ?_ _; exact LEAF ⟨#[], []⟩
            exact AllReadyIn.nil
            exact AllReadyIn.nil
            exact AllReadyIn.nil
            exact AllReadyIn.nil
            exact AllReadyIn.nil
            exact AllReadyIn.nil
            refine AllReadyIn.cons rfl (fun K hK => ?_) ?_
            go_simp
            refine hK _ _ ?_; clear hK K
            refine wpAnyIn_ready (rs := [3]) (by kernel_rfl) (by simp) ?_
            refine AllReadyIn.cons rfl (fun K hK => ?_) ?_
            go_simp
            refine hK _ _ ?_; clear hK K
            refine wpAnyIn_ready (rs := [4]) (by kernel_rfl) (by simp) ?_
            refine AllReadyIn.cons rfl (fun K hK => ?_) ?_
            go_simp
            refine hK _ _ ?_; clear hK K
            refine wpAnyIn_ready (rs := [7]) (by kernel_rfl) (by simp) ?_
            refine AllReadyIn.cons rfl (fun K hK => ?_) ?_
            refine stepIn_run (by rfl) (fun _ => trivial) _ _ (by rfl) _ _ (by rfl) (by rfl) hrun ?_
            refine hK _ _ ?_; clear hK K
            refine wpAnyIn_ready (rs := [8]) (by kernel_rfl) (by simp) ?_
            refine AllReadyIn.cons rfl (fun K hK => ?_) ?_
            go_simp
            refine hK _ _ ?_; clear hK K
            refine wpAnyIn_ready (rs := [9]) (by kernel_rfl) (by simp) ?_
            refine AllReadyIn.cons rfl (fun K hK => ?_) ?_
            go_simp
            refine hK _ _ ?_; clear hK K
            refine wpAnyIn_ready (rs := [10]) (by kernel_rfl) (by simp) ?_
            refine AllReadyIn.cons rfl (fun K hK => ?_) ?_
            go_simp
            refine hK _ _ ?_; clear hK K
            refine wpAnyIn_done (by kernel_rfl) ?_ _; exact LEAF ⟨#[], []⟩
            exact AllReadyIn.nil
            exact AllReadyIn.nil
            exact AllReadyIn.nil
            exact AllReadyIn.nil
            exact AllReadyIn.nil
            exact AllReadyIn.nil
            exact AllReadyIn.nil
            refine AllReadyIn.cons rfl (fun K hK => ?_) ?_
            go_simp
            refine hK _ _ ?_; clear hK K
            refine wpAnyIn_ready (rs := [0, 4, 6]) (by kernel_rfl) (by simp) ?_
            refine AllReadyIn.cons rfl (fun K hK => ?_) ?_
            go_simp
            refine hK _ _ ?_; clear hK K
            refine wpAnyIn_ready (rs := [4, 6]) (by kernel_rfl) (by simp) ?_
            refine AllReadyIn.cons rfl (fun K hK => ?_) ?_
            go_simp
            refine hK _ _ ?_; clear hK K
            refine wpAnyIn_ready (rs := [6]) (by kernel_rfl) (by simp) ?_
            refine AllReadyIn.cons rfl (fun K hK => ?_) ?_
            go_simp
            refine hK _ _ ?_; clear hK K
            refine wpAnyIn_ready (rs := [7]) (by kernel_rfl) (by simp) ?_
            refine AllReadyIn.cons rfl (fun K hK => ?_) ?_
            refine stepIn_run (by rfl) (fun _ => trivial) _ _ (by rfl) _ _ (by rfl) (by rfl) hrun ?_
            refine hK _ _ ?_; clear hK K
            refine wpAnyIn_ready (rs := [8]) (by kernel_rfl) (by simp) ?_
            refine AllReadyIn.cons rfl (fun K hK => ?_) ?_
            go_simp
            refine hK _ _ ?_; clear hK K
            refine wpAnyIn_ready (rs := [9]) (by kernel_rfl) (by simp) ?_
            refine AllReadyIn.cons rfl (fun K hK => ?_) ?_
            go_simp
            refine hK _ _ ?_; clear hK K
            refine wpAnyIn_ready (rs := [10]) (by kernel_rfl) (by simp) ?_
            refine AllReadyIn.cons rfl (fun K hK => ?_) ?_
            go_simp
            refine hK _ _ ?_; clear hK K
            refine wpAnyIn_done (by kernel_rfl) ?_ _; exact LEAF ⟨#[], []⟩
            exact AllReadyIn.nil
            exact AllReadyIn.nil
            exact AllReadyIn.nil
            exact AllReadyIn.nil
            exact AllReadyIn.nil
            refine AllReadyIn.cons rfl (fun K hK => ?_) ?_
            go_simp
            refine hK _ _ ?_; clear hK K
            refine wpAnyIn_ready (rs := [4]) (by kernel_rfl) (by simp) ?_
            refine AllReadyIn.cons rfl (fun K hK => ?_) ?_
            go_simp
            refine hK _ _ ?_; clear hK K
            refine wpAnyIn_ready (rs := [7]) (by kernel_rfl) (by simp) ?_
            refine AllReadyIn.cons rfl (fun K hK => ?_) ?_
            refine stepIn_run (by rfl) (fun _ => trivial) _ _ (by rfl) _ _ (by rfl) (by rfl) hrun ?_
            refine hK _ _ ?_; clear hK K
            refine wpAnyIn_ready (rs := [8]) (by kernel_rfl) (by simp) ?_
            refine AllReadyIn.cons rfl (fun K hK => ?_) ?_
            go_simp
            refine hK _ _ ?_; clear hK K
            refine wpAnyIn_ready (rs := [9]) (by kernel_rfl) (by simp) ?_
            refine AllReadyIn.cons rfl (fun K hK => ?_) ?_
            go_simp
            refine hK _ _ ?_; clear hK K
            refine wpAnyIn_ready (rs := [10]) (by kernel_rfl) (by simp) ?_
            refine AllReadyIn.cons rfl (fun K hK => ?_) ?_
            go_simp
            refine hK _ _ ?_; clear hK K
            refine wpAnyIn_done (by kernel_rfl) ?_ _; exact LEAF ⟨#[], []⟩
            exact AllReadyIn.nil
            exact AllReadyIn.nil
            exact AllReadyIn.nil
            exact AllReadyIn.nil
            exact AllReadyIn.nil
            exact AllReadyIn.nil
            refine AllReadyIn.cons rfl (fun K hK => ?_) ?_
            go_simp
            refine hK _ _ ?_; clear hK K
            refine wpAnyIn_ready (rs := [0, 6]) (by kernel_rfl) (by simp) ?_
            refine AllReadyIn.cons rfl (fun K hK => ?_) ?_
            go_simp
            refine hK _ _ ?_; clear hK K
            refine wpAnyIn_ready (rs := [6]) (by kernel_rfl) (by simp) ?_
            refine AllReadyIn.cons rfl (fun K hK => ?_) ?_
            go_simp
            refine hK _ _ ?_; clear hK K
            refine wpAnyIn_ready (rs := [7]) (by kernel_rfl) (by simp) ?_
            refine AllReadyIn.cons rfl (fun K hK => ?_) ?_
            refine stepIn_run (by rfl) (fun _ => trivial) _ _ (by rfl) _ _ (by rfl) (by rfl) hrun ?_
            refine hK _ _ ?_; clear hK K
            refine wpAnyIn_ready (rs := [8]) (by kernel_rfl) (by simp) ?_
            refine AllReadyIn.cons rfl (fun K hK => ?_) ?_
            go_simp
            refine hK _ _ ?_; clear hK K
            refine wpAnyIn_ready (rs := [9]) (by kernel_rfl) (by simp) ?_
            refine AllReadyIn.cons rfl (fun K hK => ?_) ?_
            go_simp
            refine hK _ _ ?_; clear hK K
            refine wpAnyIn_ready (rs := [10]) (by kernel_rfl) (by simp) ?_
            refine AllReadyIn.cons rfl (fun K hK => ?_) ?_
            go_simp
            refine hK _ _ ?_; clear hK K
            refine wpAnyIn_done (by kernel_rfl) ?_ _; exact LEAF ⟨#[], []⟩
            exact AllReadyIn.nil
            exact AllReadyIn.nil
            exact AllReadyIn.nil
            exact AllReadyIn.nil
            exact AllReadyIn.nil
            refine AllReadyIn.cons rfl (fun K hK => ?_) ?_
            go_simp
            refine hK _ _ ?_; clear hK K
            refine wpAnyIn_ready (rs := [0, 7]) (by kernel_rfl) (by simp) ?_
            refine AllReadyIn.cons rfl (fun K hK => ?_) ?_
            go_simp
            refine hK _ _ ?_; clear hK K
            refine wpAnyIn_ready (rs := [7]) (by kernel_rfl) (by simp) ?_
            refine AllReadyIn.cons rfl (fun K hK => ?_) ?_
            refine stepIn_run (by rfl) (fun _ => trivial) _ _ (by rfl) _ _ (by rfl) (by rfl) hrun ?_
            refine hK _ _ ?_; clear hK K
            refine wpAnyIn_ready (rs := [8]) (by kernel_rfl) (by simp) ?_
            refine AllReadyIn.cons rfl (fun K hK => ?_) ?_
            go_simp
            refine hK _ _ ?_; clear hK K
            refine wpAnyIn_ready (rs := [9]) (by kernel_rfl) (by simp) ?_
            refine AllReadyIn.cons rfl (fun K hK => ?_) ?_
            go_simp
            refine hK _ _ ?_; clear hK K
            refine wpAnyIn_ready (rs := [10]) (by kernel_rfl) (by simp) ?_
            refine AllReadyIn.cons rfl (fun K hK => ?_) ?_
            go_simp
            refine hK _ _ ?_; clear hK K
            refine wpAnyIn_done (by kernel_rfl) ?_ _; exact LEAF ⟨#[], []⟩
            exact AllReadyIn.nil
            exact AllReadyIn.nil
            exact AllReadyIn.nil
            exact AllReadyIn.nil
            refine AllReadyIn.cons rfl (fun K hK => ?_) ?_
            refine stepIn_run (by rfl) (fun _ => trivial) _ _ (by rfl) _ _ (by rfl) (by rfl) hrun ?_
            refine hK _ _ ?_; clear hK K
            refine wpAnyIn_ready (rs := [0]) (by kernel_rfl) (by simp) ?_
            refine AllReadyIn.cons rfl (fun K hK => ?_) ?_
            go_simp
            refine hK _ _ ?_; clear hK K
            refine wpAnyIn_ready (rs := [8]) (by kernel_rfl) (by simp) ?_
            refine AllReadyIn.cons rfl (fun K hK => ?_) ?_
            go_simp
            refine hK _ _ ?_; clear hK K
            refine wpAnyIn_ready (rs := [9]) (by kernel_rfl) (by simp) ?_
            refine AllReadyIn.cons rfl (fun K hK => ?_) ?_
            go_simp
            refine hK _ _ ?_; clear hK K
            refine wpAnyIn_ready (rs := [10]) (by kernel_rfl) (by simp) ?_
            refine AllReadyIn.cons rfl (fun K hK => ?_) ?_
            go_simp
            refine hK _ _ ?_; clear hK K
            refine wpAnyIn_done (by kernel_rfl) ?_ _; exact LEAF ⟨#[], []⟩
            exact AllReadyIn.nil
            exact AllReadyIn.nil
            exact AllReadyIn.nil
            exact AllReadyIn.nil
            exact AllReadyIn.nil
            exact AllReadyIn.nil
            refine AllReadyIn.cons rfl (fun K hK => ?_) ?_
            go_simp
            refine hK _ _ ?_; clear hK K
            refine wpAnyIn_ready (rs := [0, 4]) (by kernel_rfl) (by simp) ?_
            refine AllReadyIn.cons rfl (fun K hK => ?_) ?_
            go_simp
            refine hK _ _ ?_; clear hK K
            refine wpAnyIn_ready (rs := [4]) (by kernel_rfl) (by simp) ?_
            refine AllReadyIn.cons rfl (fun K hK => ?_) ?_
            go_simp
            refine hK _ _ ?_; clear hK K
            refine wpAnyIn_ready (rs := [7]) (by kernel_rfl) (by simp) ?_
            refine AllReadyIn.cons rfl (fun K hK => ?_) ?_
            refine stepIn_run (by rfl) (fun _ => trivial) _ _ (by rfl) _ _ (by rfl) (by rfl) hrun ?_
            refine hK _ _ ?_; clear hK K
            refine wpAnyIn_ready (rs := [8]) (by kernel_rfl) (by simp) ?_
            refine AllReadyIn.cons rfl (fun K hK => ?_) ?_
            go_simp
            refine hK _ _ ?_; clear hK K
            refine wpAnyIn_ready (rs := [9]) (by kernel_rfl) (by simp) ?_
            refine AllReadyIn.cons rfl (fun K hK => ?_) ?_
            go_simp
            refine hK _ _ ?_; clear hK K
            refine wpAnyIn_ready (rs := [10]) (by kernel_rfl) (by simp) ?_
            refine AllReadyIn.cons rfl (fun K hK => ?_) ?_
            go_simp
            refine hK _ _ ?_; clear hK K
            refine wpAnyIn_done (by kernel_rfl) ?_ _; exact LEAF ⟨#[], []⟩
            exact AllReadyIn.nil
            exact AllReadyIn.nil
            exact AllReadyIn.nil
            exact AllReadyIn.nil
            exact AllReadyIn.nil
            refine AllReadyIn.cons rfl (fun K hK => ?_) ?_
            go_simp
            refine hK _ _ ?_; clear hK K
            refine wpAnyIn_ready (rs := [0, 7]) (by kernel_rfl) (by simp) ?_
            refine AllReadyIn.cons rfl (fun K hK => ?_) ?_
            go_simp
            refine hK _ _ ?_; clear hK K
            refine wpAnyIn_ready (rs := [7]) (by kernel_rfl) (by simp) ?_
            refine AllReadyIn.cons rfl (fun K hK => ?_) ?_
            refine stepIn_run (by rfl) (fun _ => trivial) _ _ (by rfl) _ _ (by rfl) (by rfl) hrun ?_
            refine hK _ _ ?_; clear hK K
            refine wpAnyIn_ready (rs := [8]) (by kernel_rfl) (by simp) ?_
            refine AllReadyIn.cons rfl (fun K hK => ?_) ?_
            go_simp
            refine hK _ _ ?_; clear hK K
            refine wpAnyIn_ready (rs := [9]) (by kernel_rfl) (by simp) ?_
            refine AllReadyIn.cons rfl (fun K hK => ?_) ?_
            go_simp
            refine hK _ _ ?_; clear hK K
            refine wpAnyIn_ready (rs := [10]) (by kernel_rfl) (by simp) ?_
            refine AllReadyIn.cons rfl (fun K hK => ?_) ?_
            go_simp
            refine hK _ _ ?_; clear hK K
            refine wpAnyIn_done (by kernel_rfl) ?_ _; exact LEAF ⟨#[], []⟩
            exact AllReadyIn.nil
            exact AllReadyIn.nil
            exact AllReadyIn.nil
            exact AllReadyIn.nil
            refine AllReadyIn.cons rfl (fun K hK => ?_) ?_
            refine stepIn_run (by rfl) (fun _ => trivial) _ _ (by rfl) _ _ (by rfl) (by rfl) hrun ?_
            refine hK _ _ ?_; clear hK K
            refine wpAnyIn_ready (rs := [0]) (by kernel_rfl) (by simp) ?_
            refine AllReadyIn.cons rfl (fun K hK => ?_) ?_
            go_simp
            refine hK _ _ ?_; clear hK K
            refine wpAnyIn_ready (rs := [8]) (by kernel_rfl) (by simp) ?_
            refine AllReadyIn.cons rfl (fun K hK => ?_) ?_
            go_simp
            refine hK _ _ ?_; clear hK K
            refine wpAnyIn_ready (rs := [9]) (by kernel_rfl) (by simp) ?_
            refine AllReadyIn.cons rfl (fun K hK => ?_) ?_
            go_simp
            refine hK _ _ ?_; clear hK K
            refine wpAnyIn_ready (rs := [10]) (by kernel_rfl) (by simp) ?_
            refine AllReadyIn.cons rfl (fun K hK => ?_) ?_
            go_simp
            refine hK _ _ ?_; clear hK K
            refine wpAnyIn_done (by kernel_rfl) ?_ _; exact LEAF ⟨#[], []⟩
            exact AllReadyIn.nil
            exact AllReadyIn.nil
            exact AllReadyIn.nil
            exact AllReadyIn.nil
            exact AllReadyIn.nil
            exact AllReadyIn.nil
            exact AllReadyIn.nil
            refine AllReadyIn.cons rfl (fun K hK => ?_) ?_
            go_simp
            refine hK _ _ ?_; clear hK K
            refine wpAnyIn_ready (rs := [0, 3]) (by kernel_rfl) (by simp) ?_
            refine AllReadyIn.cons rfl (fun K hK => ?_) ?_
            go_simp
            refine hK _ _ ?_; clear hK K
            refine wpAnyIn_ready (rs := [3]) (by kernel_rfl) (by simp) ?_
            refine AllReadyIn.cons rfl (fun K hK => ?_) ?_
            go_simp
            refine hK _ _ ?_; clear hK K
            refine wpAnyIn_ready (rs := [4]) (by kernel_rfl) (by simp) ?_
            refine AllReadyIn.cons rfl (fun K hK => ?_) ?_
            go_simp
            refine hK _ _ ?_; clear hK K
            refine wpAnyIn_ready (rs := [7]) (by kernel_rfl) (by simp) ?_
            refine AllReadyIn.cons rfl (fun K hK => ?_) ?_
            refine stepIn_run (by rfl) (fun _ => trivial) _ _ (by rfl) _ _ (by rfl) (by rfl) hrun ?_
            refine hK _ _ ?_; clear hK K
            refine wpAnyIn_ready (rs := [8]) (by kernel_rfl) (by simp) ?_
            refine AllReadyIn.cons rfl (fun K hK => ?_) ?_
            go_simp
            refine hK _ _ ?_; clear hK K
            refine wpAnyIn_ready (rs := [9]) (by kernel_rfl) (by simp) ?_
            refine AllReadyIn.cons rfl (fun K hK => ?_) ?_
            go_simp
            refine hK _ _ ?_; clear hK K
            refine wpAnyIn_ready (rs := [10]) (by kernel_rfl) (by simp) ?_
            refine AllReadyIn.cons rfl (fun K hK => ?_) ?_
            go_simp
            refine hK _ _ ?_; clear hK K
            refine wpAnyIn_done (by kernel_rfl) ?_ _; exact LEAF ⟨#[], []⟩
            exact AllReadyIn.nil
            exact AllReadyIn.nil
            exact AllReadyIn.nil
            exact AllReadyIn.nil
            exact AllReadyIn.nil
            exact AllReadyIn.nil
            refine AllReadyIn.cons rfl (fun K hK => ?_) ?_
            go_simp
            refine hK _ _ ?_; clear hK K
            refine wpAnyIn_ready (rs := [0, 4]) (by kernel_rfl) (by simp) ?_
            refine AllReadyIn.cons rfl (fun K hK => ?_) ?_
            go_simp
            refine hK _ _ ?_; clear hK K
            refine wpAnyIn_ready (rs := [4]) (by kernel_rfl) (by simp) ?_
            refine AllReadyIn.cons rfl (fun K hK => ?_) ?_
            go_simp
            refine hK _ _ ?_; clear hK K
            refine wpAnyIn_ready (rs := [7]) (by kernel_rfl) (by simp) ?_
            refine AllReadyIn.cons rfl (fun K hK => ?_) ?_
            refine stepIn_run (by rfl) (fun _ => trivial) _ _ (by rfl) _ _ (by rfl) (by rfl) hrun ?_
            refine hK _ _ ?_; clear hK K
            refine wpAnyIn_ready (rs := [8]) (by kernel_rfl) (by simp) ?_
            refine AllReadyIn.cons rfl (fun K hK => ?_) ?_
            go_simp
            refine hK _ _ ?_; clear hK K
            refine wpAnyIn_ready (rs := [9]) (by kernel_rfl) (by simp) ?_
            refine AllReadyIn.cons rfl (fun K hK => ?_) ?_
            go_simp
            refine hK _ _ ?_; clear hK K
            refine wpAnyIn_ready (rs := [10]) (by kernel_rfl) (by simp) ?_
            refine AllReadyIn.cons rfl (fun K hK => ?_) ?_
            go_simp
            refine hK _ _ ?_; clear hK K
            refine wpAnyIn_done (by kernel_rfl) ?_ _; exact LEAF ⟨#[], []⟩
            exact AllReadyIn.nil
            exact AllReadyIn.nil
            exact AllReadyIn.nil
            exact AllReadyIn.nil
            exact AllReadyIn.nil
            refine AllReadyIn.cons rfl (fun K hK => ?_) ?_
            go_simp
            refine hK _ _ ?_; clear hK K
            refine wpAnyIn_ready (rs := [0, 7]) (by kernel_rfl) (by simp) ?_
            refine AllReadyIn.cons rfl (fun K hK => ?_) ?_
            go_simp
            refine hK _ _ ?_; clear hK K
            refine wpAnyIn_ready (rs := [7]) (by kernel_rfl) (by simp) ?_
            refine AllReadyIn.cons rfl (fun K hK => ?_) ?_
            refine stepIn_run (by rfl) (fun _ => trivial) _ _ (by rfl) _ _ (by rfl) (by rfl) hrun ?_
            refine hK _ _ ?_; clear hK K
            refine wpAnyIn_ready (rs := [8]) (by kernel_rfl) (by simp) ?_
            refine AllReadyIn.cons rfl (fun K hK => ?_) ?_
            go_simp
            refine hK _ _ ?_; clear hK K
            refine wpAnyIn_ready (rs := [9]) (by kernel_rfl) (by simp) ?_
            refine AllReadyIn.cons rfl (fun K hK => ?_) ?_
            go_simp
            refine hK _ _ ?_; clear hK K
            refine wpAnyIn_ready (rs := [10]) (by kernel_rfl) (by simp) ?_
            refine AllReadyIn.cons rfl (fun K hK => ?_) ?_
            go_simp
            refine hK _ _ ?_; clear hK K
            refine wpAnyIn_done (by kernel_rfl) ?_ _; exact LEAF ⟨#[], []⟩
            exact AllReadyIn.nil
            exact AllReadyIn.nil
            exact AllReadyIn.nil
            exact AllReadyIn.nil
            refine AllReadyIn.cons rfl (fun K hK => ?_) ?_
            refine stepIn_run (by rfl) (fun _ => trivial) _ _ (by rfl) _ _ (by rfl) (by rfl) hrun ?_
            refine hK _ _ ?_; clear hK K
            refine wpAnyIn_ready (rs := [0]) (by kernel_rfl) (by simp) ?_
            refine AllReadyIn.cons rfl (fun K hK => ?_) ?_
            go_simp
            refine hK _ _ ?_; clear hK K
            refine wpAnyIn_ready (rs := [8]) (by kernel_rfl) (by simp) ?_
            refine AllReadyIn.cons rfl (fun K hK => ?_) ?_
            go_simp
            refine hK _ _ ?_; clear hK K
            refine wpAnyIn_ready (rs := [9]) (by kernel_rfl) (by simp) ?_
            refine AllReadyIn.cons rfl (fun K hK => ?_) ?_
            go_simp
            refine hK _ _ ?_; clear hK K
            refine wpAnyIn_ready (rs := [10]) (by kernel_rfl) (by simp) ?_
            refine AllReadyIn.cons rfl (fun K hK => ?_) ?_
            go_simp
            refine hK _ _ ?_; clear hK K
            refine wpAnyIn_done (by kernel_rfl) ?_ _; exact LEAF ⟨#[], []⟩
            exact AllReadyIn.nil
            exact AllReadyIn.nil
            exact AllReadyIn.nil
            exact AllReadyIn.nil
            exact AllReadyIn.nil
            exact AllReadyIn.nil
            exact AllReadyIn.nil
            exact AllReadyIn.nil
            exact AllReadyIn.nil
            refine AllReadyIn.cons rfl (fun K hK => ?_) ?_
            go_simp
            refine hK _ _ ?_; clear hK K
            refine wpAnyIn_ready (rs := [0, 2, 6]) (by kernel_rfl) (by simp) ?_
            refine AllReadyIn.cons rfl (fun K hK => ?_) ?_
            go_simp
            refine hK _ _ ?_; clear hK K
            refine wpAnyIn_ready (rs := [2, 6]) (by kernel_rfl) (by simp) ?_
            refine AllReadyIn.cons rfl (fun K hK => ?_) ?_
            go_simp
            refine hK _ _ ?_; clear hK K
            refine wpAnyIn_ready (rs := [3, 6]) (by kernel_rfl) (by simp) ?_
            refine AllReadyIn.cons rfl (fun K hK => ?_) ?_
            go_simp
            refine hK _ _ ?_; clear hK K
            refine wpAnyIn_ready (rs := [4, 6]) (by kernel_rfl) (by simp) ?_
            refine AllReadyIn.cons rfl (fun K hK => ?_) ?_
            go_simp
            refine hK _ _ ?_; clear hK K
            refine wpAnyIn_ready (rs := [6]) (by kernel_rfl) (by simp) ?_
            refine AllReadyIn.cons rfl (fun K hK => ?_) ?_
            go_simp
            refine hK _ _ ?_; clear hK K
            refine wpAnyIn_ready (rs := [7]) (by kernel_rfl) (by simp) ?_
            refine AllReadyIn.cons rfl (fun K hK => ?_) ?_
            refine stepIn_run (by rfl) (fun _ => trivial) _ _ (by rfl) _ _ (by rfl) (by rfl) hrun ?_
            refine hK _ _ ?_; clear hK K
            refine wpAnyIn_ready (rs := [8]) (by kernel_rfl) (by simp) ?_
            refine AllReadyIn.cons rfl (fun K hK => ?_) ?_
            go_simp
            refine hK _ _ ?_; clear hK K
            refine wpAnyIn_ready (rs := [9]) (by kernel_rfl) (by simp) ?_
            refine AllReadyIn.cons rfl (fun K hK => ?_) ?_
            go_simp
            refine hK _ _ ?_; clear hK K
            refine wpAnyIn_ready (rs := [10]) (by kernel_rfl) (by simp) ?_
            refine AllReadyIn.cons rfl (fun K hK => ?_) ?_
            go_simp
            refine hK _ _ ?_; clear hK K
            refine wpAnyIn_done (by kernel_rfl) ?_ _; exact LEAF ⟨#[], []⟩
            exact AllReadyIn.nil
            exact AllReadyIn.nil
            exact AllReadyIn.nil
            exact AllReadyIn.nil
            exact AllReadyIn.nil
            refine AllReadyIn.cons rfl (fun K hK => ?_) ?_
            go_simp
            refine hK _ _ ?_; clear hK K
            refine wpAnyIn_ready (rs := [4]) (by kernel_rfl) (by simp) ?_
            refine AllReadyIn.cons rfl (fun K hK => ?_) ?_
            go_simp
            refine hK _ _ ?_; clear hK K
            refine wpAnyIn_ready (rs := [7]) (by kernel_rfl) (by simp) ?_
            refine AllReadyIn.cons rfl (fun K hK => ?_) ?_
            refine stepIn_run (by rfl) (fun _ => trivial) _ _ (by rfl) _ _ (by rfl) (by rfl) hrun ?_
            refine hK _ _ ?_; clear hK K
            refine wpAnyIn_ready (rs := [8]) (by kernel_rfl) (by simp) ?_
            refine AllReadyIn.cons rfl (fun K hK => ?_) ?_
            go_simp
            refine hK _ _ ?_; clear hK K
            refine wpAnyIn_ready (rs := [9]) (by kernel_rfl) (by simp) ?_
            refine AllReadyIn.cons rfl (fun K hK => ?_) ?_
            go_simp
            refine hK _ _ ?_; clear hK K
            refine wpAnyIn_ready (rs := [10]) (by kernel_rfl) (by simp) ?_
            refine AllReadyIn.cons rfl (fun K hK => ?_) ?_
            go_simp
            refine hK _ _ ?_; clear hK K
            refine wpAnyIn_done (by kernel_rfl) ?_ _; exact LEAF ⟨#[], []⟩
            exact AllReadyIn.nil
            exact AllReadyIn.nil
            exact AllReadyIn.nil
            exact AllReadyIn.nil
            exact AllReadyIn.nil
            exact AllReadyIn.nil
            refine AllReadyIn.cons rfl (fun K hK => ?_) ?_
            go_simp
            refine hK _ _ ?_; clear hK K
            refine wpAnyIn_ready (rs := [3]) (by kernel_rfl) (by simp) ?_
            refine AllReadyIn.cons rfl (fun K hK => ?_) ?_
            go_simp
            refine hK _ _ ?_; clear hK K
            refine wpAnyIn_ready (rs := [4]) (by kernel_rfl) (by simp) ?_
            refine AllReadyIn.cons rfl (fun K hK => ?_) ?_
            go_simp
            refine hK _ _ ?_; clear hK K
            refine wpAnyIn_ready (rs := [7]) (by kernel_rfl) (by simp) ?_
            refine AllReadyIn.cons rfl (fun K hK => ?_) ?_
            refine stepIn_run (by rfl) (fun _ => trivial) _ _ (by rfl) _ _ (by rfl) (by rfl) hrun ?_
            refine hK _ _ ?_; clear hK K
            refine wpAnyIn_ready (rs := [8]) (by kernel_rfl) (by simp) ?_
            refine AllReadyIn.cons rfl (fun K hK => ?_) ?_
            go_simp
            refine hK _ _ ?_; clear hK K
            refine wpAnyIn_ready (rs := [9]) (by kernel_rfl) (by simp) ?_
            refine AllReadyIn.cons rfl (fun K hK => ?_) ?_
            go_simp
            refine hK _ _ ?_; clear hK K
            refine wpAnyIn_ready (rs := [10]) (by kernel_rfl) (by simp) ?_
            refine AllReadyIn.cons rfl (fun K hK => ?_) ?_
            go_simp
            refine hK _ _ ?_; clear hK K
            refine wpAnyIn_done (by kernel_rfl) ?_ _; exact LEAF ⟨#[], []⟩
            exact AllReadyIn.nil
            exact AllReadyIn.nil
            exact AllReadyIn.nil
            exact AllReadyIn.nil
            exact AllReadyIn.nil
            exact AllReadyIn.nil
            exact AllReadyIn.nil
            refine AllReadyIn.cons rfl (fun K hK => ?_) ?_
            go_simp
            refine hK _ _ ?_; clear hK K
            refine wpAnyIn_ready (rs := [2]) (by kernel_rfl) (by simp) ?_
            refine AllReadyIn.cons rfl (fun K hK => ?_) ?_
            go_simp
            refine hK _ _ ?_; clear hK K
            refine wpAnyIn_ready (rs := [3]) (by kernel_rfl) (by simp) ?_
            refine AllReadyIn.cons rfl (fun K hK => ?_) ?_
            go_simp
            refine hK _ _ ?_; clear hK K
            refine wpAnyIn_ready (rs := [4]) (by kernel_rfl) (by simp) ?_
            refine AllReadyIn.cons rfl (fun K hK => ?_) ?_
            go_simp
            refine hK _ _ ?_; clear hK K
            refine wpAnyIn_ready (rs := [7]) (by kernel_rfl) (by simp) ?_
            refine AllReadyIn.cons rfl (fun K hK => ?_) ?_
            refine stepIn_run (by rfl) (fun _ => trivial) _ _ (by rfl) _ _ (by rfl) (by rfl) hrun ?_
            refine hK _ _ ?_; clear hK K
            refine wpAnyIn_ready (rs := [8]) (by kernel_rfl) (by simp) ?_
            refine AllReadyIn.cons rfl (fun K hK => ?_) ?_
            go_simp
            refine hK _ _ ?_; clear hK K
            refine wpAnyIn_ready (rs := [9]) (by kernel_rfl) (by simp) ?_
            refine AllReadyIn.cons rfl (fun K hK => ?_) ?_
            go_simp
            refine hK _ _ ?_; clear hK K
            refine wpAnyIn_ready (rs := [10]) (by kernel_rfl) (by simp) ?_
            refine AllReadyIn.cons rfl (fun K hK => ?_) ?_
            go_simp
            refine hK _ _ ?_; clear hK K
            refine wpAnyIn_done (by kernel_rfl) ?_ _; exact LEAF ⟨#[], []⟩
            exact AllReadyIn.nil
            exact AllReadyIn.nil
            exact AllReadyIn.nil
            exact AllReadyIn.nil
            exact AllReadyIn.nil
            exact AllReadyIn.nil
            exact AllReadyIn.nil
            exact AllReadyIn.nil
            refine AllReadyIn.cons rfl (fun K hK => ?_) ?_
            go_simp
            refine hK _ _ ?_; clear hK K
            refine wpAnyIn_ready (rs := [0, 3, 6]) (by kernel_rfl) (by simp) ?_
            refine AllReadyIn.cons rfl (fun K hK => ?_) ?_
            go_simp
            refine hK _ _ ?_; clear hK K
            refine wpAnyIn_ready (rs := [3, 6]) (by kernel_rfl) (by simp) ?_
            refine AllReadyIn.cons rfl (fun K hK => ?_) ?_
            go_simp
            refine hK _ _ ?_; clear hK K
            refine wpAnyIn_ready (rs := [4, 6]) (by kernel_rfl) (by simp) ?_
            refine AllReadyIn.cons rfl (fun K hK => ?_) ?_
            go_simp
            refine hK _ _ ?_; clear hK K
            refine wpAnyIn_ready (rs := [6]) (by kernel_rfl) (by simp) ?_
            refine AllReadyIn.cons rfl (fun K hK => ?_) ?_
            go_simp
            refine hK _ _ ?_; clear hK K
            refine wpAnyIn_ready (rs := [7]) (by kernel_rfl) (by simp) ?_
            refine AllReadyIn.cons rfl (fun K hK => ?_) ?_
            refine stepIn_run (by rfl) (fun _ => trivial) _ _ (by rfl) _ _ (by rfl) (by rfl) hrun ?_
            refine hK _ _ ?_; clear hK K
            refine wpAnyIn_ready (rs := [8]) (by kernel_rfl) (by simp) ?_
            refine AllReadyIn.cons rfl (fun K hK => ?_) ?_
            go_simp
            refine hK _ _ ?_; clear hK K
            refine wpAnyIn_ready (rs := [9]) (by kernel_rfl) (by simp) ?_
            refine AllReadyIn.cons rfl (fun K hK => ?_) ?_
            go_simp
            refine hK _ _ ?_; clear hK K
            refine wpAnyIn_ready (rs := [10]) (by kernel_rfl) (by simp) ?_
            refine AllReadyIn.cons rfl (fun K hK => ?_) ?_
            go_simp
            refine hK _ _ ?_; clear hK K
            refine wpAnyIn_done (by kernel_rfl) ?_ _; exact LEAF ⟨#[], []⟩
            exact AllReadyIn.nil
            exact AllReadyIn.nil
            exact AllReadyIn.nil
            exact AllReadyIn.nil
            exact AllReadyIn.nil
            refine AllReadyIn.cons rfl (fun K hK => ?_) ?_
            go_simp
            refine hK _ _ ?_; clear hK K
            refine wpAnyIn_ready (rs := [4]) (by kernel_rfl) (by simp) ?_
            refine AllReadyIn.cons rfl (fun K hK => ?_) ?_
            go_simp
            refine hK _ _ ?_; clear hK K
            refine wpAnyIn_ready (rs := [7]) (by kernel_rfl) (by simp) ?_
            refine AllReadyIn.cons rfl (fun K hK => ?_) ?_
            refine stepIn_run (by rfl) (fun _ => trivial) _ _ (by rfl) _ _ (by rfl) (by rfl) hrun ?_
            refine hK _ _ ?_; clear hK K
            refine wpAnyIn_ready (rs := [8]) (by kernel_rfl) (by simp) ?_
            refine AllReadyIn.cons rfl (fun K hK => ?_) ?_
            go_simp
            refine hK _ _ ?_; clear hK K
            refine wpAnyIn_ready (rs := [9]) (by kernel_rfl) (by simp) ?_
            refine AllReadyIn.cons rfl (fun K hK => ?_) ?_
            go_simp
            refine hK _ _ ?_; clear hK K
            refine wpAnyIn_ready (rs := [10]) (by kernel_rfl) (by simp) ?_
            refine AllReadyIn.cons rfl (fun K hK => ?_) ?_
            go_simp
            refine hK _ _ ?_; clear hK K
            refine wpAnyIn_done (by kernel_rfl) ?_ _; exact LEAF ⟨#[], []⟩
            exact AllReadyIn.nil
            exact AllReadyIn.nil
            exact AllReadyIn.nil
            exact AllReadyIn.nil
            exact AllReadyIn.nil
            exact AllReadyIn.nil
            refine AllReadyIn.cons rfl (fun K hK => ?_) ?_
            go_simp
            refine hK _ _ ?_; clear hK K
            refine wpAnyIn_ready (rs := [3]) (by kernel_rfl) (by simp) ?_
            refine AllReadyIn.cons rfl (fun K hK => ?_) ?_
            go_simp
            refine hK _ _ ?_; clear hK K
            refine wpAnyIn_ready (rs := [4]) (by kernel_rfl) (by simp) ?_
            refine AllReadyIn.cons rfl (fun K hK => ?_) ?_
            go_simp
            refine hK _ _ ?_; clear hK K
            refine wpAnyIn_ready (rs := [7]) (by kernel_rfl) (by simp) ?_
            refine AllReadyIn.cons rfl (fun K hK => ?_) ?_
            refine stepIn_run (by rfl) (fun _ => trivial) _ _ (by rfl) _ _ (by rfl) (by rfl) hrun ?_
            refine hK _ _ ?_; clear hK K
            refine wpAnyIn_ready (rs := [8]) (by kernel_rfl) (by simp) ?_
            refine AllReadyIn.cons rfl (fun K hK => ?_) ?_
            go_simp
            refine hK _ _ ?_; clear hK K
            refine wpAnyIn_ready (rs := [9]) (by kernel_rfl) (by simp) ?_
            refine AllReadyIn.cons rfl (fun K hK => ?_) ?_
            go_simp
            refine hK _ _ ?_; clear hK K
            refine wpAnyIn_ready (rs := [10]) (by kernel_rfl) (by simp) ?_
            refine AllReadyIn.cons rfl (fun K hK => ?_) ?_
            go_simp
            refine hK _ _ ?_; clear hK K
            refine wpAnyIn_done (by kernel_rfl) ?_ _; exact LEAF ⟨#[], []⟩
            exact AllReadyIn.nil
            exact AllReadyIn.nil
            exact AllReadyIn.nil
            exact AllReadyIn.nil
            exact AllReadyIn.nil
            exact AllReadyIn.nil
            exact AllReadyIn.nil
            refine AllReadyIn.cons rfl (fun K hK => ?_) ?_
            go_simp
            refine hK _ _ ?_; clear hK K
            refine wpAnyIn_ready (rs := [0, 4, 6]) (by kernel_rfl) (by simp) ?_
            refine AllReadyIn.cons rfl (fun K hK => ?_) ?_
            go_simp
            refine hK _ _ ?_; clear hK K
            refine wpAnyIn_ready (rs := [4, 6]) (by kernel_rfl) (by simp) ?_
            refine AllReadyIn.cons rfl (fun K hK => ?_) ?_
            go_simp
            refine hK _ _ ?_; clear hK K
            refine wpAnyIn_ready (rs := [6]) (by kernel_rfl) (by simp) ?_
            refine AllReadyIn.cons rfl (fun K hK => ?_) ?_
            go_simp
            refine hK _ _ ?_; clear hK K
            refine wpAnyIn_ready (rs := [7]) (by kernel_rfl) (by simp) ?_
            refine AllReadyIn.cons rfl (fun K hK => ?_) ?_
            refine stepIn_run (by rfl) (fun _ => trivial) _ _ (by rfl) _ _ (by rfl) (by rfl) hrun ?_
            refine hK _ _ ?_; clear hK K
            refine wpAnyIn_ready (rs := [8]) (by kernel_rfl) (by simp) ?_
            refine AllReadyIn.cons rfl (fun K hK => ?_) ?_
            go_simp
            refine hK _ _ ?_; clear hK K
            refine wpAnyIn_ready (rs := [9]) (by kernel_rfl) (by simp) ?_
            refine AllReadyIn.cons rfl (fun K hK => ?_) ?_
            go_simp
            refine hK _ _ ?_; clear hK K
            refine wpAnyIn_ready (rs := [10]) (by kernel_rfl) (by simp) ?_
            refine AllReadyIn.cons rfl (fun K hK => ?_) ?_
            go_simp
            refine hK _ _ ?_; clear hK K
            refine wpAnyIn_done (by kernel_rfl) ?_ _; exact LEAF ⟨#[], []⟩
            exact AllReadyIn.nil
            exact AllReadyIn.nil
            exact AllReadyIn.nil
            exact AllReadyIn.nil
            exact AllReadyIn.nil
            refine AllReadyIn.cons rfl (fun K hK => ?_) ?_
            go_simp
            refine hK _ _ ?_; clear hK K
            refine wpAnyIn_ready (rs := [4]) (by kernel_rfl) (by simp) ?_
            refine AllReadyIn.cons rfl (fun K hK => ?_) ?_
            go_simp
            refine hK _ _ ?_; clear hK K
            refine wpAnyIn_ready (rs := [7]) (by kernel_rfl) (by simp) ?_
            refine AllReadyIn.cons rfl (fun K hK => ?_) ?_
            refine stepIn_run (by rfl) (fun _ => trivial) _ _ (by rfl) _ _ (by rfl) (by rfl) hrun ?_
            refine hK _ _ ?_; clear hK K
            refine wpAnyIn_ready (rs := [8]) (by kernel_rfl) (by simp) ?_
            refine AllReadyIn.cons rfl (fun K hK => ?_) ?_
            go_simp
            refine hK _ _ ?_; clear hK K
            refine wpAnyIn_ready (rs := [9]) (by kernel_rfl) (by simp) ?_
            refine AllReadyIn.cons rfl (fun K hK => ?_) ?_
            go_simp
            refine hK _ _ ?_; clear hK K
            refine wpAnyIn_ready (rs := [10]) (by kernel_rfl) (by simp) ?_
            refine AllReadyIn.cons rfl (fun K hK => ?_) ?_
            go_simp
            refine hK _ _ ?_; clear hK K
            refine wpAnyIn_done (by kernel_rfl) ?_ _; exact LEAF ⟨#[], []⟩
            exact AllReadyIn.nil
            exact AllReadyIn.nil
            exact AllReadyIn.nil
            exact AllReadyIn.nil
            exact AllReadyIn.nil
            exact AllReadyIn.nil
            refine AllReadyIn.cons rfl (fun K hK => ?_) ?_
            go_simp
            refine hK _ _ ?_; clear hK K
            refine wpAnyIn_ready (rs := [0, 6]) (by kernel_rfl) (by simp) ?_
            refine AllReadyIn.cons rfl (fun K hK => ?_) ?_
            go_simp
            refine hK _ _ ?_; clear hK K
            refine wpAnyIn_ready (rs := [6]) (by kernel_rfl) (by simp) ?_
            refine AllReadyIn.cons rfl (fun K hK => ?_) ?_
            go_simp
            refine hK _ _ ?_; clear hK K
            refine wpAnyIn_ready (rs := [7]) (by kernel_rfl) (by simp) ?_
            refine AllReadyIn.cons rfl (fun K hK => ?_) ?_
            refine stepIn_run (by rfl) (fun _ => trivial) _ _ (by rfl) _ _ (by rfl) (by rfl) hrun ?_
            refine hK _ _ ?_; clear hK K
            refine wpAnyIn_ready (rs := [8]) (by kernel_rfl) (by simp) ?_
            refine AllReadyIn.cons rfl (fun K hK => ?_) ?_
            go_simp
            refine hK _ _ ?_; clear hK K
            refine wpAnyIn_ready (rs := [9]) (by kernel_rfl) (by simp) ?_
            refine AllReadyIn.cons rfl (fun K hK => ?_) ?_
            go_simp
            refine hK _ _ ?_; clear hK K
            refine wpAnyIn_ready (rs := [10]) (by kernel_rfl) (by simp) ?_
            refine AllReadyIn.cons rfl (fun K hK => ?_) ?_
            go_simp
            refine hK _ _ ?_; clear hK K
            refine wpAnyIn_done (by kernel_rfl) ?_ _; exact LEAF ⟨#[], []⟩
            exact AllReadyIn.nil
            exact AllReadyIn.nil
            exact AllReadyIn.nil
            exact AllReadyIn.nil
            exact AllReadyIn.nil
            refine AllReadyIn.cons rfl (fun K hK => ?_) ?_
            go_simp
            refine hK _ _ ?_; clear hK K
            refine wpAnyIn_ready (rs := [0, 7]) (by kernel_rfl) (by simp) ?_
            refine AllReadyIn.cons rfl (fun K hK => ?_) ?_
            go_simp
            refine hK _ _ ?_; clear hK K
            refine wpAnyIn_ready (rs := [7]) (by kernel_rfl) (by simp) ?_
            refine AllReadyIn.cons rfl (fun K hK => ?_) ?_
            refine stepIn_run (by rfl) (fun _ => trivial) _ _ (by rfl) _ _ (by rfl) (by rfl) hrun ?_
            refine hK _ _ ?_; clear hK K
            refine wpAnyIn_ready (rs := [8]) (by kernel_rfl) (by simp) ?_
            refine AllReadyIn.cons rfl (fun K hK => ?_) ?_
            go_simp
            refine hK _ _ ?_; clear hK K
            refine wpAnyIn_ready (rs := [9]) (by kernel_rfl) (by simp) ?_
            refine AllReadyIn.cons rfl (fun K hK => ?_) ?_
            go_simp
            refine hK _ _ ?_; clear hK K
            refine wpAnyIn_ready (rs := [10]) (by kernel_rfl) (by simp) ?_
            refine AllReadyIn.cons rfl (fun K hK => ?_) ?_
            go_simp
            refine hK _ _ ?_; clear hK K
            refine wpAnyIn_done (by kernel_rfl) ?_ _; exact LEAF ⟨#[], []⟩
            exact AllReadyIn.nil
            exact AllReadyIn.nil
            exact AllReadyIn.nil
            exact AllReadyIn.nil
            refine AllReadyIn.cons rfl (fun K hK => ?_) ?_
            refine stepIn_run (by rfl) (fun _ => trivial) _ _ (by rfl) _ _ (by rfl) (by rfl) hrun ?_
            refine hK _ _ ?_; clear hK K
            refine wpAnyIn_ready (rs := [0]) (by kernel_rfl) (by simp) ?_
            refine AllReadyIn.cons rfl (fun K hK => ?_) ?_
            go_simp
            refine hK _ _ ?_; clear hK K
            refine wpAnyIn_ready (rs := [8]) (by kernel_rfl) (by simp) ?_
            refine AllReadyIn.cons rfl (fun K hK => ?_) ?_
            go_simp
            refine hK _ _ ?_; clear hK K
            refine wpAnyIn_ready (rs := [9]) (by kernel_rfl) (by simp) ?_
            refine AllReadyIn.cons rfl (fun K hK => ?_) ?_
            go_simp
            refine hK _ _ ?_; clear hK K
            refine wpAnyIn_ready (rs := [10]) (by kernel_rfl) (by simp) ?_
            refine AllReadyIn.cons rfl (fun K hK => ?_) ?_
            go_simp
            refine hK _ _ ?_; clear hK K
            refine wpAnyIn_done (by kernel_rfl) ?_ _; exact LEAF ⟨#[], []⟩
            exact AllReadyIn.nil
            exact AllReadyIn.nil
            exact AllReadyIn.nil
            exact AllReadyIn.nil
            exact AllReadyIn.nil
            exact AllReadyIn.nil
            refine AllReadyIn.cons rfl (fun K hK => ?_) ?_
            go_simp
            refine hK _ _ ?_; clear hK K
            refine wpAnyIn_ready (rs := [0, 4]) (by kernel_rfl) (by simp) ?_
            refine AllReadyIn.cons rfl (fun K hK => ?_) ?_
            go_simp
            refine hK _ _ ?_; clear hK K
            refine wpAnyIn_ready (rs := [4]) (by kernel_rfl) (by simp) ?_
            refine AllReadyIn.cons rfl (fun K hK => ?_) ?_
            go_simp
            refine hK _ _ ?_; clear hK K
            refine wpAnyIn_ready (rs := [7]) (by kernel_rfl) (by simp) ?_
            refine AllReadyIn.cons rfl (fun K hK => ?_) ?_
            refine stepIn_run (by rfl) (fun _ => trivial) _ _ (by rfl) _ _ (by rfl) (by rfl) hrun ?_
            refine hK _ _ ?_; clear hK K
            refine wpAnyIn_ready (rs := [8]) (by kernel_rfl) (by simp) ?_
            refine AllReadyIn.cons rfl (fun K hK => ?_) ?_
            go_simp
            refine hK _ _ ?_; clear hK K
            refine wpAnyIn_ready (rs := [9]) (by kernel_rfl) (by simp) ?_
            refine AllReadyIn.cons rfl (fun K hK => ?_) ?_
            go_simp
            refine hK _ _ ?_; clear hK K
            refine wpAnyIn_ready (rs := [10]) (by kernel_rfl) (by simp) ?_
            refine AllReadyIn.cons rfl (fun K hK => ?_) ?_
            go_simp
            refine hK _ _ ?_; clear hK K
            refine wpAnyIn_done (by kernel_rfl) ?_ _; exact LEAF ⟨#[], []⟩
            exact AllReadyIn.nil
            exact AllReadyIn.nil
            exact AllReadyIn.nil
            exact AllReadyIn.nil
            exact AllReadyIn.nil
            refine AllReadyIn.cons rfl (fun K hK => ?_) ?_
            go_simp
            refine hK _ _ ?_; clear hK K
            refine wpAnyIn_ready (rs := [0, 7]) (by kernel_rfl) (by simp) ?_
            refine AllReadyIn.cons rfl (fun K hK => ?_) ?_
            go_simp
            refine hK _ _ ?_; clear hK K
            refine wpAnyIn_ready (rs := [7]) (by kernel_rfl) (by simp) ?_
            refine AllReadyIn.cons rfl (fun K hK => ?_) ?_
            refine stepIn_run (by rfl) (fun _ => trivial) _ _ (by rfl) _ _ (by rfl) (by rfl) hrun ?_
            refine hK _ _ ?_; clear hK K
            refine wpAnyIn_ready (rs := [8]) (by kernel_rfl) (by simp) ?_
            refine AllReadyIn.cons rfl (fun K hK => ?_) ?_
            go_simp
            refine hK _ _ ?_; clear hK K
            refine wpAnyIn_ready (rs := [9]) (by kernel_rfl) (by simp) ?_
            refine AllReadyIn.cons rfl (fun K hK => ?_) ?_
            go_simp
            refine hK _ _ ?_; clear hK K
            refine wpAnyIn_ready (rs := [10]) (by kernel_rfl) (by simp) ?_
            refine AllReadyIn.cons rfl (fun K hK => ?_) ?_
            go_simp
            refine hK _ _ ?_; clear hK K
            refine wpAnyIn_done (by kernel_rfl) ?_ _; exact LEAF ⟨#[], []⟩
            exact AllReadyIn.nil
            exact AllReadyIn.nil
            exact AllReadyIn.nil
            exact AllReadyIn.nil
            refine AllReadyIn.cons rfl (fun K hK => ?_) ?_
            refine stepIn_run (by rfl) (fun _ => trivial) _ _ (by rfl) _ _ (by rfl) (by rfl) hrun ?_
            refine hK _ _ ?_; clear hK K
            refine wpAnyIn_ready (rs := [0]) (by kernel_rfl) (by simp) ?_
            refine AllReadyIn.cons rfl (fun K hK => ?_) ?_
            go_simp
            refine hK _ _ ?_; clear hK K
            refine wpAnyIn_ready (rs := [8]) (by kernel_rfl) (by simp) ?_
            refine AllReadyIn.cons rfl (fun K hK => ?_) ?_
            go_simp
            refine hK _ _ ?_; clear hK K
            refine wpAnyIn_ready (rs := [9]) (by kernel_rfl) (by simp) ?_
            refine AllReadyIn.cons rfl (fun K hK => ?_) ?_
            go_simp
            refine hK _ _ ?_; clear hK K
            refine wpAnyIn_ready (rs := [10]) (by kernel_rfl) (by simp) ?_
            refine AllReadyIn.cons rfl (fun K hK => ?_) ?_
            go_simp
            refine hK _ _ ?_; clear hK K
            refine wpAnyIn_done (by kernel_rfl) ?_ _; exact LEAF ⟨#[], []⟩
            exact AllReadyIn.nil
            exact AllReadyIn.nil
            exact AllReadyIn.nil
            exact AllReadyIn.nil
            exact AllReadyIn.nil
            exact AllReadyIn.nil
            exact AllReadyIn.nil
            refine AllReadyIn.cons rfl (fun K hK => ?_) ?_
            go_simp
            refine hK _ _ ?_; clear hK K
            refine wpAnyIn_ready (rs := [0, 3]) (by kernel_rfl) (by simp) ?_
            refine AllReadyIn.cons rfl (fun K hK => ?_) ?_
            go_simp
            refine hK _ _ ?_; clear hK K
            refine wpAnyIn_ready (rs := [3]) (by kernel_rfl) (by simp) ?_
            refine AllReadyIn.cons rfl (fun K hK => ?_) ?_
            go_simp
            refine hK _ _ ?_; clear hK K
            refine wpAnyIn_ready (rs := [4]) (by kernel_rfl) (by simp) ?_
            refine AllReadyIn.cons rfl (fun K hK => ?_) ?_
            go_simp
            refine hK _ _ ?_; clear hK K
            refine wpAnyIn_ready (rs := [7]) (by kernel_rfl) (by simp) ?_
            refine AllReadyIn.cons rfl (fun K hK => ?_) ?_
            refine stepIn_run (by rfl) (fun _ => trivial) _ _ (by rfl) _ _ (by rfl) (by rfl) hrun ?_
            refine hK _ _ ?_; clear hK K
            refine wpAnyIn_ready (rs := [8]) (by kernel_rfl) (by simp) ?_
            refine AllReadyIn.cons rfl (fun K hK => ?_) ?_
            go_simp
            refine hK _ _ ?_; clear hK K
            refine wpAnyIn_ready (rs := [9]) (by kernel_rfl) (by simp) ?_
            refine AllReadyIn.cons rfl (fun K hK => ?_) ?_
            go_simp
            refine hK _ _ ?_; clear hK K
            refine wpAnyIn_ready (rs := [10]) (by kernel_rfl) (by simp) ?_
            refine AllReadyIn.cons rfl (fun K hK => ?_) ?_
            go_simp
            refine hK _ _ ?_; clear hK K
            refine wpAnyIn_done (by kernel_rfl) ?_ _; exact LEAF ⟨#[], []⟩
            exact AllReadyIn.nil
            exact AllReadyIn.nil
            exact AllReadyIn.nil
            exact AllReadyIn.nil
            exact AllReadyIn.nil
            exact AllReadyIn.nil
            refine AllReadyIn.cons rfl (fun K hK => ?_) ?_
            go_simp
            refine hK _ _ ?_; clear hK K
            refine wpAnyIn_ready (rs := [0, 4]) (by kernel_rfl) (by simp) ?_
            refine AllReadyIn.cons rfl (fun K hK => ?_) ?_
            go_simp
            refine hK _ _ ?_; clear hK K
            refine wpAnyIn_ready (rs := [4]) (by kernel_rfl) (by simp) ?_
            refine AllReadyIn.cons rfl (fun K hK => ?_) ?_
            go_simp
            refine hK _ _ ?_; clear hK K
            refine wpAnyIn_ready (rs := [7]) (by kernel_rfl) (by simp) ?_
            refine AllReadyIn.cons rfl (fun K hK => ?_) ?_
            refine stepIn_run (by rfl) (fun _ => trivial) _ _ (by rfl) _ _ (by rfl) (by rfl) hrun ?_
            refine hK _ _ ?_; clear hK K
            refine wpAnyIn_ready (rs := [8]) (by kernel_rfl) (by simp) ?_
            refine AllReadyIn.cons rfl (fun K hK => ?_) ?_
            go_simp
            refine hK _ _ ?_; clear hK K
            refine wpAnyIn_ready (rs := [9]) (by kernel_rfl) (by simp) ?_
            refine AllReadyIn.cons rfl (fun K hK => ?_) ?_
            go_simp
            refine hK _ _ ?_; clear hK K
            refine wpAnyIn_ready (rs := [10]) (by kernel_rfl) (by simp) ?_
            refine AllReadyIn.cons rfl (fun K hK => ?_) ?_
            go_simp
            refine hK _ _ ?_; clear hK K
            refine wpAnyIn_done (by kernel_rfl) ?_ _; exact LEAF ⟨#[], []⟩
            exact AllReadyIn.nil
            exact AllReadyIn.nil
            exact AllReadyIn.nil
            exact AllReadyIn.nil
            exact AllReadyIn.nil
            refine AllReadyIn.cons rfl (fun K hK => ?_) ?_
            go_simp
            refine hK _ _ ?_; clear hK K
            refine wpAnyIn_ready (rs := [0, 7]) (by kernel_rfl) (by simp) ?_
            refine AllReadyIn.cons rfl (fun K hK => ?_) ?_
            go_simp
            refine hK _ _ ?_; clear hK K
            refine wpAnyIn_ready (rs := [7]) (by kernel_rfl) (by simp) ?_
            refine AllReadyIn.cons rfl (fun K hK => ?_) ?_
            refine stepIn_run (by rfl) (fun _ => trivial) _ _ (by rfl) _ _ (by rfl) (by rfl) hrun ?_
            refine hK _ _ ?_; clear hK K
            refine wpAnyIn_ready (rs := [8]) (by kernel_rfl) (by simp) ?_
            refine AllReadyIn.cons rfl (fun K hK => ?_) ?_
            go_simp
            refine hK _ _ ?_; clear hK K
            refine wpAnyIn_ready (rs := [9]) (by kernel_rfl) (by simp) ?_
            refine AllReadyIn.cons rfl (fun K hK => ?_) ?_
            go_simp
            refine hK _ _ ?_; clear hK K
            refine wpAnyIn_ready (rs := [10]) (by kernel_rfl) (by simp) ?_
            refine AllReadyIn.cons rfl (fun K hK => ?_) ?_
            go_simp
            refine hK _ _ ?_; clear hK K
            refine wpAnyIn_done (by kernel_rfl) ?_ _; exact LEAF ⟨#[], []⟩
            exact AllReadyIn.nil
            exact AllReadyIn.nil
            exact AllReadyIn.nil
            exact AllReadyIn.nil
            refine AllReadyIn.cons rfl (fun K hK => ?_) ?_
            refine stepIn_run (by rfl) (fun _ => trivial) _ _ (by rfl) _ _ (by rfl) (by rfl) hrun ?_
            refine hK _ _ ?_; clear hK K
            refine wpAnyIn_ready (rs := [0]) (by kernel_rfl) (by simp) ?_
            refine AllReadyIn.cons rfl (fun K hK => ?_) ?_
            go_simp
            refine hK _ _ ?_; clear hK K
            refine wpAnyIn_ready (rs := [8]) (by kernel_rfl) (by simp) ?_
            refine AllReadyIn.cons rfl (fun K hK => ?_) ?_
            go_simp
            refine hK _ _ ?_; clear hK K
            refine wpAnyIn_ready (rs := [9]) (by kernel_rfl) (by simp) ?_
            refine AllReadyIn.cons rfl (fun K hK => ?_) ?_
            go_simp
            refine hK _ _ ?_; clear hK K
            refine wpAnyIn_ready (rs := [10]) (by kernel_rfl) (by simp) ?_
            refine AllReadyIn.cons rfl (fun K hK => ?_) ?_
            go_simp
            refine hK _ _ ?_; clear hK K
            refine wpAnyIn_done (by kernel_rfl) ?_ _; exact LEAF ⟨#[], []⟩
            exact AllReadyIn.nil
            exact AllReadyIn.nil
            exact AllReadyIn.nil
            exact AllReadyIn.nil
            exact AllReadyIn.nil
            exact AllReadyIn.nil
            exact AllReadyIn.nil
            exact AllReadyIn.nil
            refine AllReadyIn.cons rfl (fun K hK => ?_) ?_
            go_simp
            refine hK _ _ ?_; clear hK K
            refine wpAnyIn_ready (rs := [0, 2]) (by kernel_rfl) (by simp) ?_
            refine AllReadyIn.cons rfl (fun K hK => ?_) ?_
            go_simp
            refine hK _ _ ?_; clear hK K
            refine wpAnyIn_ready (rs := [2]) (by kernel_rfl) (by simp) ?_
            refine AllReadyIn.cons rfl (fun K hK => ?_) ?_
            go_simp
            refine hK _ _ ?_; clear hK K
            refine wpAnyIn_ready (rs := [3]) (by kernel_rfl) (by simp) ?_
            refine AllReadyIn.cons rfl (fun K hK => ?_) ?_
            go_simp
            refine hK _ _ ?_; clear hK K
            refine wpAnyIn_ready (rs := [4]) (by kernel_rfl) (by simp) ?_
            refine AllReadyIn.cons rfl (fun K hK => ?_) ?_
            go_simp
            refine hK _ _ ?_; clear hK K
            refine wpAnyIn_ready (rs := [7]) (by kernel_rfl) (by simp) ?_
            refine AllReadyIn.cons rfl (fun K hK => ?_) ?_
            refine stepIn_run (by rfl) (fun _ => trivial) _ _ (by rfl) _ _ (by rfl) (by rfl) hrun ?_
            refine hK _ _ ?_; clear hK K
            refine wpAnyIn_ready (rs := [8]) (by kernel_rfl) (by simp) ?_
            refine AllReadyIn.cons rfl (fun K hK => ?_) ?_
            go_simp
            refine hK _ _ ?_; clear hK K
            refine wpAnyIn_ready (rs := [9]) (by kernel_rfl) (by simp) ?_
            refine AllReadyIn.cons rfl (fun K hK => ?_) ?_
            go_simp
            refine hK _ _ ?_; clear hK K
            refine wpAnyIn_ready (rs := [10]) (by kernel_rfl) (by simp) ?_
            refine AllReadyIn.cons rfl (fun K hK => ?_) ?_
            go_simp
            refine hK _ _ ?_; clear hK K
            refine wpAnyIn_done (by kernel_rfl) ?_ _; exact LEAF ⟨#[], []⟩
            exact AllReadyIn.nil
            exact AllReadyIn.nil
            exact AllReadyIn.nil
            exact AllReadyIn.nil
            exact AllReadyIn.nil
            exact AllReadyIn.nil
            exact AllReadyIn.nil
            refine AllReadyIn.cons rfl (fun K hK => ?_) ?_
            go_simp
            refine hK _ _ ?_; clear hK K
            refine wpAnyIn_ready (rs := [0, 3]) (by kernel_rfl) (by simp) ?_
            refine AllReadyIn.cons rfl (fun K hK => ?_) ?_
            go_simp
            refine hK _ _ ?_; clear hK K
            refine wpAnyIn_ready (rs := [3]) (by kernel_rfl) (by simp) ?_
            refine AllReadyIn.cons rfl (fun K hK => ?_) ?_
            go_simp
            refine hK _ _ ?_; clear hK K
            refine wpAnyIn_ready (rs := [4]) (by kernel_rfl) (by simp) ?_
            refine AllReadyIn.cons rfl (fun K hK => ?_) ?_
            go_simp
            refine hK _ _ ?_; clear hK K
            refine wpAnyIn_ready (rs := [7]) (by kernel_rfl) (by simp) ?_
            refine AllReadyIn.cons rfl (fun K hK => ?_) ?_
            refine stepIn_run (by rfl) (fun _ => trivial) _ _ (by rfl) _ _ (by rfl) (by rfl) hrun ?_
            refine hK _ _ ?_; clear hK K
            refine wpAnyIn_ready (rs := [8]) (by kernel_rfl) (by simp) ?_
            refine AllReadyIn.cons rfl (fun K hK => ?_) ?_
            go_simp
            refine hK _ _ ?_; clear hK K
            refine wpAnyIn_ready (rs := [9]) (by kernel_rfl) (by simp) ?_
            refine AllReadyIn.cons rfl (fun K hK => ?_) ?_
            go_simp
            refine hK _ _ ?_; clear hK K
            refine wpAnyIn_ready (rs := [10]) (by kernel_rfl) (by simp) ?_
            refine AllReadyIn.cons rfl (fun K hK => ?_) ?_
            go_simp
            refine hK _ _ ?_; clear hK K
            refine wpAnyIn_done (by kernel_rfl) ?_ _; exact LEAF ⟨#[], []⟩
            exact AllReadyIn.nil
            exact AllReadyIn.nil
            exact AllReadyIn.nil
            exact AllReadyIn.nil
            exact AllReadyIn.nil
            exact AllReadyIn.nil
            refine AllReadyIn.cons rfl (fun K hK => ?_) ?_
            go_simp
            refine hK _ _ ?_; clear hK K
            refine wpAnyIn_ready (rs := [0, 4]) (by kernel_rfl) (by simp) ?_
            refine AllReadyIn.cons rfl (fun K hK => ?_) ?_
            go_simp
            refine hK _ _ ?_; clear hK K
            refine wpAnyIn_ready (rs := [4]) (by kernel_rfl) (by simp) ?_
            refine AllReadyIn.cons rfl (fun K hK => ?_) ?_
            go_simp
            refine hK _ _ ?_; clear hK K
            refine wpAnyIn_ready (rs := [7]) (by kernel_rfl) (by simp) ?_
            refine AllReadyIn.cons rfl (fun K hK => ?_) ?_
            refine stepIn_run (by rfl) (fun _ => trivial) _ _ (by rfl) _ _ (by rfl) (by rfl) hrun ?_
            refine hK _ _ ?_; clear hK K
            refine wpAnyIn_ready (rs := [8]) (by kernel_rfl) (by simp) ?_
            refine AllReadyIn.cons rfl (fun K hK => ?_) ?_
            go_simp
            refine hK _ _ ?_; clear hK K
            refine wpAnyIn_ready (rs := [9]) (by kernel_rfl) (by simp) ?_
            refine AllReadyIn.cons rfl (fun K hK => ?_) ?_
            go_simp
            refine hK _ _ ?_; clear hK K
            refine wpAnyIn_ready (rs := [10]) (by kernel_rfl) (by simp) ?_
            refine AllReadyIn.cons rfl (fun K hK => ?_) ?_
            go_simp
            refine hK _ _ ?_; clear hK K
            refine wpAnyIn_done (by kernel_rfl) ?_ _; exact LEAF ⟨#[], []⟩
            exact AllReadyIn.nil
            exact AllReadyIn.nil
            exact AllReadyIn.nil
            exact AllReadyIn.nil
            exact AllReadyIn.nil
            refine AllReadyIn.cons rfl (fun K hK => ?_) ?_
            go_simp
            refine hK _ _ ?_; clear hK K
            refine wpAnyIn_ready (rs := [0, 7]) (by kernel_rfl) (by simp) ?_
            refine AllReadyIn.cons rfl (fun K hK => ?_) ?_
            go_simp
            refine hK _ _ ?_; clear hK K
            refine wpAnyIn_ready (rs := [7]) (by kernel_rfl) (by simp) ?_
            refine AllReadyIn.cons rfl (fun K hK => ?_) ?_
            refine stepIn_run (by rfl) (fun _ => trivial) _ _ (by rfl) _ _ (by rfl) (by rfl) hrun ?_
            refine hK _ _ ?_; clear hK K
            refine wpAnyIn_ready (rs := [8]) (by kernel_rfl) (by simp) ?_
            refine AllReadyIn.cons rfl (fun K hK => ?_) ?_
            go_simp
            refine hK _ _ ?_; clear hK K
            refine wpAnyIn_ready (rs := [9]) (by kernel_rfl) (by simp) ?_
            refine AllReadyIn.cons rfl (fun K hK => ?_) ?_
            go_simp
            refine hK _ _ ?_; clear hK K
            refine wpAnyIn_ready (rs := [10]) (by kernel_rfl) (by simp) ?_
            refine AllReadyIn.cons rfl (fun K hK => ?_) ?_
            go_simp
            refine hK _ _ ?_; clear hK K
            refine wpAnyIn_done (by kernel_rfl) ?_ _; exact LEAF ⟨#[], []⟩
            exact AllReadyIn.nil
            exact AllReadyIn.nil
            exact AllReadyIn.nil
            exact AllReadyIn.nil
            refine AllReadyIn.cons rfl (fun K hK => ?_) ?_
            refine stepIn_run (by rfl) (fun _ => trivial) _ _ (by rfl) _ _ (by rfl) (by rfl) hrun ?_
            refine hK _ _ ?_; clear hK K
            refine wpAnyIn_ready (rs := [0]) (by kernel_rfl) (by simp) ?_
            refine AllReadyIn.cons rfl (fun K hK => ?_) ?_
            go_simp
            refine hK _ _ ?_; clear hK K
            refine wpAnyIn_ready (rs := [8]) (by kernel_rfl) (by simp) ?_
            refine AllReadyIn.cons rfl (fun K hK => ?_) ?_
            go_simp
            refine hK _ _ ?_; clear hK K
            refine wpAnyIn_ready (rs := [9]) (by kernel_rfl) (by simp) ?_
            refine AllReadyIn.cons rfl (fun K hK => ?_) ?_
            go_simp
            refine hK _ _ ?_; clear hK K
            refine wpAnyIn_ready (rs := [10]) (by kernel_rfl) (by simp) ?_
            refine AllReadyIn.cons rfl (fun K hK => ?_) ?_
            go_simp
            refine hK _ _ ?_; clear hK K
            refine wpAnyIn_done (by kernel_rfl) ?_ _; exact LEAF ⟨#[], []⟩
            exact AllReadyIn.nil
            exact AllReadyIn.nil
            exact AllReadyIn.nil
            exact AllReadyIn.nil
            exact AllReadyIn.nil
            exact AllReadyIn.nil
            exact AllReadyIn.nil
            exact AllReadyIn.nil
            exact AllReadyIn.nil
            exact AllReadyIn.nil
            refine AllReadyIn.cons rfl (fun K hK => ?_) ?_
            go_simp
            refine hK _ _ ?_; clear hK K
            refine wpAnyIn_ready (rs := [0, 1, 6]) (by kernel_rfl) (by simp) ?_
            refine AllReadyIn.cons rfl (fun K hK => ?_) ?_
            go_simp
            refine hK _ _ ?_; clear hK K
            refine wpAnyIn_ready (rs := [1, 6]) (by kernel_rfl) (by simp) ?_
            refine AllReadyIn.cons rfl (fun K hK => ?_) ?_
            go_simp
            refine hK _ _ ?_; clear hK K
            refine wpAnyIn_ready (rs := [2, 6]) (by kernel_rfl) (by simp) ?_
            refine AllReadyIn.cons rfl (fun K hK => ?_) ?_
            go_simp
            refine hK _ _ ?_; clear hK K
            refine wpAnyIn_ready (rs := [3, 6]) (by kernel_rfl) (by simp) ?_
            refine AllReadyIn.cons rfl (fun K hK => ?_) ?_
            go_simp
            refine hK _ _ ?_; clear hK K
            refine wpAnyIn_ready (rs := [4, 6]) (by kernel_rfl) (by simp) ?_
            refine AllReadyIn.cons rfl (fun K hK => ?_) ?_
            go_simp
            refine hK _ _ ?_; clear hK K
            refine wpAnyIn_ready (rs := [6]) (by kernel_rfl) (by simp) ?_
            refine AllReadyIn.cons rfl (fun K hK => ?_) ?_
            go_simp
            refine hK _ _ ?_; clear hK K
            refine wpAnyIn_ready (rs := [7]) (by kernel_rfl) (by simp) ?_
            refine AllReadyIn.cons rfl (fun K hK => ?_) ?_
            refine stepIn_run (by rfl) (fun _ => trivial) _ _ (by rfl) _ _ (by rfl) (by rfl) hrun ?_
            refine hK _ _ ?_; clear hK K
            refine wpAnyIn_ready (rs := [8]) (by kernel_rfl) (by simp) ?_
            refine AllReadyIn.cons rfl (fun K hK => ?_) ?_
            go_simp
            refine hK _ _ ?_; clear hK K
            refine wpAnyIn_ready (rs := [9]) (by kernel_rfl) (by simp) ?_
            refine AllReadyIn.cons rfl (fun K hK => ?_) ?_
            go_simp
            refine hK _ _ ?_; clear hK K
            refine wpAnyIn_ready (rs := [10]) (by kernel_rfl) (by simp) ?_
            refine AllReadyIn.cons rfl (fun K hK => ?_) ?_
            go_simp
            refine hK _ _ ?_; clear hK K
            refine wpAnyIn_done (by kernel_rfl) ?_ _; exact LEAF ⟨#[], []⟩
            exact AllReadyIn.nil
            exact AllReadyIn.nil
            exact AllReadyIn.nil
            exact AllReadyIn.nil
            exact AllReadyIn.nil
            refine AllReadyIn.cons rfl (fun K hK => ?_) ?_
            go_simp
            refine hK _ _ ?_; clear hK K
            refine wpAnyIn_ready (rs := [4]) (by kernel_rfl) (by simp) ?_
            refine AllReadyIn.cons rfl (fun K hK => ?_) ?_
            go_simp
            refine hK _ _ ?_; clear hK K
            refine wpAnyIn_ready (rs := [7]) (by kernel_rfl) (by simp) ?_
            refine AllReadyIn.cons rfl (fun K hK => ?_) ?_
            refine stepIn_run (by rfl) (fun _ => trivial) _ _ (by rfl) _ _ (by rfl) (by rfl) hrun ?_
            refine hK _ _ ?_; clear hK K
            refine wpAnyIn_ready (rs := [8]) (by kernel_rfl) (by simp) ?_
            refine AllReadyIn.cons rfl (fun K hK => ?_) ?_
            go_simp
            refine hK _ _ ?_; clear hK K
            refine wpAnyIn_ready (rs := [9]) (by kernel_rfl) (by simp) ?_
            refine AllReadyIn.cons rfl (fun K hK => ?_) ?_
            go_simp
            refine hK _ _ ?_; clear hK K
            refine wpAnyIn_ready (rs := [10]) (by kernel_rfl) (by simp) ?_
            refine AllReadyIn.cons rfl (fun K hK => ?_) ?_
            go_simp
            refine hK _ _ ?_; clear hK K
            refine wpAnyIn_done (by kernel_rfl) ?_ _; exact LEAF ⟨#[], []⟩
            exact AllReadyIn.nil
            exact AllReadyIn.nil
            exact AllReadyIn.nil
            exact AllReadyIn.nil
            exact AllReadyIn.nil
            exact AllReadyIn.nil
            refine AllReadyIn.cons rfl (fun K hK => ?_) ?_
            go_simp
            refine hK _ _ ?_; clear hK K
            refine wpAnyIn_ready (rs := [3]) (by kernel_rfl) (by simp) ?_
            refine AllReadyIn.cons rfl (fun K hK => ?_) ?_
            go_simp
            refine hK _ _ ?_; clear hK K
            refine wpAnyIn_ready (rs := [4]) (by kernel_rfl) (by simp) ?_
            refine AllReadyIn.cons rfl (fun K hK => ?_) ?_
            go_simp
            refine hK _ _ ?_; clear hK K
            refine wpAnyIn_ready (rs := [7]) (by kernel_rfl) (by simp) ?_
            refine AllReadyIn.cons rfl (fun K hK => ?_) ?_
            refine stepIn_run (by rfl) (fun _ => trivial) _ _ (by rfl) _ _ (by rfl) (by rfl) hrun ?_
            refine hK _ _ ?_; clear hK K
            refine wpAnyIn_ready (rs := [8]) (by kernel_rfl) (by simp) ?_
            refine AllReadyIn.cons rfl (fun K hK => ?_) ?_
            go_simp
            refine hK _ _ ?_; clear hK K
            refine wpAnyIn_ready (rs := [9]) (by kernel_rfl) (by simp) ?_
            refine AllReadyIn.cons rfl (fun K hK => ?_) ?_
            go_simp
            refine hK _ _ ?_; clear hK K
            refine wpAnyIn_ready (rs := [10]) (by kernel_rfl) (by simp) ?_
            refine AllReadyIn.cons rfl (fun K hK => ?_) ?_
            go_simp
            refine hK _ _ ?_; clear hK K
            refine wpAnyIn_done (by kernel_rfl) ?_ _; exact LEAF ⟨#[], []⟩
            exact AllReadyIn.nil
            exact AllReadyIn.nil
            exact AllReadyIn.nil
            exact AllReadyIn.nil
            exact AllReadyIn.nil
            exact AllReadyIn.nil
            exact AllReadyIn.nil
            refine AllReadyIn.cons rfl (fun K hK => ?_) ?_
            go_simp
            refine hK _ _ ?_; clear hK K
            refine wpAnyIn_ready (rs := [2]) (by kernel_rfl) (by simp) ?_
            refine AllReadyIn.cons rfl (fun K hK => ?_) ?_
            go_simp
            refine hK _ _ ?_; clear hK K
            refine wpAnyIn_ready (rs := [3]) (by kernel_rfl) (by simp) ?_
            refine AllReadyIn.cons rfl (fun K hK => ?_) ?_
            go_simp
            refine hK _ _ ?_; clear hK K
            refine wpAnyIn_ready (rs := [4]) (by kernel_rfl) (by simp) ?_
            refine AllReadyIn.cons rfl (fun K hK => ?_) ?_
            go_simp
            refine hK _ _ ?_; clear hK K
            refine wpAnyIn_ready (rs := [7]) (by kernel_rfl) (by simp) ?_
            refine AllReadyIn.cons rfl (fun K hK => ?_) ?_
            refine stepIn_run (by rfl) (fun _ => trivial) _ _ (by rfl) _ _ (by rfl) (by rfl) hrun ?_
            refine hK _ _ ?_; clear hK K
            refine wpAnyIn_ready (rs := [8]) (by kernel_rfl) (by simp) ?_
            refine AllReadyIn.cons rfl (fun K hK => ?_) ?_
            go_simp
            refine hK _ _ ?_; clear hK K
            refine wpAnyIn_ready (rs := [9]) (by kernel_rfl) (by simp) ?_
            refine AllReadyIn.cons rfl (fun K hK => ?_) ?_
            go_simp
            refine hK _ _ ?_; clear hK K
            refine wpAnyIn_ready (rs := [10]) (by kernel_rfl) (by simp) ?_
            refine AllReadyIn.cons rfl (fun K hK => ?_) ?_
            go_simp
            refine hK _ _ ?_; clear hK K
            refine wpAnyIn_done (by kernel_rfl) ?_ _; exact LEAF ⟨#[], []⟩
            exact AllReadyIn.nil
            exact AllReadyIn.nil
            exact AllReadyIn.nil
            exact AllReadyIn.nil
            exact AllReadyIn.nil
            exact AllReadyIn.nil
            exact AllReadyIn.nil
            exact AllReadyIn.nil
            refine AllReadyIn.cons rfl (fun K hK => ?_) ?_
            go_simp
            refine hK _ _ ?_; clear hK K
            refine wpAnyIn_ready (rs := [1]) (by kernel_rfl) (by simp) ?_
            refine AllReadyIn.cons rfl (fun K hK => ?_) ?_
            go_simp
            refine hK _ _ ?_; clear hK K
            refine wpAnyIn_ready (rs := [2]) (by kernel_rfl) (by simp) ?_
            refine AllReadyIn.cons rfl (fun K hK => ?_) ?_
            go_simp
            refine hK _ _ ?_; clear hK K
            refine wpAnyIn_ready (rs := [3]) (by kernel_rfl) (by simp) ?_
            refine AllReadyIn.cons rfl (fun K hK => ?_) ?_
            go_simp
            refine hK _ _ ?_; clear hK K
            refine wpAnyIn_ready (rs := [4]) (by kernel_rfl) (by simp) ?_
            refine AllReadyIn.cons rfl (fun K hK => ?_) ?_
            go_simp
            refine hK _ _ ?_; clear hK K
            refine wpAnyIn_ready (rs := [7]) (by kernel_rfl) (by simp) ?_
            refine AllReadyIn.cons rfl (fun K hK => ?_) ?_
            refine stepIn_run (by rfl) (fun _ => trivial) _ _ (by rfl) _ _ (by rfl) (by rfl) hrun ?_
            refine hK _ _ ?_; clear hK K
            refine wpAnyIn_ready (rs := [8]) (by kernel_rfl) (by simp) ?_
            refine AllReadyIn.cons rfl (fun K hK => ?_) ?_
            go_simp
            refine hK _ _ ?_; clear hK K
            refine wpAnyIn_ready (rs := [9]) (by kernel_rfl) (by simp) ?_
            refine AllReadyIn.cons rfl (fun K hK => ?_) ?_
            go_simp
            refine hK _ _ ?_; clear hK K
            refine wpAnyIn_ready (rs := [10]) (by kernel_rfl) (by simp) ?_
            refine AllReadyIn.cons rfl (fun K hK => ?_) ?_
            go_simp
            refine hK _ _ ?_; clear hK K
            refine wpAnyIn_done (by kernel_rfl) ?_ _; exact LEAF ⟨#[], []⟩
            exact AllReadyIn.nil
            exact AllReadyIn.nil
            exact AllReadyIn.nil
            exact AllReadyIn.nil
            exact AllReadyIn.nil
            exact AllReadyIn.nil
            exact AllReadyIn.nil
            exact AllReadyIn.nil
            exact AllReadyIn.nil
            refine AllReadyIn.cons rfl (fun K hK => ?_) ?_
            go_simp
            refine hK _ _ ?_; clear hK K
            refine wpAnyIn_ready (rs := [0, 2, 6]) (by kernel_rfl) (by simp) ?_
            refine AllReadyIn.cons rfl (fun K hK => ?_) ?_
            go_simp
            refine hK _ _ ?_; clear hK K
            refine wpAnyIn_ready (rs := [2, 6]) (by kernel_rfl) (by simp) ?_
            refine AllReadyIn.cons rfl (fun K hK => ?_) ?_
            go_simp
            refine hK _ _ ?_; clear hK K
            refine wpAnyIn_ready (rs := [3, 6]) (by kernel_rfl) (by simp) ?_
            refine AllReadyIn.cons rfl (fun K hK => ?_) ?_
            go_simp
            refine hK _ _ ?_; clear hK K
            refine wpAnyIn_ready (rs := [4, 6]) (by kernel_rfl) (by simp) ?_
            refine AllReadyIn.cons rfl (fun K hK => ?_) ?_
            go_simp
            refine hK _ _ ?_; clear hK K
            refine wpAnyIn_ready (rs := [6]) (by kernel_rfl) (by simp) ?_
            refine AllReadyIn.cons rfl (fun K hK => ?_) ?_
            go_simp
            refine hK _ _ ?_; clear hK K
            refine wpAnyIn_ready (rs := [7]) (by kernel_rfl) (by simp) ?_
            refine AllReadyIn.cons rfl (fun K hK => ?_) ?_
            refine stepIn_run (by rfl) (fun _ => trivial) _ _ (by rfl) _ _ (by rfl) (by rfl) hrun ?_
            refine hK _ _ ?_; clear hK K
            refine wpAnyIn_ready (rs := [8]) (by kernel_rfl) (by simp) ?_
            refine AllReadyIn.cons rfl (fun K hK => ?_) ?_
            go_simp
            refine hK _ _ ?_; clear hK K
            refine wpAnyIn_ready (rs := [9]) (by kernel_rfl) (by simp) ?_
            refine AllReadyIn.cons rfl (fun K hK => ?_) ?_
            go_simp
            refine hK _ _ ?_; clear hK K
            refine wpAnyIn_ready (rs := [10]) (by kernel_rfl) (by simp) ?_
            refine AllReadyIn.cons rfl (fun K hK => ?_) ?_
            go_simp
            refine hK _ _ ?_; clear hK K
            refine wpAnyIn_done (by kernel_rfl) ?_ _; exact LEAF ⟨#[], []⟩
            exact AllReadyIn.nil
            exact AllReadyIn.nil
            exact AllReadyIn.nil
            exact AllReadyIn.nil
            exact AllReadyIn.nil
            refine AllReadyIn.cons rfl (fun K hK => ?_) ?_
            go_simp
            refine hK _ _ ?_; clear hK K
            refine wpAnyIn_ready (rs := [4]) (by kernel_rfl) (by simp) ?_
            refine AllReadyIn.cons rfl (fun K hK => ?_) ?_
            go_simp
            refine hK _ _ ?_; clear hK K
            refine wpAnyIn_ready (rs := [7]) (by kernel_rfl) (by simp) ?_
            refine AllReadyIn.cons rfl (fun K hK => ?_) ?_
            refine stepIn_run (by rfl) (fun _ => trivial) _ _ (by rfl) _ _ (by rfl) (by rfl) hrun ?_
            refine hK _ _ ?_; clear hK K
            refine wpAnyIn_ready (rs := [8]) (by kernel_rfl) (by simp) ?_
            refine AllReadyIn.cons rfl (fun K hK => ?_) ?_
            go_simp
            refine hK _ _ ?_; clear hK K
            refine wpAnyIn_ready (rs := [9]) (by kernel_rfl) (by simp) ?_
            refine AllReadyIn.cons rfl (fun K hK => ?_) ?_
            go_simp
            refine hK _ _ ?_; clear hK K
            refine wpAnyIn_ready (rs := [10]) (by kernel_rfl) (by simp) ?_
            refine AllReadyIn.cons rfl (fun K hK => ?_) ?_
            go_simp
            refine hK _ _ ?_; clear hK K
            refine wpAnyIn_done (by kernel_rfl) ?_ _; exact LEAF ⟨#[], []⟩
            exact AllReadyIn.nil
            exact AllReadyIn.nil
            exact AllReadyIn.nil
            exact AllReadyIn.nil
            exact AllReadyIn.nil
            exact AllReadyIn.nil
            refine AllReadyIn.cons rfl (fun K hK => ?_) ?_
            go_simp
            refine hK _ _ ?_; clear hK K
            refine wpAnyIn_ready (rs := [3]) (by kernel_rfl) (by simp) ?_
            refine AllReadyIn.cons rfl (fun K hK => ?_) ?_
            go_simp
            refine hK _ _ ?_; clear hK K
            refine wpAnyIn_ready (rs := [4]) (by kernel_rfl) (by simp) ?_
            refine AllReadyIn.cons rfl (fun K hK => ?_) ?_
            go_simp
            refine hK _ _ ?_; clear hK K
            refine wpAnyIn_ready (rs := [7]) (by kernel_rfl) (by simp) ?_
            refine AllReadyIn.cons rfl (fun K hK => ?_) ?_
            refine stepIn_run (by rfl) (fun _ => trivial) _ _ (by rfl) _ _ (by rfl) (by rfl) hrun ?_
            refine hK _ _ ?_; clear hK K
            refine wpAnyIn_ready (rs := [8]) (by kernel_rfl) (by simp) ?_
            refine AllReadyIn.cons rfl (fun K hK => ?_) ?_
            go_simp
            refine hK _ _ ?_; clear hK K
            refine wpAnyIn_ready (rs := [9]) (by kernel_rfl) (by simp) ?_
            refine AllReadyIn.cons rfl (fun K hK => ?_) ?_
            go_simp
            refine hK _ _ ?_; clear hK K
            refine wpAnyIn_ready (rs := [10]) (by kernel_rfl) (by simp) ?_
            refine AllReadyIn.cons rfl (fun K hK => ?_) ?_
            go_simp
            refine hK _ _ ?_; clear hK K
            refine wpAnyIn_done (by kernel_rfl) ?_ _; exact LEAF ⟨#[], []⟩
            exact AllReadyIn.nil
            exact AllReadyIn.nil
            exact AllReadyIn.nil
            exact AllReadyIn.nil
            exact AllReadyIn.nil
            exact AllReadyIn.nil
            exact AllReadyIn.nil
            refine AllReadyIn.cons rfl (fun K hK => ?_) ?_
            go_simp
            refine hK _ _ ?_; clear hK K
            refine wpAnyIn_ready (rs := [2]) (by kernel_rfl) (by simp) ?_
            refine AllReadyIn.cons rfl (fun K hK => ?_) ?_
            go_simp
            refine hK _ _ ?_; clear hK K
            refine wpAnyIn_ready (rs := [3]) (by kernel_rfl) (by simp) ?_
            refine AllReadyIn.cons rfl (fun K hK => ?_) ?_
            go_simp
            refine hK _ _ ?_; clear hK K
            refine wpAnyIn_ready (rs := [4]) (by kernel_rfl) (by simp) ?_
            refine AllReadyIn.cons rfl (fun K hK => ?_) ?_
            go_simp
            refine hK _ _ ?_; clear hK K
            refine wpAnyIn_ready (rs := [7]) (by kernel_rfl) (by simp) ?_
            refine AllReadyIn.cons rfl (fun K hK => ?_) ?_
            refine stepIn_run (by rfl) (fun _ => trivial) _ _ (by rfl) _ _ (by rfl) (by rfl) hrun ?_
            refine hK _ _ ?_; clear hK K
            refine wpAnyIn_ready (rs := [8]) (by kernel_rfl) (by simp) ?_
            refine AllReadyIn.cons rfl (fun K hK => ?_) ?_
            go_simp
            refine hK _ _ ?_; clear hK K
            refine wpAnyIn_ready (rs := [9]) (by kernel_rfl) (by simp) ?_
            refine AllReadyIn.cons rfl (fun K hK => ?_) ?_
            go_simp
            refine hK _ _ ?_; clear hK K
            refine wpAnyIn_ready (rs := [10]) (by kernel_rfl) (by simp) ?_
            refine AllReadyIn.cons rfl (fun K hK => ?_) ?_
            go_simp
            refine hK _ _ ?_; clear hK K
            refine wpAnyIn_done (by kernel_rfl) ?_ _; exact LEAF ⟨#[], []⟩
            exact AllReadyIn.nil
            exact AllReadyIn.nil
            exact AllReadyIn.nil
            exact AllReadyIn.nil
            exact AllReadyIn.nil
            exact AllReadyIn.nil
            exact AllReadyIn.nil
            exact AllReadyIn.nil
            refine AllReadyIn.cons rfl (fun K hK => ?_) ?_
            go_simp
            refine hK _ _ ?_; clear hK K
            refine wpAnyIn_ready (rs := [0, 3, 6]) (by kernel_rfl) (by simp) ?_
            refine AllReadyIn.cons rfl (fun K hK => ?_) ?_
            go_simp
            refine hK _ _ ?_; clear hK K
            refine wpAnyIn_ready (rs := [3, 6]) (by kernel_rfl) (by simp) ?_
            refine AllReadyIn.cons rfl (fun K hK => ?_) ?_
            go_simp
            refine hK _ _ ?_; clear hK K
            refine wpAnyIn_ready (rs := [4, 6]) (by kernel_rfl) (by simp) ?_
            refine AllReadyIn.cons rfl (fun K hK => ?_) ?_
            go_simp
            refine hK _ _ ?_; clear hK K
            refine wpAnyIn_ready (rs := [6]) (by kernel_rfl) (by simp) ?_
            refine AllReadyIn.cons rfl (fun K hK => ?_) ?_
            go_simp
            refine hK _ _ ?_; clear hK K
            refine wpAnyIn_ready (rs := [7]) (by kernel_rfl) (by simp) ?_
            refine AllReadyIn.cons rfl (fun K hK => ?_) ?_
            refine stepIn_run (by rfl) (fun _ => trivial) _ _ (by rfl) _ _ (by rfl) (by rfl) hrun ?_
            refine hK _ _ ?_; clear hK K
            refine wpAnyIn_ready (rs := [8]) (by kernel_rfl) (by simp) ?_
            refine AllReadyIn.cons rfl (fun K hK => ?_) ?_
            go_simp
            refine hK _ _ ?_; clear hK K
            refine wpAnyIn_ready (rs := [9]) (by kernel_rfl) (by simp) ?_
            refine AllReadyIn.cons rfl (fun K hK => ?_) ?_
            go_simp
            refine hK _ _ ?_; clear hK K
            refine wpAnyIn_ready (rs := [10]) (by kernel_rfl) (by simp) ?_
            refine AllReadyIn.cons rfl (fun K hK => ?_) ?_
            go_simp
            refine hK _ _ ?_; clear hK K
            refine wpAnyIn_done (by kernel_rfl) ?_ _; exact LEAF ⟨#[], []⟩
            exact AllReadyIn.nil
            exact AllReadyIn.nil
            exact AllReadyIn.nil
            exact AllReadyIn.nil
            exact AllReadyIn.nil
            refine AllReadyIn.cons rfl (fun K hK => ?_) ?_
            go_simp
            refine hK _ _ ?_; clear hK K
            refine wpAnyIn_ready (rs := [4]) (by kernel_rfl) (by simp) ?_
            refine AllReadyIn.cons rfl (fun K hK => ?_) ?_
            go_simp
            refine hK _ _ ?_; clear hK K
            refine wpAnyIn_ready (rs := [7]) (by kernel_rfl) (by simp) ?_
            refine AllReadyIn.cons rfl (fun K hK => ?_) ?_
            refine stepIn_run (by rfl) (fun _ => trivial) _ _ (by rfl) _ _ (by rfl) (by rfl) hrun ?_
            refine hK _ _ ?_; clear hK K
            refine wpAnyIn_ready (rs := [8]) (by kernel_rfl) (by simp) ?_
            refine AllReadyIn.cons rfl (fun K hK => ?_) ?_
            go_simp
            refine hK _ _ ?_; clear hK K
            refine wpAnyIn_ready (rs := [9]) (by kernel_rfl) (by simp) ?_
            refine AllReadyIn.cons rfl (fun K hK => ?_) ?_
            go_simp
            refine hK _ _ ?_; clear hK K
            refine wpAnyIn_ready (rs := [10]) (by kernel_rfl) (by simp) ?_
            refine AllReadyIn.cons rfl (fun K hK => ?_) ?_
            go_simp
            refine hK _ _ ?_; clear hK K
            refine wpAnyIn_done (by kernel_rfl) ?_ _; exact LEAF ⟨#[], []⟩
            exact AllReadyIn.nil
            exact AllReadyIn.nil
            exact AllReadyIn.nil
            exact AllReadyIn.nil
            exact AllReadyIn.nil
            exact AllReadyIn.nil
            refine AllReadyIn.cons rfl (fun K hK => ?_) ?_
            go_simp
            refine hK _ _ ?_; clear hK K
            refine wpAnyIn_ready (rs := [3]) (by kernel_rfl) (by simp) ?_
            refine AllReadyIn.cons rfl (fun K hK => ?_) ?_
            go_simp
            refine hK _ _ ?_; clear hK K
            refine wpAnyIn_ready (rs := [4]) (by kernel_rfl) (by simp) ?_
            refine AllReadyIn.cons rfl (fun K hK => ?_) ?_
            go_simp
            refine hK _ _ ?_; clear hK K
            refine wpAnyIn_ready (rs := [7]) (by kernel_rfl) (by simp) ?_
            refine AllReadyIn.cons rfl (fun K hK => ?_) ?_
            refine stepIn_run (by rfl) (fun _ => trivial) _ _ (by rfl) _ _ (by rfl) (by rfl) hrun ?_
            refine hK _ _ ?_; clear hK K
            refine wpAnyIn_ready (rs := [8]) (by kernel_rfl) (by simp) ?_
            refine AllReadyIn.cons rfl (fun K hK => ?_) ?_
            go_simp
            refine hK _ _ ?_; clear hK K
            refine wpAnyIn_ready (rs := [9]) (by kernel_rfl) (by simp) ?_
            refine AllReadyIn.cons rfl (fun K hK => ?_) ?_
            go_simp
            refine hK _ _ ?_; clear hK K
            refine wpAnyIn_ready (rs := [10]) (by kernel_rfl) (by simp) ?_
            refine AllReadyIn.cons rfl (fun K hK => ?_) ?_
            go_simp
            refine hK _ _ ?_; clear hK K
            refine wpAnyIn_done (by kernel_rfl) ?_ _; exact LEAF ⟨#[], []⟩
            exact AllReadyIn.nil
            exact AllReadyIn.nil
            exact AllReadyIn.nil
            exact AllReadyIn.nil
            exact AllReadyIn.nil
            exact AllReadyIn.nil
            exact AllReadyIn.nil
            refine AllReadyIn.cons rfl (fun K hK => ?_) ?_
            go_simp
            refine hK _ _ ?_; clear hK K
            refine wpAnyIn_ready (rs := [0, 4, 6]) (by kernel_rfl) (by simp) ?_
            refine AllReadyIn.cons rfl (fun K hK => ?_) ?_
            go_simp
            refine hK _ _ ?_; clear hK K
            refine wpAnyIn_ready (rs := [4, 6]) (by kernel_rfl) (by simp) ?_
            refine AllReadyIn.cons rfl (fun K hK => ?_) ?_
            go_simp
            refine hK _ _ ?_; clear hK K
            refine wpAnyIn_ready (rs := [6]) (by kernel_rfl) (by simp) ?_
            refine AllReadyIn.cons rfl (fun K hK => ?_) ?_
            go_simp
            refine hK _ _ ?_; clear hK K
            refine wpAnyIn_ready (rs := [7]) (by kernel_rfl) (by simp) ?_
            refine AllReadyIn.cons rfl (fun K hK => ?_) ?_
            refine stepIn_run (by rfl) (fun _ => trivial) _ _ (by rfl) _ _ (by rfl) (by rfl) hrun ?_
            refine hK _ _ ?_; clear hK K
            refine wpAnyIn_ready (rs := [8]) (by kernel_rfl) (by simp) ?_
            refine AllReadyIn.cons rfl (fun K hK => ?_) ?_
            go_simp
            refine hK _ _ ?_; clear hK K
            refine wpAnyIn_ready (rs := [9]) (by kernel_rfl) (by simp) ?_
            refine AllReadyIn.cons rfl (fun K hK => ?_) ?_
            go_simp
            refine hK _ _ ?_; clear hK K
            refine wpAnyIn_ready (rs := [10]) (by kernel_rfl) (by simp) ?_
            refine AllReadyIn.cons rfl (fun K hK => ?_) ?_
            go_simp
            refine hK _ _ ?_; clear hK K
            refine wpAnyIn_done (by kernel_rfl) ?_ _; exact LEAF ⟨#[], []⟩
            exact AllReadyIn.nil
            exact AllReadyIn.nil
            exact AllReadyIn.nil
            exact AllReadyIn.nil
            exact AllReadyIn.nil
            refine AllReadyIn.cons rfl (fun K hK => ?_) ?_
            go_simp
            refine hK _ _ ?_; clear hK K
            refine wpAnyIn_ready (rs := [4]) (by kernel_rfl) (by simp) ?_
            refine AllReadyIn.cons rfl (fun K hK => ?_) ?_
            go_simp
            refine hK _ _ ?_; clear hK K
            refine wpAnyIn_ready (rs := [7]) (by kernel_rfl) (by simp) ?_
            refine AllReadyIn.cons rfl (fun K hK => ?_) ?_
            refine stepIn_run (by rfl) (fun _ => trivial) _ _ (by rfl) _ _ (by rfl) (by rfl) hrun ?_
            refine hK _ _ ?_; clear hK K
            refine wpAnyIn_ready (rs := [8]) (by kernel_rfl) (by simp) ?_
            refine AllReadyIn.cons rfl (fun K hK => ?_) ?_
            go_simp
            refine hK _ _ ?_; clear hK K
            refine wpAnyIn_ready (rs := [9]) (by kernel_rfl) (by simp) ?_
            refine AllReadyIn.cons rfl (fun K hK => ?_) ?_
            go_simp
            refine hK _ _ ?_; clear hK K
            refine wpAnyIn_ready (rs := [10]) (by kernel_rfl) (by simp) ?_
            refine AllReadyIn.cons rfl (fun K hK => ?_) ?_
            go_simp
            refine hK _ _ ?_; clear hK K
            refine wpAnyIn_done (by kernel_rfl) ?_ _; exact LEAF ⟨#[], []⟩
            exact AllReadyIn.nil
            exact AllReadyIn.nil
            exact AllReadyIn.nil
            exact AllReadyIn.nil
            exact AllReadyIn.nil
            exact AllReadyIn.nil
            refine AllReadyIn.cons rfl (fun K hK => ?_) ?_
            go_simp
            refine hK _ _ ?_; clear hK K
            refine wpAnyIn_ready (rs := [0, 6]) (by kernel_rfl) (by simp) ?_
            refine AllReadyIn.cons rfl (fun K hK => ?_) ?_
            go_simp
            refine hK _ _ ?_; clear hK K
            refine wpAnyIn_ready (rs := [6]) (by kernel_rfl) (by simp) ?_
            refine AllReadyIn.cons rfl (fun K hK => ?_) ?_
            go_simp
            refine hK _ _ ?_; clear hK K
            refine wpAnyIn_ready (rs := [7]) (by kernel_rfl) (by simp) ?_
            refine AllReadyIn.cons rfl (fun K hK => ?_) ?_
            refine stepIn_run (by rfl) (fun _ => trivial) _ _ (by rfl) _ _ (by rfl) (by rfl) hrun ?_
            refine hK _ _ ?_; clear hK K
            refine wpAnyIn_ready (rs := [8]) (by kernel_rfl) (by simp) ?_
            refine AllReadyIn.cons rfl (fun K hK => ?_) ?_
            go_simp
            refine hK _ _ ?_; clear hK K
            refine wpAnyIn_ready (rs := [9]) (by kernel_rfl) (by simp) ?_
            refine AllReadyIn.cons rfl (fun K hK => ?_) ?_
            go_simp
            refine hK _ _ ?_; clear hK K
            refine wpAnyIn_ready (rs := [10]) (by kernel_rfl) (by simp) ?_
            refine AllReadyIn.cons rfl (fun K hK => ?_) ?_
            go_simp
            refine hK _ _ ?_; clear hK K
            refine wpAnyIn_done (by kernel_rfl) ?_ _; exact LEAF ⟨#[], []⟩
            exact AllReadyIn.nil
            exact AllReadyIn.nil
            exact AllReadyIn.nil
            exact AllReadyIn.nil
            exact AllReadyIn.nil
            refine AllReadyIn.cons rfl (fun K hK => ?_) ?_
            go_simp
            refine hK _ _ ?_; clear hK K
            refine wpAnyIn_ready (rs := [0, 7]) (by kernel_rfl) (by simp) ?_
            refine AllReadyIn.cons rfl (fun K hK => ?_) ?_
            go_simp
            refine hK _ _ ?_; clear hK K
            refine wpAnyIn_ready (rs := [7]) (by kernel_rfl) (by simp) ?_
            refine AllReadyIn.cons rfl (fun K hK => ?_) ?_
            refine stepIn_run (by rfl) (fun _ => trivial) _ _ (by rfl) _ _ (by rfl) (by rfl) hrun ?_
            refine hK _ _ ?_; clear hK K
            refine wpAnyIn_ready (rs := [8]) (by kernel_rfl) (by simp) ?_
            refine AllReadyIn.cons rfl (fun K hK => ?_) ?_
            go_simp
            refine hK _ _ ?_; clear hK K
            refine wpAnyIn_ready (rs := [9]) (by kernel_rfl) (by simp) ?_
            refine AllReadyIn.cons rfl (fun K hK => ?_) ?_
            go_simp
            refine hK _ _ ?_; clear hK K
            refine wpAnyIn_ready (rs := [10]) (by kernel_rfl) (by simp) ?_
            refine AllReadyIn.cons rfl (fun K hK => ?_) ?_
            go_simp
            refine hK _ _ ?_; clear hK K
            refine wpAnyIn_done (by kernel_rfl) ?_ _; exact LEAF ⟨#[], []⟩
            exact AllReadyIn.nil
            exact AllReadyIn.nil
            exact AllReadyIn.nil
            exact AllReadyIn.nil
            refine AllReadyIn.cons rfl (fun K hK => ?_) ?_
            refine stepIn_run (by rfl) (fun _ => trivial) _ _ (by rfl) _ _ (by rfl) (by rfl) hrun ?_
            refine hK _ _ ?_; clear hK K
            refine wpAnyIn_ready (rs := [0]) (by kernel_rfl) (by simp) ?_
            refine AllReadyIn.cons rfl (fun K hK => ?_) ?_
            go_simp
            refine hK _ _ ?_; clear hK K
            refine wpAnyIn_ready (rs := [8]) (by kernel_rfl) (by simp) ?_
            refine AllReadyIn.cons rfl (fun K hK => ?_) ?_
            go_simp
            refine hK _ _ ?_; clear hK K
            refine wpAnyIn_ready (rs := [9]) (by kernel_rfl) (by simp) ?_
            refine AllReadyIn.cons rfl (fun K hK => ?_) ?_
            go_simp
            refine hK _ _ ?_; clear hK K
            refine wpAnyIn_ready (rs := [10]) (by kernel_rfl) (by simp) ?_
            refine AllReadyIn.cons rfl (fun K hK => ?_) ?_
            go_simp
            refine hK _ _ ?_; clear hK K
            refine wpAnyIn_done (by kernel_rfl) ?_ _; exact LEAF ⟨#[], []⟩
            exact AllReadyIn.nil
            exact AllReadyIn.nil
            exact AllReadyIn.nil
            exact AllReadyIn.nil
            exact AllReadyIn.nil
            exact AllReadyIn.nil
            refine AllReadyIn.cons rfl (fun K hK => ?_) ?_
            go_simp
            refine hK _ _ ?_; clear hK K
            refine wpAnyIn_ready (rs := [0, 4]) (by kernel_rfl) (by simp) ?_
            refine AllReadyIn.cons rfl (fun K hK => ?_) ?_
            go_simp
            refine hK _ _ ?_; clear hK K
            refine wpAnyIn_ready (rs := [4]) (by kernel_rfl) (by simp) ?_
            refine AllReadyIn.cons rfl (fun K hK => ?_) ?_
            go_simp
            refine hK _ _ ?_; clear hK K
            refine wpAnyIn_ready (rs := [7]) (by kernel_rfl) (by simp) ?_
            refine AllReadyIn.cons rfl (fun K hK => ?_) ?_
            refine stepIn_run (by rfl) (fun _ => trivial) _ _ (by rfl) _ _ (by rfl) (by rfl) hrun ?_
            refine hK _ _ ?_; clear hK K
            refine wpAnyIn_ready (rs := [8]) (by kernel_rfl) (by simp) ?_
            refine AllReadyIn.cons rfl (fun K hK => ?_) ?_
            go_simp
            refine hK _ _ ?_; clear hK K
            refine wpAnyIn_ready (rs := [9]) (by kernel_rfl) (by simp) ?_
            refine AllReadyIn.cons rfl (fun K hK => ?_) ?_
            go_simp
            refine hK _ _ ?_; clear hK K
            refine wpAnyIn_ready (rs := [10]) (by kernel_rfl) (by simp) ?_
            refine AllReadyIn.cons rfl (fun K hK => ?_) ?_
            go_simp
            refine hK _ _ ?_; clear hK K
            refine wpAnyIn_done (by kernel_rfl) ?_ _; exact LEAF ⟨#[], []⟩
            exact AllReadyIn.nil
            exact AllReadyIn.nil
            exact AllReadyIn.nil
            exact AllReadyIn.nil
            exact AllReadyIn.nil
            refine AllReadyIn.cons rfl (fun K hK => ?_) ?_
            go_simp
            refine hK _ _ ?_; clear hK K
            refine wpAnyIn_ready (rs := [0, 7]) (by kernel_rfl) (by simp) ?_
            refine AllReadyIn.cons rfl (fun K hK => ?_) ?_
            go_simp
            refine hK _ _ ?_; clear hK K
            refine wpAnyIn_ready (rs := [7]) (by kernel_rfl) (by simp) ?_
            refine AllReadyIn.cons rfl (fun K hK => ?_) ?_
            refine stepIn_run (by rfl) (fun _ => trivial) _ _ (by rfl) _ _ (by rfl) (by rfl) hrun ?_
            refine hK _ _ ?_; clear hK K
            refine wpAnyIn_ready (rs := [8]) (by kernel_rfl) (by simp) ?_
            refine AllReadyIn.cons rfl (fun K hK => ?_) ?_
            go_simp
            refine hK _ _ ?_; clear hK K
            refine wpAnyIn_ready (rs := [9]) (by kernel_rfl) (by simp) ?_
            refine AllReadyIn.cons rfl (fun K hK => ?_) ?_
            go_simp
            refine hK _ _ ?_; clear hK K
            refine wpAnyIn_ready (rs := [10]) (by kernel_rfl) (by simp) ?_
            refine AllReadyIn.cons rfl (fun K hK => ?_) ?_
            go_simp
            refine hK _ _ ?_; clear hK K
            refine wpAnyIn_done (by kernel_rfl) ?_ _; exact LEAF ⟨#[], []⟩
            exact AllReadyIn.nil
            exact AllReadyIn.nil
            exact AllReadyIn.nil
            exact AllReadyIn.nil
            refine AllReadyIn.cons rfl (fun K hK => ?_) ?_
            refine stepIn_run (by rfl) (fun _ => trivial) _ _ (by rfl) _ _ (by rfl) (by rfl) hrun ?_
            refine hK _ _ ?_; clear hK K
            refine wpAnyIn_ready (rs := [0]) (by kernel_rfl) (by simp) ?_
            refine AllReadyIn.cons rfl (fun K hK => ?_) ?_
            go_simp
            refine hK _ _ ?_; clear hK K
            refine wpAnyIn_ready (rs := [8]) (by kernel_rfl) (by simp) ?_
            refine AllReadyIn.cons rfl (fun K hK => ?_) ?_
            go_simp
            refine hK _ _ ?_; clear hK K
            refine wpAnyIn_ready (rs := [9]) (by kernel_rfl) (by simp) ?_
            refine AllReadyIn.cons rfl (fun K hK => ?_) ?_
            go_simp
            refine hK _ _ ?_; clear hK K
            refine wpAnyIn_ready (rs := [10]) (by kernel_rfl) (by simp) ?_
            refine AllReadyIn.cons rfl (fun K hK => ?_) ?_
            go_simp
            refine hK _ _ ?_; clear hK K
            refine wpAnyIn_done (by kernel_rfl) ?_ _; exact LEAF ⟨#[], []⟩
            exact AllReadyIn.nil
            exact AllReadyIn.nil
            exact AllReadyIn.nil
            exact AllReadyIn.nil
            exact AllReadyIn.nil
            exact AllReadyIn.nil
            exact AllReadyIn.nil
            refine AllReadyIn.cons rfl (fun K hK => ?_) ?_
            go_simp
            refine hK _ _ ?_; clear hK K
            refine wpAnyIn_ready (rs := [0, 3]) (by kernel_rfl) (by simp) ?_
            refine AllReadyIn.cons rfl (fun K hK => ?_) ?_
            go_simp
            refine hK _ _ ?_; clear hK K
            refine wpAnyIn_ready (rs := [3]) (by kernel_rfl) (by simp) ?_
            refine AllReadyIn.cons rfl (fun K hK => ?_) ?_
            go_simp
            refine hK _ _ ?_; clear hK K
            refine wpAnyIn_ready (rs := [4]) (by kernel_rfl) (by simp) ?_
            refine AllReadyIn.cons rfl (fun K hK => ?_) ?_
            go_simp
            refine hK _ _ ?_; clear hK K
            refine wpAnyIn_ready (rs := [7]) (by kernel_rfl) (by simp) ?_
            refine AllReadyIn.cons rfl (fun K hK => ?_) ?_
            refine stepIn_run (by rfl) (fun _ => trivial) _ _ (by rfl) _ _ (by rfl) (by rfl) hrun ?_
            refine hK _ _ ?_; clear hK K
            refine wpAnyIn_ready (rs := [8]) (by kernel_rfl) (by simp) ?_
            refine AllReadyIn.cons rfl (fun K hK => ?_) ?_
            go_simp
            refine hK _ _ ?_; clear hK K
            refine wpAnyIn_ready (rs := [9]) (by kernel_rfl) (by simp) ?_
            refine AllReadyIn.cons rfl (fun K hK => ?_) ?_
            go_simp
            refine hK _ _ ?_; clear hK K
            refine wpAnyIn_ready (rs := [10]) (by kernel_rfl) (by simp) ?_
            refine AllReadyIn.cons rfl (fun K hK => ?_) ?_
            go_simp
            refine hK _ _ ?_; clear hK K
            refine wpAnyIn_done (by kernel_rfl) ?_ _; exact LEAF ⟨#[], []⟩
            exact AllReadyIn.nil
            exact AllReadyIn.nil
            exact AllReadyIn.nil
            exact AllReadyIn.nil
            exact AllReadyIn.nil
            exact AllReadyIn.nil
            refine AllReadyIn.cons rfl (fun K hK => ?_) ?_
            go_simp
            refine hK _ _ ?_; clear hK K
            refine wpAnyIn_ready (rs := [0, 4]) (by kernel_rfl) (by simp) ?_
            refine AllReadyIn.cons rfl (fun K hK => ?_) ?_
            go_simp
            refine hK _ _ ?_; clear hK K
            refine wpAnyIn_ready (rs := [4]) (by kernel_rfl) (by simp) ?_
            refine AllReadyIn.cons rfl (fun K hK => ?_) ?_
            go_simp
            refine hK _ _ ?_; clear hK K
            refine wpAnyIn_ready (rs := [7]) (by kernel_rfl) (by simp) ?_
            refine AllReadyIn.cons rfl (fun K hK => ?_) ?_
            refine stepIn_run (by rfl) (fun _ => trivial) _ _ (by rfl) _ _ (by rfl) (by rfl) hrun ?_
            refine hK _ _ ?_; clear hK K
            refine wpAnyIn_ready (rs := [8]) (by kernel_rfl) (by simp) ?_
            refine AllReadyIn.cons rfl (fun K hK => ?_) ?_
            go_simp
            refine hK _ _ ?_; clear hK K
            refine wpAnyIn_ready (rs := [9]) (by kernel_rfl) (by simp) ?_
            refine AllReadyIn.cons rfl (fun K hK => ?_) ?_
            go_simp
            refine hK _ _ ?_; clear hK K
            refine wpAnyIn_ready (rs := [10]) (by kernel_rfl) (by simp) ?_
            refine AllReadyIn.cons rfl (fun K hK => ?_) ?_
            go_simp
            refine hK _ _ ?_; clear hK K
            refine wpAnyIn_done (by kernel_rfl) ?_ _; exact LEAF ⟨#[], []⟩
            exact AllReadyIn.nil
            exact AllReadyIn.nil
            exact AllReadyIn.nil
            exact AllReadyIn.nil
            exact AllReadyIn.nil
            refine AllReadyIn.cons rfl (fun K hK => ?_) ?_
            go_simp
            refine hK _ _ ?_; clear hK K
            refine wpAnyIn_ready (rs := [0, 7]) (by kernel_rfl) (by simp) ?_
            refine AllReadyIn.cons rfl (fun K hK => ?_) ?_
            go_simp
            refine hK _ _ ?_; clear hK K
            refine wpAnyIn_ready (rs := [7]) (by kernel_rfl) (by simp) ?_
            refine AllReadyIn.cons rfl (fun K hK => ?_) ?_
            refine stepIn_run (by rfl) (fun _ => trivial) _ _ (by rfl) _ _ (by rfl) (by rfl) hrun ?_
            refine hK _ _ ?_; clear hK K
            refine wpAnyIn_ready (rs := [8]) (by kernel_rfl) (by simp) ?_
            refine AllReadyIn.cons rfl (fun K hK => ?_) ?_
            go_simp
            refine hK _ _ ?_; clear hK K
            refine wpAnyIn_ready (rs := [9]) (by kernel_rfl) (by simp) ?_
            refine AllReadyIn.cons rfl (fun K hK => ?_) ?_
            go_simp
            refine hK _ _ ?_; clear hK K
            refine wpAnyIn_ready (rs := [10]) (by kernel_rfl) (by simp) ?_
            refine AllReadyIn.cons rfl (fun K hK => ?_) ?_
            go_simp
            refine hK _ _ ?_; clear hK K
            refine wpAnyIn_done (by kernel_rfl) ?_ _; exact LEAF ⟨#[], []⟩
            exact AllReadyIn.nil
            exact AllReadyIn.nil
            exact AllReadyIn.nil
            exact AllReadyIn.nil
            refine AllReadyIn.cons rfl (fun K hK => ?_) ?_
            refine stepIn_run (by rfl) (fun _ => trivial) _ _ (by rfl) _ _ (by rfl) (by rfl) hrun ?_
            refine hK _ _ ?_; clear hK K
            refine wpAnyIn_ready (rs := [0]) (by kernel_rfl) (by simp) ?_
            refine AllReadyIn.cons rfl (fun K hK => ?_) ?_
            go_simp
            refine hK _ _ ?_; clear hK K
            refine wpAnyIn_ready (rs := [8]) (by kernel_rfl) (by simp) ?_
            refine AllReadyIn.cons rfl (fun K hK => ?_) ?_
            go_simp
            refine hK _ _ ?_; clear hK K
            refine wpAnyIn_ready (rs := [9]) (by kernel_rfl) (by simp) ?_
            refine AllReadyIn.cons rfl (fun K hK => ?_) ?_
            go_simp
            refine hK _ _ ?_; clear hK K
            refine wpAnyIn_ready (rs := [10]) (by kernel_rfl) (by simp) ?_
            refine AllReadyIn.cons rfl (fun K hK => ?_) ?_
            go_simp
            refine hK _ _ ?_; clear hK K
            refine wpAnyIn_done (by kernel_rfl) ?_ _; exact LEAF ⟨#[], []⟩
            exact AllReadyIn.nil
            exact AllReadyIn.nil
            exact AllReadyIn.nil
            exact AllReadyIn.nil
            exact AllReadyIn.nil
            exact AllReadyIn.nil
            exact AllReadyIn.nil
            exact AllReadyIn.nil
            refine AllReadyIn.cons rfl (fun K hK => ?_) ?_
            go_simp
            refine hK _ _ ?_; clear hK K
            refine wpAnyIn_ready (rs := [0, 2]) (by kernel_rfl) (by simp) ?_
            refine AllReadyIn.cons rfl (fun K hK => ?_) ?_
            go_simp
            refine hK _ _ ?_; clear hK K
            refine wpAnyIn_ready (rs := [2]) (by kernel_rfl) (by simp) ?_
            refine AllReadyIn.cons rfl (fun K hK => ?_) ?_
            go_simp
            refine hK _ _ ?_; clear hK K
            refine wpAnyIn_ready (rs := [3]) (by kernel_rfl) (by simp) ?_
            refine AllReadyIn.cons rfl (fun K hK => ?_) ?_
            go_simp
            refine hK _ _ ?_; clear hK K
            refine wpAnyIn_ready (rs := [4]) (by kernel_rfl) (by simp) ?_
            refine AllReadyIn.cons rfl (fun K hK => ?_) ?_
            go_simp
            refine hK _ _ ?_; clear hK K
            refine wpAnyIn_ready (rs := [7]) (by kernel_rfl) (by simp) ?_
            refine AllReadyIn.cons rfl (fun K hK => ?_) ?_
            refine stepIn_run (by rfl) (fun _ => trivial) _ _ (by rfl) _ _ (by rfl) (by rfl) hrun ?_
            refine hK _ _ ?_; clear hK K
            refine wpAnyIn_ready (rs := [8]) (by kernel_rfl) (by simp) ?_
            refine AllReadyIn.cons rfl (fun K hK => ?_) ?_
            go_simp
            refine hK _ _ ?_; clear hK K
            refine wpAnyIn_ready (rs := [9]) (by kernel_rfl) (by simp) ?_
            refine AllReadyIn.cons rfl (fun K hK => ?_) ?_
            go_simp
            refine hK _ _ ?_; clear hK K
            refine wpAnyIn_ready (rs := [10]) (by kernel_rfl) (by simp) ?_
            refine AllReadyIn.cons rfl (fun K hK => ?_) ?_
            go_simp
            refine hK _ _ ?_; clear hK K
            refine wpAnyIn_done (by kernel_rfl) ?_ _; exact LEAF ⟨#[], []⟩
            exact AllReadyIn.nil
            exact AllReadyIn.nil
            exact AllReadyIn.nil
            exact AllReadyIn.nil
            exact AllReadyIn.nil
            exact AllReadyIn.nil
            exact AllReadyIn.nil
            refine AllReadyIn.cons rfl (fun K hK => ?_) ?_
            go_simp
            refine hK _ _ ?_; clear hK K
            refine wpAnyIn_ready (rs := [0, 3]) (by kernel_rfl) (by simp) ?_
            refine AllReadyIn.cons rfl (fun K hK => ?_) ?_
            go_simp
            refine hK _ _ ?_; clear hK K
            refine wpAnyIn_ready (rs := [3]) (by kernel_rfl) (by simp) ?_
            refine AllReadyIn.cons rfl (fun K hK => ?_) ?_
            go_simp
            refine hK _ _ ?_; clear hK K
            refine wpAnyIn_ready (rs := [4]) (by kernel_rfl) (by simp) ?_
            refine AllReadyIn.cons rfl (fun K hK => ?_) ?_
            go_simp
            refine hK _ _ ?_; clear hK K
            refine wpAnyIn_ready (rs := [7]) (by kernel_rfl) (by simp) ?_
            refine AllReadyIn.cons rfl (fun K hK => ?_) ?_
            refine stepIn_run (by rfl) (fun _ => trivial) _ _ (by rfl) _ _ (by rfl) (by rfl) hrun ?_
            refine hK _ _ ?_; clear hK K
            refine wpAnyIn_ready (rs := [8]) (by kernel_rfl) (by simp) ?_
            refine AllReadyIn.cons rfl (fun K hK => ?_) ?_
            go_simp
            refine hK _ _ ?_; clear hK K
            refine wpAnyIn_ready (rs := [9]) (by kernel_rfl) (by simp) ?_
            refine AllReadyIn.cons rfl (fun K hK => ?_) ?_
            go_simp
            refine hK _ _ ?_; clear hK K
            refine wpAnyIn_ready (rs := [10]) (by kernel_rfl) (by simp) ?_
            refine AllReadyIn.cons rfl (fun K hK => ?_) ?_
            go_simp
            refine hK _ _ ?_; clear hK K
            refine wpAnyIn_done (by kernel_rfl) ?_ _; exact LEAF ⟨#[], []⟩
            exact AllReadyIn.nil
            exact AllReadyIn.nil
            exact AllReadyIn.nil
            exact AllReadyIn.nil
            exact AllReadyIn.nil
            exact AllReadyIn.nil
            refine AllReadyIn.cons rfl (fun K hK => ?_) ?_
            go_simp
            refine hK _ _ ?_; clear hK K
            refine wpAnyIn_ready (rs := [0, 4]) (by kernel_rfl) (by simp) ?_
            refine AllReadyIn.cons rfl (fun K hK => ?_) ?_
            go_simp
            refine hK _ _ ?_; clear hK K
            refine wpAnyIn_ready (rs := [4]) (by kernel_rfl) (by simp) ?_
            refine AllReadyIn.cons rfl (fun K hK => ?_) ?_
            go_simp
            refine hK _ _ ?_; clear hK K
            refine wpAnyIn_ready (rs := [7]) (by kernel_rfl) (by simp) ?_
            refine AllReadyIn.cons rfl (fun K hK => ?_) ?_
            refine stepIn_run (by rfl) (fun _ => trivial) _ _ (by rfl) _ _ (by rfl) (by rfl) hrun ?_
            refine hK _ _ ?_; clear hK K
            refine wpAnyIn_ready (rs := [8]) (by kernel_rfl) (by simp) ?_
            refine AllReadyIn.cons rfl (fun K hK => ?_) ?_
            go_simp
            refine hK _ _ ?_; clear hK K
            refine wpAnyIn_ready (rs := [9]) (by kernel_rfl) (by simp) ?_
            refine AllReadyIn.cons rfl (fun K hK => ?_) ?_
            go_simp
            refine hK _ _ ?_; clear hK K
            refine wpAnyIn_ready (rs := [10]) (by kernel_rfl) (by simp) ?_
            refine AllReadyIn.cons rfl (fun K hK => ?_) ?_
            go_simp
            refine hK _ _ ?_; clear hK K
            refine wpAnyIn_done (by kernel_rfl) ?_ _; exact LEAF ⟨#[], []⟩
            exact AllReadyIn.nil
            exact AllReadyIn.nil
            exact AllReadyIn.nil
            exact AllReadyIn.nil
            exact AllReadyIn.nil
            refine AllReadyIn.cons rfl (fun K hK => ?_) ?_
            go_simp
            refine hK _ _ ?_; clear hK K
            refine wpAnyIn_ready (rs := [0, 7]) (by kernel_rfl) (by simp) ?_
            refine AllReadyIn.cons rfl (fun K hK => ?_) ?_
            go_simp
            refine hK _ _ ?_; clear hK K
            refine wpAnyIn_ready (rs := [7]) (by kernel_rfl) (by simp) ?_
            refine AllReadyIn.cons rfl (fun K hK => ?_) ?_
            refine stepIn_run (by rfl) (fun _ => trivial) _ _ (by rfl) _ _ (by rfl) (by rfl) hrun ?_
            refine hK _ _ ?_; clear hK K
            refine wpAnyIn_ready (rs := [8]) (by kernel_rfl) (by simp) ?_
            refine AllReadyIn.cons rfl (fun K hK => ?_) ?_
            go_simp
            refine hK _ _ ?_; clear hK K
            refine wpAnyIn_ready (rs := [9]) (by kernel_rfl) (by simp) ?_
            refine AllReadyIn.cons rfl (fun K hK => ?_) ?_
            go_simp
            refine hK _ _ ?_; clear hK K
            refine wpAnyIn_ready (rs := [10]) (by kernel_rfl) (by simp) ?_
            refine AllReadyIn.cons rfl (fun K hK => ?_) ?_
            go_simp
            refine hK _ _ ?_; clear hK K
            refine wpAnyIn_done (by kernel_rfl) ?_ _; exact LEAF ⟨#[], []⟩
            exact AllReadyIn.nil
            exact AllReadyIn.nil
            exact AllReadyIn.nil
            exact AllReadyIn.nil
            refine AllReadyIn.cons rfl (fun K hK => ?_) ?_
            refine stepIn_run (by rfl) (fun _ => trivial) _ _ (by rfl) _ _ (by rfl) (by rfl) hrun ?_
            refine hK _ _ ?_; clear hK K
            refine wpAnyIn_ready (rs := [0]) (by kernel_rfl) (by simp) ?_
            refine AllReadyIn.cons rfl (fun K hK => ?_) ?_
            go_simp
            refine hK _ _ ?_; clear hK K
            refine wpAnyIn_ready (rs := [8]) (by kernel_rfl) (by simp) ?_
            refine AllReadyIn.cons rfl (fun K hK => ?_) ?_
            go_simp
            refine hK _ _ ?_; clear hK K
            refine wpAnyIn_ready (rs := [9]) (by kernel_rfl) (by simp) ?_
            refine AllReadyIn.cons rfl (fun K hK => ?_) ?_
            go_simp
            refine hK _ _ ?_; clear hK K
            refine wpAnyIn_ready (rs := [10]) (by kernel_rfl) (by simp) ?_
            refine AllReadyIn.cons rfl (fun K hK => ?_) ?_
            go_simp
            refine hK _ _ ?_; clear hK K
            refine wpAnyIn_done (by kernel_rfl) ?_ _; exact LEAF ⟨#[], []⟩
            exact AllReadyIn.nil
            exact AllReadyIn.nil
            exact AllReadyIn.nil
            exact AllReadyIn.nil
            exact AllReadyIn.nil
            exact AllReadyIn.nil
            exact AllReadyIn.nil
            exact AllReadyIn.nil
            exact AllReadyIn.nil
            refine AllReadyIn.cons rfl (fun K hK => ?_) ?_
            go_simp
            refine hK _ _ ?_; clear hK K
            refine wpAnyIn_ready (rs := [0, 1]) (by kernel_rfl) (by simp) ?_
            refine AllReadyIn.cons rfl (fun K hK => ?_) ?_
            go_simp
            refine hK _ _ ?_; clear hK K
            refine wpAnyIn_ready (rs := [1]) (by kernel_rfl) (by simp) ?_
            refine AllReadyIn.cons rfl (fun K hK => ?_) ?_
            go_simp
            refine hK _ _ ?_; clear hK K
            refine wpAnyIn_ready (rs := [2]) (by kernel_rfl) (by simp) ?_
            refine AllReadyIn.cons rfl (fun K hK => ?_) ?_
            go_simp
            refine hK _ _ ?_; clear hK K
            refine wpAnyIn_ready (rs := [3]) (by kernel_rfl) (by simp) ?_
            refine AllReadyIn.cons rfl (fun K hK => ?_) ?_
            go_simp
            refine hK _ _ ?_; clear hK K
            refine wpAnyIn_ready (rs := [4]) (by kernel_rfl) (by simp) ?_
            refine AllReadyIn.cons rfl (fun K hK => ?_) ?_
            go_simp
            refine hK _ _ ?_; clear hK K
            refine wpAnyIn_ready (rs := [7]) (by kernel_rfl) (by simp) ?_
            refine AllReadyIn.cons rfl (fun K hK => ?_) ?_
            refine stepIn_run (by rfl) (fun _ => trivial) _ _ (by rfl) _ _ (by rfl) (by rfl) hrun ?_
            refine hK _ _ ?_; clear hK K
            refine wpAnyIn_ready (rs := [8]) (by kernel_rfl) (by simp) ?_
            refine AllReadyIn.cons rfl (fun K hK => ?_) ?_
            go_simp
            refine hK _ _ ?_; clear hK K
            refine wpAnyIn_ready (rs := [9]) (by kernel_rfl) (by simp) ?_
            refine AllReadyIn.cons rfl (fun K hK => ?_) ?_
            go_simp
            refine hK _ _ ?_; clear hK K
            refine wpAnyIn_ready (rs := [10]) (by kernel_rfl) (by simp) ?_
            refine AllReadyIn.cons rfl (fun K hK => ?_) ?_
            go_simp
            refine hK _ _ ?_; clear hK K
            refine wpAnyIn_done (by kernel_rfl) ?_ _; exact LEAF ⟨#[], []⟩
            exact AllReadyIn.nil
            exact AllReadyIn.nil
            exact AllReadyIn.nil
            exact AllReadyIn.nil
            exact AllReadyIn.nil
            exact AllReadyIn.nil
            exact AllReadyIn.nil
            exact AllReadyIn.nil
            refine AllReadyIn.cons rfl (fun K hK => ?_) ?_
            go_simp
            refine hK _ _ ?_; clear hK K
            refine wpAnyIn_ready (rs := [0, 2]) (by kernel_rfl) (by simp) ?_
            refine AllReadyIn.cons rfl (fun K hK => ?_) ?_
            go_simp
            refine hK _ _ ?_; clear hK K
            refine wpAnyIn_ready (rs := [2]) (by kernel_rfl) (by simp) ?_
            refine AllReadyIn.cons rfl (fun K hK => ?_) ?_
            go_simp
            refine hK _ _ ?_; clear hK K
            refine wpAnyIn_ready (rs := [3]) (by kernel_rfl) (by simp) ?_
            refine AllReadyIn.cons rfl (fun K hK => ?_) ?_
            go_simp
            refine hK _ _ ?_; clear hK K
            refine wpAnyIn_ready (rs := [4]) (by kernel_rfl) (by simp) ?_
            refine AllReadyIn.cons rfl (fun K hK => ?_) ?_
            go_simp
            refine hK _ _ ?_; clear hK K
            refine wpAnyIn_ready (rs := [7]) (by kernel_rfl) (by simp) ?_
            refine AllReadyIn.cons rfl (fun K hK => ?_) ?_
            refine stepIn_run (by rfl) (fun _ => trivial) _ _ (by rfl) _ _ (by rfl) (by rfl) hrun ?_
            refine hK _ _ ?_; clear hK K
            refine wpAnyIn_ready (rs := [8]) (by kernel_rfl) (by simp) ?_
            refine AllReadyIn.cons rfl (fun K hK => ?_) ?_
            go_simp
            refine hK _ _ ?_; clear hK K
            refine wpAnyIn_ready (rs := [9]) (by kernel_rfl) (by simp) ?_
            refine AllReadyIn.cons rfl (fun K hK => ?_) ?_
            go_simp
            refine hK _ _ ?_; clear hK K
            refine wpAnyIn_ready (rs := [10]) (by kernel_rfl) (by simp) ?_
            refine AllReadyIn.cons rfl (fun K hK => ?_) ?_
            go_simp
            refine hK _ _ ?_; clear hK K
            refine wpAnyIn_done (by kernel_rfl) ?_ _; exact LEAF ⟨#[], []⟩
            exact AllReadyIn.nil
            exact AllReadyIn.nil
            exact AllReadyIn.nil
            exact AllReadyIn.nil
            exact AllReadyIn.nil
            exact AllReadyIn.nil
            exact AllReadyIn.nil
            refine AllReadyIn.cons rfl (fun K hK => ?_) ?_
            go_simp
            refine hK _ _ ?_; clear hK K
            refine wpAnyIn_ready (rs := [0, 3]) (by kernel_rfl) (by simp) ?_
            refine AllReadyIn.cons rfl (fun K hK => ?_) ?_
            go_simp
            refine hK _ _ ?_; clear hK K
            refine wpAnyIn_ready (rs := [3]) (by kernel_rfl) (by simp) ?_
            refine AllReadyIn.cons rfl (fun K hK => ?_) ?_
            go_simp
            refine hK _ _ ?_; clear hK K
            refine wpAnyIn_ready (rs := [4]) (by kernel_rfl) (by simp) ?_
            refine AllReadyIn.cons rfl (fun K hK => ?_) ?_
            go_simp
            refine hK _ _ ?_; clear hK K
            refine wpAnyIn_ready (rs := [7]) (by kernel_rfl) (by simp) ?_
            refine AllReadyIn.cons rfl (fun K hK => ?_) ?_
            refine stepIn_run (by rfl) (fun _ => trivial) _ _ (by rfl) _ _ (by rfl) (by rfl) hrun ?_
            refine hK _ _ ?_; clear hK K
            refine wpAnyIn_ready (rs := [8]) (by kernel_rfl) (by simp) ?_
            refine AllReadyIn.cons rfl (fun K hK => ?_) ?_
            go_simp
            refine hK _ _ ?_; clear hK K
            refine wpAnyIn_ready (rs := [9]) (by kernel_rfl) (by simp) ?_
            refine AllReadyIn.cons rfl (fun K hK => ?_) ?_
            go_simp
            refine hK _ _ ?_; clear hK K
            refine wpAnyIn_ready (rs := [10]) (by kernel_rfl) (by simp) ?_
            refine AllReadyIn.cons rfl (fun K hK => ?_) ?_
            go_simp
            refine hK _ _ ?_; clear hK K
            refine wpAnyIn_done (by kernel_rfl) ?_ _; exact LEAF ⟨#[], []⟩
            exact AllReadyIn.nil
            exact AllReadyIn.nil
            exact AllReadyIn.nil
            exact AllReadyIn.nil
            exact AllReadyIn.nil
            exact AllReadyIn.nil
            refine AllReadyIn.cons rfl (fun K hK => ?_) ?_
            go_simp
            refine hK _ _ ?_; clear hK K
            refine wpAnyIn_ready (rs := [0, 4]) (by kernel_rfl) (by simp) ?_
            refine AllReadyIn.cons rfl (fun K hK => ?_) ?_
            go_simp
            refine hK _ _ ?_; clear hK K
            refine wpAnyIn_ready (rs := [4]) (by kernel_rfl) (by simp) ?_
            refine AllReadyIn.cons rfl (fun K hK => ?_) ?_
            go_simp
            refine hK _ _ ?_; clear hK K
            refine wpAnyIn_ready (rs := [7]) (by kernel_rfl) (by simp) ?_
            refine AllReadyIn.cons rfl (fun K hK => ?_) ?_
            refine stepIn_run (by rfl) (fun _ => trivial) _ _ (by rfl) _ _ (by rfl) (by rfl) hrun ?_
            refine hK _ _ ?_; clear hK K
            refine wpAnyIn_ready (rs := [8]) (by kernel_rfl) (by simp) ?_
            refine AllReadyIn.cons rfl (fun K hK => ?_) ?_
            go_simp
            refine hK _ _ ?_; clear hK K
            refine wpAnyIn_ready (rs := [9]) (by kernel_rfl) (by simp) ?_
            refine AllReadyIn.cons rfl (fun K hK => ?_) ?_
            go_simp
            refine hK _ _ ?_; clear hK K
            refine wpAnyIn_ready (rs := [10]) (by kernel_rfl) (by simp) ?_
            refine AllReadyIn.cons rfl (fun K hK => ?_) ?_
            go_simp
            refine hK _ _ ?_; clear hK K
            refine wpAnyIn_done (by kernel_rfl) ?_ _; exact LEAF ⟨#[], []⟩
            exact AllReadyIn.nil
            exact AllReadyIn.nil
            exact AllReadyIn.nil
            exact AllReadyIn.nil
            exact AllReadyIn.nil
            refine AllReadyIn.cons rfl (fun K hK => ?_) ?_
            go_simp
            refine hK _ _ ?_; clear hK K
            refine wpAnyIn_ready (rs := [0, 7]) (by kernel_rfl) (by simp) ?_
            refine AllReadyIn.cons rfl (fun K hK => ?_) ?_
            go_simp
            refine hK _ _ ?_; clear hK K
            refine wpAnyIn_ready (rs := [7]) (by kernel_rfl) (by simp) ?_
            refine AllReadyIn.cons rfl (fun K hK => ?_) ?_
            refine stepIn_run (by rfl) (fun _ => trivial) _ _ (by rfl) _ _ (by rfl) (by rfl) hrun ?_
            refine hK _ _ ?_; clear hK K
            refine wpAnyIn_ready (rs := [8]) (by kernel_rfl) (by simp) ?_
            refine AllReadyIn.cons rfl (fun K hK => ?_) ?_
            go_simp
            refine hK _ _ ?_; clear hK K
            refine wpAnyIn_ready (rs := [9]) (by kernel_rfl) (by simp) ?_
            refine AllReadyIn.cons rfl (fun K hK => ?_) ?_
            go_simp
            refine hK _ _ ?_; clear hK K
            refine wpAnyIn_ready (rs := [10]) (by kernel_rfl) (by simp) ?_
            refine AllReadyIn.cons rfl (fun K hK => ?_) ?_
            go_simp
            refine hK _ _ ?_; clear hK K
            refine wpAnyIn_done (by kernel_rfl) ?_ _; exact LEAF ⟨#[], []⟩
            exact AllReadyIn.nil
            exact AllReadyIn.nil
            exact AllReadyIn.nil
            exact AllReadyIn.nil
            refine AllReadyIn.cons rfl (fun K hK => ?_) ?_
            refine stepIn_run (by rfl) (fun _ => trivial) _ _ (by rfl) _ _ (by rfl) (by rfl) hrun ?_
            refine hK _ _ ?_; clear hK K
            refine wpAnyIn_ready (rs := [0]) (by kernel_rfl) (by simp) ?_
            refine AllReadyIn.cons rfl (fun K hK => ?_) ?_
            go_simp
            refine hK _ _ ?_; clear hK K
            refine wpAnyIn_ready (rs := [8]) (by kernel_rfl) (by simp) ?_
            refine AllReadyIn.cons rfl (fun K hK => ?_) ?_
            go_simp
            refine hK _ _ ?_; clear hK K
            refine wpAnyIn_ready (rs := [9]) (by kernel_rfl) (by simp) ?_
            refine AllReadyIn.cons rfl (fun K hK => ?_) ?_
            go_simp
            refine hK _ _ ?_; clear hK K
            refine wpAnyIn_ready (rs := [10]) (by kernel_rfl) (by simp) ?_
            refine AllReadyIn.cons rfl (fun K hK => ?_) ?_
            go_simp
            refine hK _ _ ?_; clear hK K
            refine wpAnyIn_done (by kernel_rfl) ?_ _; exact LEAF ⟨#[], []⟩
            exact AllReadyIn.nil
            exact AllReadyIn.nil
            exact AllReadyIn.nil
            exact AllReadyIn.nil
            exact AllReadyIn.nil
            exact AllReadyIn.nil
            exact AllReadyIn.nil
            exact AllReadyIn.nil
            exact AllReadyIn.nil
            exact AllReadyIn.nil
            exact AllReadyIn.nil
          case done =>
            rintro Db xs O W' hD hnO hO hS ⟨v, hc, hb, b5, hov, hlen⟩ hd
            have hbw := HB2.out.size
            have PB : Below Db W' (W'.putObj Db (.deferred none)) := below_put W' _ (Nat.le_refl _) (by have := (Array.getElem?_eq_some_iff.1 hd).1; omega)
            have HCD := Lib.hid (show ChB (W'.putObj Db (.deferred none)) C M (ptsC S m q) (stpC R S m q) (.slice A2 l.length c2') v by
              have h5 := hc.same (w' := W'.putObj Db (.deferred none)) PB.size (PB.block C (by omega)) (PB.block M (by omega)) (fun g e => PB.block g (by have := HOP.out g e; omega)) (fun g e => by
                rcases hov g e with h | h
                · exact PB.block g (by omega)
                · exact World.putObj_heap_other (fun e2 => hnO (e2 ▸ h)))
              rw [hS, ← HST.out, HL0.out] at h5
              rw [HL0.out]
              exact h5)
            have HBD := Lib.hid (show Bl w (W'.putObj Db (.deferred none)) from Below.trans hb (PB.mono (by omega)))
            go_wp2_with fail
            refine ⟨by simp, .inl ⟨_, _, rfl, run_takeDeferred hd, ?_⟩⟩
            exact ⟨_, results_tmp rfl _ _ _, C, M, _, _, rfl, HCD.out, HBD.out, by omega⟩
          case stop =>
            rintro Db pre O W' hD hnO hO hS h hd
            exact h.elim
end Go.Proofs.Ytchikfegpoonjaa
