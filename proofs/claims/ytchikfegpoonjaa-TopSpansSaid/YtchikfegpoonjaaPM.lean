/-
  Package sight: a step is pushed.
-/
import Derived.Test.YtchikfegpoonjaaPK
namespace Go.Proofs.Ytchikfegpoonjaa
open Go.RowKit
set_option linter.unusedSimpArgs false
set_option linter.unusedVariables false

/-- A row of numbers that may be written. -/
def Rw (w : World) (b n : Nat) (f : Nat → Int) : Prop := ∀ j, j < n → w.cell? ⟨b, j, none⟩ = some (.int .i64 (f j)) ∧ w.frozen? ⟨b, j, none⟩ = false
theorem Rw.below {w w' : World} {b n : Nat} {f : Nat → Int} (h : Rw w b n f) (hb : Bl w w') : Rw w' b n f := fun j hj => ⟨kcb hb (h j hj).1, fzb hb (h j hj).2 (ltb (h j hj).1)⟩
theorem Rw.other {w : World} {b n b' o : Nat} {f : Nat → Int} {v : Value} (h : Rw w b n f) (hne : b ≠ b') : Rw (w.setCell ⟨b', o, none⟩ v) b n f := fun j hj => ⟨cell_setO (h j hj).1 hne, by simpa using (h j hj).2⟩
theorem Rw.set {w : World} {b n t : Nat} {f : Nat → Int} {x : Int} (h : Rw w b n f) (ht : t < n) : Rw (w.setCell ⟨b, t, none⟩ (.int .i64 x)) b n (upd f t x) := fun j hj => by
  refine ⟨?_, by simpa using (h j hj).2⟩
  have c0 := (h t ht).1
  have cj := (h j hj).1
  by_cases e : j = t
  · subst e; rw [upd_same]; go_cell
  · rw [upd_ne _ _ e]
    go_cell
/-- A slice of steps reads as a function. -/
def Edl (w : World) (A : Option Addr) (m : Nat) (E : Nat → Edg) : Prop :=
  0 < m → ∃ b off, A = some ⟨b, off, none⟩ ∧ b < w.heap.size ∧ ∀ j, j < m → w.cell? ⟨b, off + j * 4, none⟩ = some (.int .i64 ((E j).fr : Int)) ∧ w.cell? ⟨b, off + j * 4 + 1, none⟩ = some (.int .i64 ((E j).to : Int)) ∧ w.cell? ⟨b, off + j * 4 + 2, none⟩ = some (.int .i64 (E j).co) ∧ w.cell? ⟨b, off + j * 4 + 3, none⟩ = some (.int .i64 (E j).no)
theorem Edl.same {w w' : World} {A : Option Addr} {m : Nat} {E : Nat → Edg} (h : Edl w A m E) (hs : w.heap.size ≤ w'.heap.size) (hk : ∀ k, InK A k → w'.heap[k]? = w.heap[k]?) : Edl w' A m E := fun hn => by
  obtain ⟨b, off, e, hlt, hc⟩ := h hn
  have hb := hk b ⟨_, e, rfl⟩
  exact ⟨b, off, e, Nat.lt_of_lt_of_le hlt hs, fun j hj => ⟨(World.cell?_of_block hb).trans (hc j hj).1, (World.cell?_of_block hb).trans (hc j hj).2.1, (World.cell?_of_block hb).trans (hc j hj).2.2.1, (World.cell?_of_block hb).trans (hc j hj).2.2.2⟩⟩
/-- What a push reads and writes. -/
structure PsF (t1 t2 t3 C bc bb n nc nb : Nat) (As : Option Addr) (m cs : Nat) (E : Nat → Edg) (st : Stt) (X : World) : Prop where
  b1 : X.cell? ⟨t1, 0, none⟩ = some (.pointer (some ⟨C, 0, none⟩))
  b2 : X.cell? ⟨t2, 0, none⟩ = some (.slice (some ⟨bc, 0, none⟩) n nc)
  b3 : X.cell? ⟨t3, 0, none⟩ = some (.slice (some ⟨bb, 0, none⟩) n nb)
  c2 : X.cell? ⟨C, 2, none⟩ = some (.slice As m cs)
  es : Edl X As m E
  rc : Rw X bc n st.c
  rb : Rw X bb n st.b
/-- The blocks lie apart. -/
structure PsA (t1 t2 t3 C bc bb : Nat) (As : Option Addr) : Prop where
  n1 : bc ≠ t1 ∧ bb ≠ t1
  n2 : bc ≠ t2 ∧ bb ≠ t2
  n3 : bc ≠ t3 ∧ bb ≠ t3
  nC : bc ≠ C ∧ bb ≠ C
  nb : bc ≠ bb
  nA : ∀ k, InK As k → k ≠ bc ∧ k ≠ bb
/-- New blocks and two rows alone have been turned. -/
structure Ex2 (p q : Nat) (w w' : World) : Prop where
  os : w'.os = w.os
  tape : w'.tape = w.tape
  output : w'.output = w.output
  size : w.heap.size ≤ w'.heap.size
  block : ∀ k, k < w.heap.size → k ≠ p → k ≠ q → w'.heap[k]? = w.heap[k]?
theorem Ex2.of_bl {p q : Nat} {w w' : World} (h : Bl w w') : Ex2 p q w w' := ⟨h.os, h.tape, h.output, h.size, fun k hk _ _ => h.block k hk⟩
theorem Ex2.tr {p q : Nat} {X Y Z : World} (h : Ex2 p q X Y) (k : Ex2 p q Y Z) : Ex2 p q X Z :=
  ⟨k.os.trans h.os, k.tape.trans h.tape, k.output.trans h.output, Nat.le_trans h.size k.size, fun i hi a b => (k.block i (Nat.lt_of_lt_of_le hi h.size) a b).trans (h.block i hi a b)⟩
theorem Ex2.set {p q b o : Nat} {X Y : World} {v : Value} (h : Ex2 p q X Y) (hb : b = p ∨ b = q) : Ex2 p q X (Y.setCell ⟨b, o, none⟩ v) :=
  ⟨h.os, h.tape, h.output, Nat.le_trans h.size (size_setS Y _ v), fun k hk a c => (Below.heap_setCell _ _ _ k (fun e => by simp only at e; rcases hb with q | q <;> omega)).trans (h.block k hk a c)⟩
theorem PsF.ex {t1 t2 t3 C bc bb n nc nb : Nat} {As : Option Addr} {m cs : Nat} {E : Nat → Edg} {st st' : Stt} {X Y : World} (h : PsF t1 t2 t3 C bc bb n nc nb As m cs E st X) (ha : PsA t1 t2 t3 C bc bb As) (hx : Ex2 bc bb X Y) (hc : Rw Y bc n st'.c) (hb : Rw Y bb n st'.b) : PsF t1 t2 t3 C bc bb n nc nb As m cs E st' Y :=
  have kc : ∀ {b o : Nat} {v : Value}, b ≠ bc → b ≠ bb → X.cell? ⟨b, o, none⟩ = some v → Y.cell? ⟨b, o, none⟩ = some v := fun h1 h2 hc => (World.cell?_of_block (hx.block _ (ltb hc) h1 h2)).trans hc
  ⟨kc ha.n1.1.symm ha.n1.2.symm h.b1, kc ha.n2.1.symm ha.n2.2.symm h.b2, kc ha.n3.1.symm ha.n3.2.symm h.b3, kc ha.nC.1.symm ha.nC.2.symm h.c2, fun hm => by
    obtain ⟨b, off, e, hlt, _⟩ := h.es hm
    exact h.es.same hx.size (fun k hk => hx.block k (by obtain ⟨a, e1, e2⟩ := hk; rw [e] at e1; cases e1; rw [← e2]; exact hlt) (ha.nA k hk).1 (ha.nA k hk).2) hm, hc, hb⟩
theorem PsF.below {t1 t2 t3 C bc bb n nc nb : Nat} {As : Option Addr} {m cs : Nat} {E : Nat → Edg} {st : Stt} {X Y : World} (h : PsF t1 t2 t3 C bc bb n nc nb As m cs E st X) (hb : Bl X Y) : PsF t1 t2 t3 C bc bb n nc nb As m cs E st Y :=
  ⟨kcb hb h.b1, kcb hb h.b2, kcb hb h.b3, kcb hb h.c2, fun hm => by
    obtain ⟨b, off, e, hlt, hc⟩ := h.es hm
    exact ⟨b, off, e, Nat.lt_of_lt_of_le hlt hb.size, fun j hj => ⟨kcb hb (hc j hj).1, kcb hb (hc j hj).2.1, kcb hb (hc j hj).2.2.1, kcb hb (hc j hj).2.2.2⟩⟩, h.rc.below hb, h.rb.below hb⟩
/-- Costs behind a push. -/
def pshS (E : Nat → Edg) (i : Nat) (st : Stt) : Stt := if okP (E i) st.c then pushS E i st else st
theorem pshS_no {E : Nat → Edg} {i : Nat} {st : Stt} (h : okP (E i) st.c = false) : pshS E i st = st := by rw [pshS, if_neg (by rw [h]; decide)]
theorem pshS_yes {E : Nat → Edg} {i : Nat} {st : Stt} (h : okP (E i) st.c = true) : pshS E i st = pushS E i st := by rw [pshS, if_pos h]
def SP (t2 g bc fr : Nat) (v2 : Value) (a b c z : Int) (W' : World) : Prop := W'.cell? ⟨t2, 0, none⟩ = some v2 ∧ W'.cell? ⟨g, 0, none⟩ = some (.int .i64 a) ∧ W'.cell? ⟨g, 1, none⟩ = some (.int .i64 b) ∧ W'.cell? ⟨g, 2, none⟩ = some (.int .i64 c) ∧ W'.cell? ⟨bc, fr, none⟩ = some (.int .i64 z)
theorem SP.t {t2 g bc fr : Nat} {v2 : Value} {a b c z : Int} {X Y : World} (h : SP t2 g bc fr v2 a b c z X) (hb : Bl X Y) : SP t2 g bc fr v2 a b c z Y := ⟨kcb hb h.1, kcb hb h.2.1, kcb hb h.2.2.1, kcb hb h.2.2.2.1, kcb hb h.2.2.2.2⟩
theorem SP.set {t2 g bc fr ti : Nat} {v2 u : Value} {a b c z : Int} {X : World} (h : SP t2 g bc fr v2 a b c z X) (h1 : t2 ≠ bc) (h2 : g ≠ bc) (h3 : fr ≠ ti) : SP t2 g bc fr v2 a b c z (X.setCell ⟨bc, ti, none⟩ u) :=
  ⟨cell_setO h.1 h1, cell_setO h.2.1 h2, cell_setO h.2.2.1 h2, cell_setO h.2.2.2.1 h2, by have := h.2.2.2.2; go_cell⟩
set_option maxRecDepth 100000 in
set_option maxHeartbeats 6400000 in
theorem push_any (t1 t2 t3 C bc bb n nc nb : Nat) (As : Option Addr) (m cs : Nat) (E : Nat → Edg) (st : Stt) (i : Nat) (B K : Int) (w : World) (h : PsF t1 t2 t3 C bc bb n nc nb As m cs E st w) (ha : PsA t1 t2 t3 C bc bb As)
    (hi : i < m) (hm : m ≤ 100000) (hn : n ≤ 1000) (hE : (E i).fr < n ∧ (E i).to < n) (hL : (E i).fr ≠ (E i).to) (hB : Bdd st.c B) (hK : -K ≤ (E i).co ∧ (E i).co ≤ K) (hBK : B + K ≤ 4000000000000000000) (hK0 : 0 ≤ K) (hB0 : 0 ≤ B) :
    Calls Try.prog 43 #[.int .i64 (i : Int), .pointer (some ⟨t1, 0, none⟩), .pointer (some ⟨t2, 0, none⟩), .pointer (some ⟨t3, 0, none⟩)] w fun e w' => e = .returned (.bool (okP (E i) st.c)) ∧
      PsF t1 t2 t3 C bc bb n nc nb As m cs E (pshS E i st) w' ∧ Ex2 bc bb w w' := by
  have HF := Lib.hid h
  have HA := Lib.hid ha
  obtain ⟨sb, so, rfl, hsb, hsc⟩ := h.es (by omega)
  obtain ⟨e0, e1, e2, e3⟩ := hsc i hi
  have hE0 := hE
  have hc0 := (h.rc (E i).fr hE.1).1
  have hc1 := (h.rc (E i).to hE.2).1
  have hc2 := h.c2
  have hb1 := h.b1
  have hb2 := h.b2
  have hb3 := h.b3
  have hbd0 := hB (E i).fr
  have hbd1 := hB (E i).to
  have HOK := Lib.hid (okP_iff (s := E i) (c := st.c))
  have HNO := Lib.hid (okP_no (s := E i) (c := st.c))
  have HP := Lib.hid (show pushS E i st = ⟨upd st.c (E i).to (st.c (E i).fr + (E i).co), upd st.b (E i).to i⟩ from rfl)
  obtain ⟨fr, hfr⟩ : ∃ fr, fr = (E i).fr := ⟨_, rfl⟩
  obtain ⟨ti, hto⟩ : ∃ ti, ti = (E i).to := ⟨_, rfl⟩
  obtain ⟨co, hco⟩ : ∃ co, co = (E i).co := ⟨_, rfl⟩
  obtain ⟨cf, hcf⟩ : ∃ cf, cf = st.c (E i).fr := ⟨_, rfl⟩
  obtain ⟨ct, hct⟩ : ∃ ct, ct = st.c (E i).to := ⟨_, rfl⟩
  rw [← hcf, ← hct, ← hco] at HOK HNO
  rw [← hto, ← hcf, ← hco] at HP
  rw [← hcf] at hc0 hbd0
  rw [← hct] at hc1 hbd1
  rw [← hfr] at hc0 e0 hE hL
  rw [← hto] at hc1 e1 hE hL
  rw [← hco] at e2 hK
  obtain ⟨hE1, hE2⟩ := hE
  have l1 := ltb hb1
  have l2 := ltb hb2
  have l3 := ltb hb3
  have lC := ltb hc2
  have lc := ltb hc0
  have hff := (h.rc (E i).to hE0.2).2
  rw [← hto] at hff
  have HC0 := Lib.hid (And.intro hc0 (And.intro hc1 hff))
  clear hff hfr hto hco hcf hct h ha hsc hB
  by_cases hu : cf = unR
  · have q0 : (cf == 9223372036854775807) = true := by simp [hu]
    have HV := Lib.hid (show okP (E i) st.c = false from HNO.out.2 (.inl hu))
    clear hu hbd0
    go_enter Try.func43, Try.ntmps43
    go_wp2_with fail
    go_quiet (fail)
    go_wp2_with fail
    go_ret
    rw [HV.out, pshS_no HV.out]
    have hb := Bl.tr (show Bl w (w.alloc (.cells #[.int .i64 (fr : Int), .int .i64 (ti : Int), .int .i64 co, .int .i64 (E i).no] 74)) by go_grown) (bl_drN _ nq)
    exact ⟨rfl, HF.out.below hb, Ex2.of_bl hb⟩
  · have q0 : (cf == 9223372036854775807) = false := by simp; exact hu
    have hcf2 : -B ≤ cf ∧ cf ≤ B := by rcases hbd0 with g | g; exact absurd g hu; exact g
    obtain ⟨z, hz⟩ : ∃ z, z = cf + co := ⟨_, rfl⟩
    have z1 : IntKind.i64.wrap (cf + co) = z := by rw [IntWalk.i64_in _ (by omega)]; exact hz.symm
    have z2 : wrap64 (cf + co) = z := by rw [IntWalk.wrap64_in _ (by omega)]; exact hz.symm
    by_cases hlt : ct ≤ z
    · have HV := Lib.hid (show okP (E i) st.c = false from HNO.out.2 (.inr (by omega)))
      clear hu hbd0 hbd1 hcf2 hz
      go_enter Try.func43, Try.ntmps43
      go_wp2_with fail
      go_quiet (fail)
      go_wp2_with fail
      go_ret
      rw [HV.out, pshS_no HV.out]
      have hb := Bl.tr (show Bl w (w.alloc (.cells #[.int .i64 (fr : Int), .int .i64 (ti : Int), .int .i64 co, .int .i64 (E i).no] 74)) by go_grown) (bl_drN _ nq)
      exact ⟨rfl, HF.out.below hb, Ex2.of_bl hb⟩
    · have HV := Lib.hid (show okP (E i) st.c = true from HOK.out.2 ⟨hu, by omega⟩)
      have HZ := Lib.hid hz
      clear hu hbd0 hbd1 hcf2 hz
      go_enter Try.func43, Try.ntmps43
      go_wp2_with fail
      go_quiet (fail)
      obtain ⟨g, hg⟩ : ∃ g, g = w.heap.size := ⟨_, rfl⟩
      obtain ⟨W2, hW2⟩ : ∃ W2, W2 = (w.alloc (.cells #[.int .i64 (fr : Int), .int .i64 (ti : Int), .int .i64 co, .int .i64 (E i).no] 74)).drewN nq := ⟨_, rfl⟩
      have B2 : Bl w W2 := by rw [hW2]; exact Bl.tr (by go_grown) (bl_drN _ nq)
      have g0 : W2.cell? ⟨g, 0, none⟩ = some (.int .i64 (fr : Int)) := by rw [hW2, hg]; exact kcb (bl_drN _ nq) (by go_cell)
      have g1 : W2.cell? ⟨g, 1, none⟩ = some (.int .i64 (ti : Int)) := by rw [hW2, hg]; exact kcb (bl_drN _ nq) (by go_cell)
      have g2 : W2.cell? ⟨g, 2, none⟩ = some (.int .i64 co) := by rw [hW2, hg]; exact kcb (bl_drN _ nq) (by go_cell)
      rw [← hW2, ← hg]
      have HF2 := Lib.hid (HF.out.below B2)
      have hgw : w.heap.size ≤ g := by omega
      have HB2 := Lib.hid B2
      clear hW2 hg hc0 hc1 hc2 hb1 hb2 hb3 e0 e1 e2 e3
      have hb2 := HF2.out.b2
      have hc0 := kcb B2 HC0.out.1
      have hc1 := kcb B2 HC0.out.2.1
      have hf1 := fzb B2 HC0.out.2.2 (ltb HC0.out.2.1)
      have lg := ltb g0
      have l2 := ltb hb2
      have lc := ltb hc0
      have na : t2 ≠ bc := HA.out.n2.1.symm
      have nb' : g ≠ bc := by have := ltb HC0.out.1; omega
      have S0 : SP t2 g bc fr (.slice (some ⟨bc, 0, none⟩) n nc) fr ti co cf W2 := ⟨hb2, g0, g1, g2, hc0⟩
      have S1 := SP.set (u := .int .i64 z) S0 na nb' hL
      clear B2
      go_wp2_with fail
      go_region_held3 (fun W' => W'.cell? ⟨t2, 0, none⟩ = some (.slice (some ⟨bc, 0, none⟩) n nc) ∧ W'.cell? ⟨g, 0, none⟩ = some (.int .i64 (fr : Int)) ∧ W'.cell? ⟨g, 1, none⟩ = some (.int .i64 (ti : Int)) ∧ W'.cell? ⟨g, 2, none⟩ = some (.int .i64 co) ∧ W'.cell? ⟨bc, fr, none⟩ = some (.int .i64 cf)) (first | exact S0 | exact SP.t S0 (bl_drS _) | exact S1 | exact SP.t S1 (bl_drS _)) (fail)
      rename_i hHeld
      obtain ⟨W3, hW3⟩ : ∃ W3, W3 = (W2.setCell ⟨bc, ti, none⟩ (.int .i64 z)).drew := ⟨_, rfl⟩
      have HR3 := Lib.hid (show Rw W3 bc n (upd st.c ti z) from by rw [hW3]; exact (HF2.out.rc.set hE2).below (bl_drS _))
      have HB3 := Lib.hid (show Rw W3 bb n st.b from by rw [hW3]; exact (HF2.out.rb.other HA.out.nb.symm).below (bl_drS _))
      have HX3 := Lib.hid (show Ex2 bc bb w W3 from by rw [hW3]; exact ((Ex2.of_bl HB2.out).set (.inl rfl)).tr (Ex2.of_bl (bl_drS _)))
      have g13 : W3.cell? ⟨g, 1, none⟩ = some (.int .i64 (ti : Int)) := by rw [hW3]; exact kcb (bl_drS _) (cell_setO g1 nb')
      have b33 : W3.cell? ⟨t3, 0, none⟩ = some (.slice (some ⟨bb, 0, none⟩) n nb) := by rw [hW3]; exact kcb (bl_drS _) (cell_setO HF2.out.b3 HA.out.n3.1.symm)
      rw [← hW3]
      clear hW3 hHeld hb2 hc0 hc1 hf1 g0 g1 g2 S0 S1 lg l2 lc
      obtain ⟨bt, hbf⟩ := HB3.out ti hE2
      have lg3 := ltb g13
      have lb3 := ltb b33
      have lbt := ltb bt
      go_wp2_with fail
      go_ret
      rw [HV.out, pshS_yes HV.out]
      refine ⟨rfl, ?_, HX3.out.set (.inr rfl)⟩
      have h5 := HF.out.ex (st' := pushS E i st) HA.out (HX3.out.set (b := bb) (o := ti) (v := .int .i64 (i : Int)) (.inr rfl)) (by rw [HP.out, ← HZ.out]; exact HR3.out.other HA.out.nb) (by rw [HP.out]; exact HB3.out.set hE2)
      exact h5
end Go.Proofs.Ytchikfegpoonjaa
