/-
  Package sight: the least costs from one point.
-/
import Derived.Test.YtchikfegpoonjaaPO
namespace Go.Proofs.Ytchikfegpoonjaa
open Go.RowKit Go.Maps
set_option linter.unusedSimpArgs false
set_option linter.unusedVariables false

theorem edl_of_row {w : World} {base : Nat} {A : Option Addr} {n c : Nat} {s : List Edg} (h : w.ownsRow base 74 4 (.slice A n c) s.length (edC s)) : Edl w A s.length (gtE s) ∧ (∀ k, InK A k → k < w.heap.size) := by
  refine ⟨fun hn => ?_, fun k hk => ?_⟩
  · rcases h.2 with ⟨e, h0⟩ | ⟨g, cap, cur, e, hb, hg, hnc, hcm, hcs, htake⟩
    · omega
    · obtain ⟨rfl, rfl, rfl⟩ : A = some ⟨g, 0, none⟩ ∧ n = s.length ∧ c = cap := by simpa using e
      refine ⟨g, 0, rfl, (Array.getElem?_eq_some_iff.1 hg).1, fun j hj => ?_⟩
      obtain ⟨d0, d1, d2, d3⟩ := edC_at s hj
      exact ⟨by rw [Nat.zero_add, h.cellAt _ (by omega), d0], by rw [Nat.zero_add, h.cellAt _ (by omega), d1], by rw [Nat.zero_add, h.cellAt _ (by omega), d2], by rw [Nat.zero_add, h.cellAt _ (by omega), d3]⟩
  · obtain ⟨a, rfl, rfl⟩ := hk
    rcases h.2 with ⟨e, h0⟩ | ⟨g, cap, cur, e, hb, hg, hnc, hcm, hcs, htake⟩
    · cases e
    · obtain ⟨rfl, rfl, rfl⟩ : a = ⟨g, 0, none⟩ ∧ n = s.length ∧ c = cap := by simpa using e
      exact (Array.getElem?_eq_some_iff.1 hg).1
theorem own_shapeQ {w : World} {base : Nat} {e : TypeId} {size : Nat} {v : Value} {n : Nat} {xs : List Value} (h : w.ownsRow base e size v n xs) : ∃ A2 cp, v = .slice A2 n cp := by
  rcases h.2 with ⟨e, h0⟩ | ⟨g, cap, cur, e, hb, hg, hnc, hcm, _⟩
  · exact ⟨none, 0, by rw [e, h0]⟩
  · exact ⟨_, cap, e⟩
/-- A chart in memory, when it is built. -/
structure Ch (w : World) (C M : Nat) (l : List Spt) (s : List Edg) (Ap : Option Addr) (cp : Nat) (As : Option Addr) (cs : Nat) : Prop where
  c0 : w.cell? ⟨C, 0, none⟩ = some (.slice Ap l.length cp)
  c1 : w.cell? ⟨C, 1, none⟩ = some (.map (some M))
  c2 : w.cell? ⟨C, 2, none⟩ = some (.slice As s.length cs)
  es : Edl w As s.length (gtE s)
  al : ∀ k, InK As k → k < w.heap.size
  nm : Num w M l.length (fun c t => if ixP (c, t) l < l.length then some (ixP (c, t) l : Int) else none)
theorem ChB.ready {w : World} {C M : Nat} {l : List Spt} {s : List Edg} {vp vs : Value} (h : ChB w C M l s vp vs) : ∃ Ap cp As cs, Ch w C M l s Ap cp As cs := by
  obtain ⟨Ap, cp, rfl⟩ := own_shapeQ h.rp
  obtain ⟨As, cs, rfl⟩ := own_shapeQ h.rs
  obtain ⟨h1, h2⟩ := edl_of_row h.rs
  exact ⟨Ap, cp, As, cs, h.c0, h.c1, h.c2, h1, h2, h.nm⟩
theorem Edl.below {w w' : World} {A : Option Addr} {m : Nat} {E : Nat → Edg} (h : Edl w A m E) (hb : Bl w w') : Edl w' A m E := fun hm => by
  obtain ⟨b, off, e, hlt, hc⟩ := h hm
  exact ⟨b, off, e, Nat.lt_of_lt_of_le hlt hb.size, fun j hj => ⟨kcb hb (hc j hj).1, kcb hb (hc j hj).2.1, kcb hb (hc j hj).2.2.1, kcb hb (hc j hj).2.2.2⟩⟩
theorem Ch.below {w w' : World} {C M : Nat} {l : List Spt} {s : List Edg} {Ap As : Option Addr} {cp cs : Nat} (h : Ch w C M l s Ap cp As cs) (hb : Bl w w') : Ch w' C M l s Ap cp As cs :=
  ⟨kcb hb h.c0, kcb hb h.c1, kcb hb h.c2, h.es.below hb, fun k hk => Nat.lt_of_lt_of_le (h.al k hk) hb.size, h.nm.below hb⟩
/-- What settling asks of steps. -/
structure StpOk (E : Nat → Edg) (m n : Nat) (K : Int) : Prop where
  ends : ∀ i, i < m → (E i).fr < n ∧ (E i).to < n ∧ (E i).fr ≠ (E i).to
  cost : ∀ i, i < m → -K ≤ (E i).co ∧ (E i).co ≤ K
  k0 : 0 ≤ K
  kb : n * (m * K) + m * K ≤ 3000000000000000000
  m2 : m ≤ 20000
  n3 : n ≤ 1000
theorem Ex2.bl {w X Y : World} {p q : Nat} (h : Ex2 p q X Y) (hb : Bl w X) (hp : w.heap.size ≤ p) (hq : w.heap.size ≤ q) : Bl w Y :=
  ⟨h.os.trans hb.os, h.tape.trans hb.tape, h.output.trans hb.output, Nat.le_trans hb.size h.size, fun k hk => (h.block k (Nat.lt_of_lt_of_le hk hb.size) (by omega) (by omega)).trans (hb.block k hk)⟩
/-- The costs from one point, settled. -/
def frS (s : List Edg) (n u : Nat) : Stt × Int := setS (gtE s) s.length n ⟨upd (fun _ => unR) u 0, fun _ => -1⟩ (-1)
theorem bdd_one (u : Nat) : Bdd (upd (fun _ => unR) u 0) 0 := fun v => by
  unfold upd; split
  · exact .inr (by simp)
  · exact .inl rfl
set_option maxRecDepth 100000 in
set_option maxHeartbeats 6400000 in
theorem least_any (C M cp cs : Nat) (l : List Spt) (s : List Edg) (Ap As : Option Addr) (p q : Spt) (K : Int) (w : World) (h : Ch w C M l s Ap cp As cs) (hK : StpOk (gtE s) s.length l.length K) (hp : ixP p l < l.length) (hq : ixP q l < l.length)
    (p1 : rngS p.1) (p2 : rngS p.2) (q1 : rngS q.1) (q2 : rngS q.2) :
    Calls Try.prog 44 #[.pointer (some ⟨C, 0, none⟩), encT p, encT q] w fun e w' => e = .returned (.int .i64 ((frS s l.length (ixP p l)).1.c (ixP q l))) ∧ Bl w w' := by
  obtain ⟨n, hn⟩ : ∃ n, n = l.length := ⟨_, rfl⟩
  have HRep := Lib.hid (fun (b c : Nat) (W : World) (hx : W.cell? ⟨b, 0, none⟩ = some (.int .i64 9223372036854775807)) => repeat_any b c n 9223372036854775807 W hx (by rw [hn]; exact hK.n3))
  obtain ⟨u, hu⟩ : ∃ u, u = ixP p l := ⟨_, rfl⟩
  obtain ⟨v, hv⟩ : ∃ v, v = ixP q l := ⟨_, rfl⟩
  have HLP := Lib.hid (fun (W : World) (hW : Ch W C M l s Ap cp As cs) => hW.nm.run_at p1 p2 (u := (u : Int)) (by rw [if_pos (show ixP (p.1, p.2) l < l.length from hp), hu]; rfl))
  have HLQ := Lib.hid (fun (W : World) (hW : Ch W C M l s Ap cp As cs) => hW.nm.run_at q1 q2 (u := (v : Int)) (by rw [if_pos (show ixP (q.1, q.2) l < l.length from hq), hv]; rfl))
  obtain ⟨m, hm⟩ : ∃ m, m = s.length := ⟨_, rfl⟩
  have HH := Lib.hid h
  have c0 := h.c0
  have lC := ltb c0
  rw [← hn, ← hu] at hp
  rw [← hn, ← hv] at hq
  rw [← hn] at c0 ⊢
  rw [← hu, ← hv]
  rw [← hn, ← hm] at hK
  have HKK := Lib.hid hK
  have HM := Lib.hid (And.intro hm (And.intro hn (And.intro hu hv)))
  clear h hK hm hn hu hv
  have r0 : C < w.heap.size + 1 := by omega
  have r1 : C < w.heap.size + 1 + 1 := by omega
  have r2 : C < w.heap.size + 1 + 1 + 1 := by omega
  go_enter Try.func44, Try.ntmps44
  go_wp2_with fail
  refine (HRep.out _ _ _ (by go_cell)).mono ?_
  rintro e1 w1 ⟨g, cap, rfl, hg1, hg2, hgr, hgb⟩
  simp only [World.size_alloc] at hg1
  obtain ⟨X, hX⟩ : ∃ X, X = (((w.alloc (.cells #[.int .i64 p.1, .int .i64 p.2] 69)).alloc (.cells #[.int .i64 q.1, .int .i64 q.2] 69)).alloc (.cells #[.int .i64 9223372036854775807] 3)) := ⟨_, rfl⟩
  have BX : Bl w X := by rw [hX]; go_grown
  have x0 : X.cell? ⟨w.heap.size, 0, none⟩ = some (.int .i64 p.1) := by rw [hX]; go_cell
  have x1 : X.cell? ⟨w.heap.size, 1, none⟩ = some (.int .i64 p.2) := by rw [hX]; go_cell
  have y0 : X.cell? ⟨w.heap.size + 1, 0, none⟩ = some (.int .i64 q.1) := by rw [hX]; go_cell
  have y1 : X.cell? ⟨w.heap.size + 1, 1, none⟩ = some (.int .i64 q.2) := by rw [hX]; go_cell
  rw [← hX] at hgb
  clear hX
  have x0' := kcb hgb x0
  have x1' := kcb hgb x1
  have HY := Lib.hid (And.intro (kcb hgb y0) (kcb hgb y1))
  have B1 := BX.tr hgb
  have H1 := Lib.hid (HH.out.below B1)
  have d1 := H1.out.c1
  have HB1 := Lib.hid B1
  have HL1 := fun N : Nat => HLP.out (w1.drewN N) (H1.out.below (bl_drN w1 N))
  have HL2 := HLP.out w1 H1.out
  have HL3 := HLP.out w1.drew (H1.out.below (bl_drS w1))
  obtain ⟨hu0, huf⟩ := hgr u hp
  have HGR := Lib.hid hgr
  clear hgr
  have ld1 := ltb d1
  have lx := ltb x0'
  clear x0 x1 y0 y1 B1 BX hgb c0 r0 r1 r2
  go_wp2_with fail
  go_region_law (fail)
  all_goals
    obtain ⟨Z, hZ⟩ : ∃ Z, Z = (w1.setCell ⟨g, u, none⟩ (.int .i64 0)).drew := ⟨_, rfl⟩
    have BZ : Bl w Z := by rw [hZ]; exact (bl_set HB1.out (by omega)).tr (bl_drS _)
    have HZ := Lib.hid (HH.out.below BZ)
    have HR := Lib.hid (show Rw Z g n (upd (fun _ => unR) u 0) from by rw [hZ]; exact (HGR.out.set hp).below (bl_drS _))
    have y0 : Z.cell? ⟨w.heap.size + 1, 0, none⟩ = some (.int .i64 q.1) := by rw [hZ]; exact kcb (bl_drS _) (cell_setO HY.out.1 (by omega))
    have y1 : Z.cell? ⟨w.heap.size + 1, 1, none⟩ = some (.int .i64 q.2) := by rw [hZ]; exact kcb (bl_drS _) (cell_setO HY.out.2 (by omega))
    rw [← hZ]
    clear hZ hu0 huf x0' x1' HL1 HL2 HL3 d1 ld1 lx HGR
    have hgZ : g < Z.heap.size := ltb (HR.out u hp).1
    have hA : ∀ k, InK As k → k ≠ g := fun k hk => by have := HH.out.al k hk; omega
    have z0 : Z.cell? ⟨C, 0, none⟩ = some (.slice Ap n cp) := by rw [HM.out.2.1]; exact HZ.out.c0
    have z2 : Z.cell? ⟨C, 2, none⟩ = some (.slice As m cs) := by rw [HM.out.1]; exact HZ.out.c2
    have ze : Edl Z As m (gtE s) := by rw [HM.out.1]; exact HZ.out.es
    have HS := Lib.hid (settle_any C g n cap cp Ap As m cs (gtE s) (upd (fun _ => unR) u 0) K Z z0 z2 ze HR.out hgZ HZ.out.al (by omega) hA HKK.out.m2 HKK.out.n3 HKK.out.ends (bdd_one u) HKK.out.cost HKK.out.k0 HKK.out.kb)
    have HBZ := Lib.hid BZ
    have HYZ := Lib.hid (And.intro y0 y1)
    clear z0 z2 ze hA BZ y0 y1
    go_wp2_with fail
    refine HS.out.mono ?_
    rintro e2 w2 ⟨bb, nb, rfl, hb1, hb2, hRc, hRb, hx⟩
    have B2 : Bl w w2 := hx.bl HBZ.out (by omega) (Nat.le_trans HBZ.out.size hb1)
    have H2 := Lib.hid (HH.out.below B2)
    have ny1 : w.heap.size + 1 ≠ g := by omega
    have ny2 : w.heap.size + 1 < Z.heap.size := ltb HYZ.out.1
    have y0 : w2.cell? ⟨w.heap.size + 1, 0, none⟩ = some (.int .i64 q.1) := (World.cell?_of_block (hx.block (w.heap.size + 1) ny2 ny1 (by omega))).trans HYZ.out.1
    have y1 : w2.cell? ⟨w.heap.size + 1, 1, none⟩ = some (.int .i64 q.2) := (World.cell?_of_block (hx.block (w.heap.size + 1) ny2 ny1 (by omega))).trans HYZ.out.2
    have d1 := H2.out.c1
    have ld1 := ltb d1
    have ly := ltb y0
    have HL := fun N : Nat => HLQ.out (w2.drewN N) (H2.out.below (bl_drN w2 N))
    have HF := Lib.hid (show frS s l.length (ixP p l) = setS (gtE s) m n ⟨upd (fun _ => unR) u 0, fun _ => -1⟩ (-1) from by rw [frS, HM.out.1, HM.out.2.1, HM.out.2.2.1])
    rw [← HM.out.2.1, ← HM.out.2.2.1] at HF
    rw [← HF.out] at hRc
    have hcv := (hRc v hq).1
    have lcv := ltb hcv
    have HB2 := Lib.hid B2
    clear hRc hRb hx B2 hb1 hb2 ny1 ny2
    go_wp2_with fail
    go_quiet (fail)
    go_wp2_with fail
    go_ret
    exact ⟨rfl, HB2.out.tr (bl_drN _ _)⟩
end Go.Proofs.Ytchikfegpoonjaa
