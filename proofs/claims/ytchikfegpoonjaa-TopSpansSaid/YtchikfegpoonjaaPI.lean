/-
  Package sight: the number of a point that was not met before.
-/
import Derived.Test.YtchikfegpoonjaaPH
namespace Go.Proofs.Ytchikfegpoonjaa
open Go.RowKit Go.Maps
set_option linter.unusedSimpArgs false
set_option linter.unusedVariables false

theorem info_partsS {P : Program} {t : TypeId} {z : Value} {n b : Nat} (h : (P.info? t).map (fun i => (i.zero, i.size, i.bytes)) = some (some z, n, b)) : ∃ i, P.info? t = some i ∧ i.zero = some z ∧ i.size = n ∧ i.bytes = b := by
  cases hi : P.info? t with
  | none => rw [hi] at h; cases h
  | some i =>
    rw [hi] at h
    simp only [Option.map_some, Option.some.injEq, Prod.mk.injEq] at h
    exact ⟨i, rfl, h.1, h.2.1, h.2.2⟩
theorem pnt_info : (Try.prog.info? 69).map (fun i => (i.zero, i.size, i.bytes)) = some (some (.agg #[.int .i64 0, .int .i64 0]), 2, 16) := by kernel_rfl
theorem ChB.far0 {w : World} {C M : Nat} {l : List Spt} {s : List Edg} {vp vs : Value} (h : ChB w C M l s vp vs) {b : Nat} (hb : b < C + 2) : some b ≠ vp.ownBlock ∧ some b ≠ vs.ownBlock :=
  ⟨fun e => by have := (h.rp.lt b e.symm).1; omega, fun e => by have := (h.rs.lt b e.symm).1; omega⟩
theorem grown_setS (W : World) (b o : Nat) (v : Value) : W.grownBy (W.setCell ⟨b, o, none⟩ v) (some b) :=
  ⟨rfl, rfl, rfl, by simp, fun k _ hk => Below.heap_setCell _ _ _ k (fun e => hk (by rw [e]))⟩
theorem own_setS {w : World} {base b o : Nat} {e : TypeId} {size n : Nat} {v u : Value} {xs : List Value} (h : w.ownsRow base e size v n xs) (hb : b < base) : (w.setCell ⟨b, o, none⟩ u).ownsRow base e size v n xs :=
  h.kept (grown_setS w b o u) (by
    cases hv : v.ownBlock with
    | none => exact .inl rfl
    | some j => exact .inr (by intro q; have := (h.lt j hv).1; have := Option.some.inj q; omega))
/-- The points' row has got one more, and the chart knows it. -/
theorem ChQ.push_p {w w9 : World} {C M g cap : Nat} {l : List Spt} {s : List Edg} {vp vs : Value} {p : Spt} (h : ChQ w C M l s vp vs) (hr : w9.ownsRow (C + 2) 69 2 (.slice (some ⟨g, 0, none⟩) (l.length + 1) cap) (l.length + 1) (ptC l ++ [.int .i64 p.1, .int .i64 p.2]))
    (hg : w.grownBy w9 vp.ownBlock) (hat : vp.ownBlock = some g ∨ g = w.heap.size) : ChQ (w9.setCell ⟨C, 0, none⟩ (.slice (some ⟨g, 0, none⟩) (l.length + 1) cap)) C M (l ++ [p]) s (.slice (some ⟨g, 0, none⟩) (l.length + 1) cap) vs := by
  have hC : some C ≠ vp.ownBlock := fun e => by have := (h.rp.lt C e.symm).1; omega
  have c0 : w9.cell? ⟨C, 0, none⟩ = some vp := (hg.cell_far ⟨C, 0, none⟩ (ltb h.c0) hC).trans h.c0
  have c1 : w9.cell? ⟨C, 1, none⟩ = some (.map (some M)) := (hg.cell_far ⟨C, 1, none⟩ (ltb h.c0) hC).trans h.c1
  have c2 : w9.cell? ⟨C, 2, none⟩ = some vs := (hg.cell_far ⟨C, 2, none⟩ (ltb h.c0) hC).trans h.c2
  have f0 := (hg.frozen_far ⟨C, 0, none⟩ (ltb h.c0) hC).trans h.f0
  have f2 := (hg.frozen_far ⟨C, 2, none⟩ (ltb h.c0) hC).trans h.f2
  have rs : w9.ownsRow (C + 2) 74 4 vs s.length (edC s) := h.rs.kept hg (by
    cases hv : vs.ownBlock with
    | none => exact .inl rfl
    | some j => exact .inr (fun e => h.ne j e.symm hv))
  have sz := Nat.le_trans h.sz hg.size
  refine ⟨by go_cell, by go_cell, by go_cell, by simpa using f0, by simpa using f2, ?_, own_setS rs (by omega), ?_, h.mc, by simpa using sz⟩
  · rw [List.length_append, List.length_singleton, ptC_snoc]
    exact own_setS hr (by omega)
  · intro g' e e'
    obtain rfl : g = g' := by simpa [Value.ownBlock] using e
    rcases hat with q | q
    · exact h.ne g q e'
    · have := (h.rs.lt g e').2; omega
theorem ixP_new {l : List Spt} {p : Spt} (hm : ixP p l = l.length) (c t : Int) :
    (if p.1 = c ∧ p.2 = t then some ((l.length : Nat) : Int) else if ixP (c, t) l < l.length then some (ixP (c, t) l : Int) else none) = if ixP (c, t) (l ++ [p]) < (l ++ [p]).length then some (ixP (c, t) (l ++ [p]) : Int) else none := by
  by_cases e : p.1 = c ∧ p.2 = t
  · obtain ⟨rfl, rfl⟩ := e
    rw [if_pos ⟨rfl, rfl⟩]
    have h2 : ixP (p.1, p.2) (l ++ [p]) = l.length := by
      have := ixP_app_ge (r := [p]) hm
      rw [show (p.1, p.2) = p from rfl, this]; simp [ixP]
    rw [h2, if_pos (by simp)]
  · rw [if_neg e]
    have hne : p ≠ (c, t) := fun q => e (by rw [q]; exact ⟨rfl, rfl⟩)
    by_cases h : ixP (c, t) l < l.length
    · rw [if_pos h, ixP_app_lt h, if_pos (by simp; omega)]
    · have := ixP_le (c, t) l
      have h2 : ixP (c, t) (l ++ [p]) = l.length + 1 := by
        rw [ixP_app_ge (by omega)]; simp [ixP, hne]
      rw [if_neg h, h2, if_neg (by simp)]
set_option maxRecDepth 100000 in
set_option maxHeartbeats 6400000 in
theorem number_new (C M : Nat) (l : List Spt) (s : List Edg) (vp vs : Value) (p : Spt) (w : World) (h : ChB w C M l s vp vs) (h1 : rngS p.1) (h2 : rngS p.2) (hm : ixP p l = l.length) (hl : l.length ≤ 1000) :
    Calls Try.prog 31 #[.pointer (some ⟨C, 0, none⟩), encT p] w fun e w' => e = .returned (.int .i64 (l.length : Int)) ∧ ∃ vp', ChB w' C M (l ++ [p]) s vp' vs ∧ Exc C M vp.ownBlock w w' := by
  obtain ⟨i0, hi0, hz0, hz1, hz2⟩ := info_partsS pnt_info
  have HI := Lib.hid (And.intro hi0 (And.intro hz0 (And.intro hz1 hz2)))
  clear hi0 hz0 hz1 hz2
  obtain ⟨W1, hW1⟩ : ∃ W1, W1 = w.alloc (.cells #[.int .i64 p.1, .int .i64 p.2] 69) := ⟨_, rfl⟩
  have BW : Bl w W1 := by rw [hW1]; go_grown
  have HC := Lib.hid (h.below BW)
  have HL := fun N : Nat => (HC.out.below (bl_drN W1 N)).nm.run_ok h1 h2 (u := none) (by rw [if_neg (show ¬ ixP (p.1, p.2) l < l.length from by rw [show ixP (p.1, p.2) l = ixP p l from rfl]; omega)])
  have c0 := h.c0
  have c1 := h.c1
  have lc := ltb c0
  have HBW := Lib.hid BW
  have p0 : W1.cell? ⟨w.heap.size, 0, none⟩ = some (.int .i64 p.1) := by rw [hW1]; go_cell
  have p1 : W1.cell? ⟨w.heap.size, 1, none⟩ = some (.int .i64 p.2) := by rw [hW1]; go_cell
  have HPC := Lib.hid (And.intro p0 p1)
  have HW := Lib.hid hW1
  rw [hW1] at HL
  clear BW h p0 p1 hW1
  go_enter Try.func31, Try.ntmps31
  go_wp2_with fail
  go_quiet (fail)
  rw [← HW.out]
  clear HL c0 c1
  obtain ⟨W2, hW2⟩ : ∃ W2, W2 = W1.drewN nq := ⟨_, rfl⟩
  have B2 : Bl W1 W2 := by rw [hW2]; exact bl_drN _ _
  rw [← hW2]
  clear hW2
  have HC2 := Lib.hid (HC.out.below B2)
  obtain ⟨A2, cp, rfl, hcp⟩ : ∃ A2 cp, vp = .slice A2 l.length cp ∧ cp ≤ maxLen := by
    rcases HC2.out.rp.2 with ⟨e, h0⟩ | ⟨g, cap, cur, e, hb, hg, hnc, hcm, _⟩
    · exact ⟨none, 0, by rw [e, h0], Nat.zero_le _⟩
    · exact ⟨_, cap, e, hcm⟩
  have c0 := HC2.out.c0
  have c1 := HC2.out.c1
  have p0 := kcb B2 HPC.out.1
  have p1 := kcb B2 HPC.out.2
  have lc := ltb c0
  have lp := ltb p0
  go_wp2_with fail
  obtain ⟨w4, hrun, hnum, hg4⟩ := (HC2.out.below (bl_drS W2)).nm.run_put (by unfold maxLen; omega) h1 h2 (v := (l.length : Int)) (by unfold rngS; omega)
  have HN4 := Lib.hid (hnum.congr (ixP_new hm))
  have HG4 := Lib.hid hg4
  clear hnum hg4
  have HQ4 := Lib.hid ((HC2.out.toChQ.bl (bl_drS W2)).kept HG4.out (by have := HC2.out.mc; simp; omega) (fun g e => by have := (HC2.out.rp.lt g e).1; have := HC2.out.mc; simp; omega) (fun g e => by have := (HC2.out.rs.lt g e).1; have := HC2.out.mc; simp; omega))
  have hMw : M < w.heap.size := by have := HC.out.mc; omega
  have p04 : w4.cell? ⟨w.heap.size, 0, none⟩ = some (.int .i64 p.1) := (HG4.out.cell_far ⟨w.heap.size, 0, none⟩ (by show w.heap.size < _; simpa using lp) (by simp; omega)).trans (kcb (bl_drS W2) p0)
  have p14 : w4.cell? ⟨w.heap.size, 1, none⟩ = some (.int .i64 p.2) := (HG4.out.cell_far ⟨w.heap.size, 1, none⟩ (by show w.heap.size < _; simpa using lp) (by simp; omega)).trans (kcb (bl_drS W2) p1)
  have HP4 := Lib.hid (And.intro p04 p14)
  clear p04 p14
  go_region_law (fail)
  all_goals
    clear hrun c0 c1 p0 p1 lc lp
    have B4 := Lib.hid (show Exc C M (Value.slice A2 l.length cp).ownBlock W1 w4 from (Exc.of_bl (B2.tr (bl_drS W2))).tr (Exc.grown HG4.out (fun k e => .inr (.inl (Option.some.inj e).symm))))
    have HQ5 := Lib.hid (HQ4.out.bl (show Bl w4 (w4.drew.alloc (.cells #[.int .i64 p.1, .int .i64 p.2] 69)) from Bl.tr (bl_drS _) (by go_grown)))
    have c0 := HQ4.out.c0
    have f0 := HQ4.out.f0
    have p0 := HP4.out.1
    have p1 := HP4.out.2
    have lc := ltb c0
    have lp := ltb p0
    go_wp2_with fail
    go_region_law (refine step_append_lies _ (by rfl) _ _ _ (by rfl) (C + 2) 69 i0 _ 2 16 Try.underlying63 HI.out.1 HI.out.2.1 HI.out.2.2.1 HI.out.2.2.2 rfl (by omega) _ l.length (ptC l) (by rfl) HQ5.out.rp ⟨w4.heap.size, 0, none⟩ 1 1 [.int .i64 p.1, .int .i64 p.2] (by rfl) (by rfl) (World.news_of_block (cs := #[.int .i64 p.1, .int .i64 p.2]) (t := 69) (fr := (0, 0)) (heap_alloc_new w4.drew _)) (by simp [Value.oneCell']) (by omega) (by unfold maxLen; omega) (by omega) (by have := HQ5.out.sz; (try simp only [World.size_alloc, World.size_drew] at this ⊢); omega) _ rfl ?_; intro gg cap w9 hown9 hgrow hat hlt9; have k0 := (hgrow.cell_far ⟨C, 0, none⟩ (ltb HQ5.out.c0) (fun e => by have := (HQ5.out.rp.lt C e.symm).1; omega)).trans HQ5.out.c0; have kf := (hgrow.frozen_far ⟨C, 0, none⟩ (ltb HQ5.out.c0) (fun e => by have := (HQ5.out.rp.lt C e.symm).1; omega)).trans HQ5.out.f0)
    all_goals
      go_wp2_with fail
      go_ret
      have hM : some M ≠ (Value.slice A2 l.length cp).ownBlock := fun e => by have := (HQ5.out.rp.lt M e.symm).1; have := HQ5.out.mc; omega
      refine ⟨rfl, _, ⟨HQ5.out.push_p hown9 hgrow hat, ?_⟩, ?_⟩
      · have hn := ((HN4.out.below (show Bl w4 (w4.drew.alloc (.cells #[.int .i64 p.1, .int .i64 p.2] 69)) from Bl.tr (bl_drS _) (by go_grown))).kept hgrow hM).kept (grown_setS w9 C 0 (.slice (some ⟨gg, 0, none⟩) (l.length + 1) cap)) (show some M ≠ some C from fun e => by have := HQ5.out.mc; have := Option.some.inj e; omega)
        obtain ⟨W5, hW5⟩ : ∃ W5, W5 = w9.setCell ⟨C, 0, none⟩ (.slice (some ⟨gg, 0, none⟩) (l.length + 1) cap) := ⟨_, rfl⟩
        rw [← hW5] at hn ⊢
        rw [show l.length + 1 = (l ++ [p]).length by simp] at hn
        exact hn
      · exact (((Exc.of_bl HBW.out).tr B4.out).tr (Exc.of_bl (show Bl w4 (w4.drew.alloc (.cells #[.int .i64 p.1, .int .i64 p.2] 69)) from Bl.tr (bl_drS _) (by go_grown)))).tr ((Exc.grown hgrow (fun k e => .inr (.inr e.symm))).tr (Exc.grown (grown_setS _ _ _ _) (fun k e => .inl (Option.some.inj e).symm)))
/-- The number of a point: it is met, or gets the next one. -/
theorem numberS_any (C M : Nat) (l : List Spt) (s : List Edg) (vp vs : Value) (p : Spt) (w : World) (h : ChB w C M l s vp vs) (h1 : rngS p.1) (h2 : rngS p.2) (hl : l.length ≤ 1000) :
    Calls Try.prog 31 #[.pointer (some ⟨C, 0, none⟩), encT p] w fun e w' => e = .returned (.int .i64 (ixP p l : Int)) ∧ ∃ vp', ChB w' C M (adP l p) s vp' vs ∧ Exc C M vp.ownBlock w w' := by
  by_cases hm : ixP p l < l.length
  · refine (number_met C M l s vp vs p w h h1 h2 hm hl).mono ?_
    rintro e w' ⟨he, hb⟩
    rw [show adP l p = l from if_pos hm]
    exact ⟨he, vp, h.below hb, Exc.of_bl hb⟩
  · have hm' : ixP p l = l.length := by have := ixP_le p l; omega
    refine (number_new C M l s vp vs p w h h1 h2 hm' hl).mono ?_
    rw [show adP l p = l ++ [p] from if_neg hm, hm']
    exact fun e w' h => h
end Go.Proofs.Ytchikfegpoonjaa
