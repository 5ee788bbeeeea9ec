/-
  Package sight: a chart in memory; the number of a point.
-/
import Derived.Test.YtchikfegpoonjaaPG
namespace Go.Proofs.Ytchikfegpoonjaa
open Go.RowKit Go.Maps
set_option linter.unusedSimpArgs false
set_option linter.unusedVariables false

/-- The cells of points, of steps. -/
def ptC (l : List Spt) : List Value := l.flatMap fun p => [.int .i64 p.1, .int .i64 p.2]
def edC (s : List Edg) : List Value := s.flatMap fun e => [.int .i64 (e.fr : Int), .int .i64 (e.to : Int), .int .i64 e.co, .int .i64 e.no]
theorem ptC_snoc (l : List Spt) (p : Spt) : ptC (l ++ [p]) = ptC l ++ [.int .i64 p.1, .int .i64 p.2] := by simp [ptC]
theorem edC_snoc (s : List Edg) (e : Edg) : edC (s ++ [e]) = edC s ++ [.int .i64 (e.fr : Int), .int .i64 (e.to : Int), .int .i64 e.co, .int .i64 e.no] := by simp [edC]
theorem ptC_at (l : List Spt) {j : Nat} (hj : j < l.length) : (ptC l)[j * 2]? = some (.int .i64 (gtP l j).1) ∧ (ptC l)[j * 2 + 1]? = some (.int .i64 (gtP l j).2) := by
  induction l generalizing j with
  | nil => simp at hj
  | cons p l ih =>
    cases j with
    | zero => exact ⟨rfl, rfl⟩
    | succ j =>
      have := ih (j := j) (by simpa using hj)
      rw [show (j + 1) * 2 = j * 2 + 1 + 1 by omega]
      exact this
theorem edC_at (s : List Edg) {j : Nat} (hj : j < s.length) : (edC s)[j * 4]? = some (.int .i64 ((gtE s j).fr : Int)) ∧ (edC s)[j * 4 + 1]? = some (.int .i64 ((gtE s j).to : Int)) ∧ (edC s)[j * 4 + 2]? = some (.int .i64 (gtE s j).co) ∧ (edC s)[j * 4 + 3]? = some (.int .i64 (gtE s j).no) := by
  induction s generalizing j with
  | nil => simp at hj
  | cons e s ih =>
    cases j with
    | zero => exact ⟨rfl, rfl, rfl, rfl⟩
    | succ j =>
      have := ih (j := j) (by simpa using hj)
      rw [show (j + 1) * 4 = j * 4 + 1 + 1 + 1 + 1 by omega]
      exact this
/-- New blocks, two blocks and a row alone have been turned. -/
structure Exc (C M : Nat) (o : Option Nat) (w w' : World) : Prop where
  os : w'.os = w.os
  tape : w'.tape = w.tape
  output : w'.output = w.output
  size : w.heap.size ≤ w'.heap.size
  block : ∀ k, k < w.heap.size → k ≠ C → k ≠ M → some k ≠ o → w'.heap[k]? = w.heap[k]?
theorem Exc.of_bl {C M : Nat} {o : Option Nat} {w w' : World} (h : Bl w w') : Exc C M o w w' := ⟨h.os, h.tape, h.output, h.size, fun k hk _ _ _ => h.block k hk⟩
theorem Exc.tr {C M : Nat} {o : Option Nat} {X Y Z : World} (h : Exc C M o X Y) (k : Exc C M o Y Z) : Exc C M o X Z :=
  ⟨k.os.trans h.os, k.tape.trans h.tape, k.output.trans h.output, Nat.le_trans h.size k.size, fun i hi a b c => (k.block i (Nat.lt_of_lt_of_le hi h.size) a b c).trans (h.block i hi a b c)⟩
theorem Exc.cell {C M : Nat} {o : Option Nat} {X Y : World} {b i : Nat} {v : Value} (h : Exc C M o X Y) (h1 : b ≠ C) (h2 : b ≠ M) (h3 : some b ≠ o) (hc : X.cell? ⟨b, i, none⟩ = some v) : Y.cell? ⟨b, i, none⟩ = some v :=
  (World.cell?_of_block (h.block b (World.block_lt_of_cell? X ⟨b, i, none⟩ hc) h1 h2 h3)).trans hc
theorem Exc.grown {C M : Nat} {o row : Option Nat} {X Y : World} (h : X.grownBy Y row) (hr : ∀ k, row = some k → k = C ∨ k = M ∨ some k = o) : Exc C M o X Y :=
  ⟨h.os, h.tape, h.output, h.size, fun k hk a b c => h.block k hk (fun e => by rcases hr k e.symm with q | q | q; exact a q; exact b q; exact c q)⟩
/-- A chart in memory, as it is built (but for its numbers): C its block, M that of the numbers. -/
structure ChQ (w : World) (C M : Nat) (l : List Spt) (s : List Edg) (vp vs : Value) : Prop where
  c0 : w.cell? ⟨C, 0, none⟩ = some vp
  c1 : w.cell? ⟨C, 1, none⟩ = some (.map (some M))
  c2 : w.cell? ⟨C, 2, none⟩ = some vs
  f0 : w.frozen? ⟨C, 0, none⟩ = false
  f2 : w.frozen? ⟨C, 2, none⟩ = false
  rp : w.ownsRow (C + 2) 69 2 vp l.length (ptC l)
  rs : w.ownsRow (C + 2) 74 4 vs s.length (edC s)
  ne : ∀ g, vp.ownBlock = some g → vs.ownBlock = some g → False
  mc : M < C
  sz : C + 2 ≤ w.heap.size
/-- A chart in memory, as it is built. -/
structure ChB (w : World) (C M : Nat) (l : List Spt) (s : List Edg) (vp vs : Value) : Prop extends ChQ w C M l s vp vs where
  nm : Num w M l.length (fun c t => if ixP (c, t) l < l.length then some (ixP (c, t) l : Int) else none)
theorem own_blS {w w' : World} {base : Nat} {e : TypeId} {size : Nat} {v : Value} {n : Nat} {xs : List Value} (h : w.ownsRow base e size v n xs) (hb : Bl w w') : w'.ownsRow base e size v n xs :=
  h.kept (bl_grownS hb) (by
    cases hv : v.ownBlock with
    | none => exact .inl rfl
    | some j => exact .inr (by simp))
theorem ChB.below {w w' : World} {C M : Nat} {l : List Spt} {s : List Edg} {vp vs : Value} (h : ChB w C M l s vp vs) (hb : Bl w w') : ChB w' C M l s vp vs :=
  ⟨⟨kcb hb h.c0, kcb hb h.c1, kcb hb h.c2, fzb hb h.f0 (ltb h.c0), fzb hb h.f2 (ltb h.c2), own_blS h.rp hb, own_blS h.rs hb, h.ne, h.mc, Nat.le_trans h.sz hb.size⟩, h.nm.below hb⟩
theorem ChQ.kept {w w' : World} {C M : Nat} {l : List Spt} {s : List Edg} {vp vs : Value} {row : Option Nat} (h : ChQ w C M l s vp vs) (hg : w.grownBy w' row) (h1 : some C ≠ row) (h2 : ∀ g, vp.ownBlock = some g → some g ≠ row) (h3 : ∀ g, vs.ownBlock = some g → some g ≠ row) : ChQ w' C M l s vp vs :=
  have kc : ∀ o v, w.cell? ⟨C, o, none⟩ = some v → w'.cell? ⟨C, o, none⟩ = some v := fun o v hc => (hg.cell_far ⟨C, o, none⟩ (ltb hc) h1).trans hc
  have kr : ∀ {e : TypeId} {size n : Nat} {v : Value} {xs : List Value}, w.ownsRow (C + 2) e size v n xs → (∀ g, v.ownBlock = some g → some g ≠ row) → w'.ownsRow (C + 2) e size v n xs := fun {e size n v xs} hr hn => hr.kept hg (by
    cases hv : v.ownBlock with
    | none => exact .inl rfl
    | some j => exact .inr (hn j hv))
  ⟨kc _ _ h.c0, kc _ _ h.c1, kc _ _ h.c2, (hg.frozen_far ⟨C, 0, none⟩ (ltb h.c0) h1).trans h.f0, (hg.frozen_far ⟨C, 2, none⟩ (ltb h.c0) h1).trans h.f2, kr h.rp h2, kr h.rs h3, h.ne, h.mc, Nat.le_trans h.sz hg.size⟩
theorem ChQ.bl {w w' : World} {C M : Nat} {l : List Spt} {s : List Edg} {vp vs : Value} (h : ChQ w C M l s vp vs) (hb : Bl w w') : ChQ w' C M l s vp vs := h.kept (bl_grownS hb) (by simp) (fun _ _ => by simp) (fun _ _ => by simp)
set_option maxRecDepth 100000 in
set_option maxHeartbeats 3200000 in
theorem number_met (C M : Nat) (l : List Spt) (s : List Edg) (vp vs : Value) (p : Spt) (w : World) (h : ChB w C M l s vp vs) (h1 : rngS p.1) (h2 : rngS p.2) (hm : ixP p l < l.length) (hl : l.length ≤ 1000) :
    Calls Try.prog 31 #[.pointer (some ⟨C, 0, none⟩), encT p] w fun e w' => e = .returned (.int .i64 (ixP p l : Int)) ∧ Bl w w' := by
  obtain ⟨W1, hW1⟩ : ∃ W1, W1 = w.alloc (.cells #[.int .i64 p.1, .int .i64 p.2] 69) := ⟨_, rfl⟩
  have BW : Bl w W1 := by rw [hW1]; go_grown
  have HC := h.below BW
  have HL := fun N : Nat => (HC.below (bl_drN W1 N)).nm.run_ok h1 h2 (u := some (ixP p l : Int)) (by rw [if_pos (show ixP (p.1, p.2) l < l.length from hm)])
  have c0 := h.c0
  have c1 := h.c1
  have lc := ltb c0
  have HBW := Lib.hid BW
  rw [hW1] at HL
  clear BW HC h hm
  go_enter Try.func31, Try.ntmps31
  go_wp2_with fail
  go_quiet (fail)
  go_wp2_with fail
  go_ret
  exact ⟨rfl, Bl.tr (by go_grown) (bl_drN _ _)⟩
end Go.Proofs.Ytchikfegpoonjaa
