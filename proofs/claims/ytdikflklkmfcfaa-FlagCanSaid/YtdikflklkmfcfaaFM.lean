/-
  The search for hoists: what holds when it is called, and what it leaves.
-/
import Derived.Test.YtdikflklkmfcfaaFL
namespace Go.Proofs.Ytdikflklkmfcfaa
open Go.RowKit Go.Shelf
set_option linter.unusedSimpArgs false
set_option linter.unusedVariables false

/-- New blocks and two rows alone have been turned. -/
structure Grw (p q : Option Nat) (W W' : World) : Prop where
  os : W'.os = W.os
  tape : W'.tape = W.tape
  output : W'.output = W.output
  size : W.heap.size ≤ W'.heap.size
  block : ∀ k, k < W.heap.size → some k ≠ p → some k ≠ q → W'.heap[k]? = W.heap[k]?
theorem Grw.rf (p q : Option Nat) (W : World) : Grw p q W W := ⟨rfl, rfl, rfl, Nat.le_refl _, fun _ _ _ _ => rfl⟩
theorem Grw.tr {p q : Option Nat} {X Y Z : World} (h : Grw p q X Y) (k : Grw p q Y Z) : Grw p q X Z :=
  ⟨k.os.trans h.os, k.tape.trans h.tape, k.output.trans h.output, Nat.le_trans h.size k.size, fun i hi h1 h2 => (k.block i (Nat.lt_of_lt_of_le hi h.size) h1 h2).trans (h.block i hi h1 h2)⟩
theorem Grw.al {p q : Option Nat} {X Y : World} (h : Grw p q X Y) (o : Obj) : Grw p q X (Y.alloc o) :=
  h.tr ⟨rfl, rfl, rfl, by simp, fun k hk _ _ => heap_alloc_old Y o hk⟩
theorem Grw.dr {p q : Option Nat} {X Y : World} (h : Grw p q X Y) : Grw p q X Y.drew := ⟨h.os, h.tape, h.output, h.size, h.block⟩
theorem Grw.a1 {p q : Option Nat} {X Y Z : World} (h : Grw p q X Y) (g : Y.grownBy Z p) : Grw p q X Z :=
  h.tr ⟨g.os, g.tape, g.output, g.size, fun k hk h1 _ => g.block k hk h1⟩
theorem Grw.a2 {p q : Option Nat} {X Y Z : World} (h : Grw p q X Y) (g : Y.grownBy Z q) : Grw p q X Z :=
  h.tr ⟨g.os, g.tape, g.output, g.size, fun k hk _ h2 => g.block k hk h2⟩
theorem Grw.cell {p q : Option Nat} {v : Value} {X Y : World} {b o : Nat} (h : Grw p q X Y) (h1 : some b ≠ p) (h2 : some b ≠ q) (hc : X.cell? ⟨b, o, none⟩ = some v) : Y.cell? ⟨b, o, none⟩ = some v :=
  (World.cell?_of_block (h.block b (World.block_lt_of_cell? X ⟨b, o, none⟩ hc) h1 h2)).trans hc

/-- The function value of the search. -/
def FVH (lb wb B : Nat) : Value := .func (.func 43) #[] #[.pointer (some ⟨lb, 0, none⟩), .pointer (some ⟨B, 0, none⟩), .pointer (some ⟨wb, 0, none⟩), .pointer (some ⟨B + 1, 0, none⟩)]
/-- What holds when the search is called below some flags. -/
structure StH (c0 c1 n1 B lb wb l : Nat) (V : World) (J : List Hst → (Nat → Prop) → World → Prop) (hs ds : List Nat) (hv dv : Value) (pre : List Hst) (O : Nat → Prop) (W : World) : Prop where
  j : J pre O W
  lo : Lo c0 c1 n1 V W
  yb : W.cell? ⟨B, 0, none⟩ = some (.func (.yield l) #[] #[])
  hb : W.cell? ⟨B + 1, 0, none⟩ = some (FVH lb wb B)
  oy : ¬ O B
  oh : ¬ O (B + 1)
  rh : W.ownsRow (B + 2) 3 1 hv hs.length (inN hs)
  rd : W.ownsRow (B + 2) 3 1 dv hs.length (inN ds)
  ne : ∀ g, hv.ownBlock = some g → dv.ownBlock = some g → False
  ho : ∀ g, hv.ownBlock = some g → ¬ O g
  dO : ∀ g, dv.ownBlock = some g → ¬ O g
/-- What the yield is. -/
def YdH (c0 c1 n1 B l N m : Nat) (J Jx : List Hst → (Nat → Prop) → World → Prop) : Prop :=
  ∀ pre x O W1, J pre O W1 → AtH x W1 → (∀ k, GvH x k → B ≤ k ∧ k < W1.heap.size ∧ ¬ O k) → pre.length < N → YieldAt Fence.wide m Try.prog l (encH x) W1 fun e W' =>
    ∃ O', (∀ k, O' k → O k ∨ GvH x k ∨ W1.heap.size ≤ k) ∧ KeepsBut B (fun k => O k ∨ GvH x k) W1 W' ∧
      ((e = .returned (.bool true) ∧ J (pre ++ [x]) O' W' ∧ Lo c0 c1 n1 W1 W') ∨ (e = .returned (.bool false) ∧ Jx (pre ++ [x]) O' W'))
/-- It goes on: the whole tree was handed over. -/
def HYes (c0 c1 n1 B lb wb l : Nat) (V : World) (want : Nat → Nat → Bool) (J : List Hst → (Nat → Prop) → World → Prop) (r : Nat) (hs ds : List Nat) (L : Nat) (hv dv : Value) (pre : List Hst) (O : Nat → Prop) (W W' : World) : Prop :=
  ∃ xs O', xs.map (fun x : Hst => x.2.2) = tre want r hs ds L ∧ StH c0 c1 n1 B lb wb l V J hs ds hv dv (pre ++ xs) O' W' ∧ (∀ k, O' k → O k ∨ W.heap.size ≤ k) ∧ FrH B O hv dv W W'
/-- It stopped: a beginning of the tree was handed over. -/
def HNo (want : Nat → Nat → Bool) (Jx : List Hst → (Nat → Prop) → World → Prop) (r : Nat) (hs ds : List Nat) (L : Nat) (pre : List Hst) (W' : World) : Prop :=
  ∃ xs O', (∃ rest, tre want r hs ds L = xs.map (fun x : Hst => x.2.2) ++ rest) ∧ Jx (pre ++ xs) O' W'
def HPost (c0 c1 n1 B lb wb l : Nat) (V : World) (want : Nat → Nat → Bool) (J Jx : List Hst → (Nat → Prop) → World → Prop) (r : Nat) (hs ds : List Nat) (L : Nat) (hv dv : Value) (pre : List Hst) (O : Nat → Prop) (W : World) (e : Ending) (W' : World) : Prop :=
  ∃ b, e = .returned (.bool b) ∧ (b = true → HYes c0 c1 n1 B lb wb l V want J r hs ds L hv dv pre O W W') ∧ (b = false → HNo want Jx r hs ds L pre W')
/-- Of J. -/
structure JOk (B : Nat) (J : List Hst → (Nat → Prop) → World → Prop) : Prop where
  low : OwnLow B J
  bd : ∀ s O X, J s O X → ∀ k, O k → B ≤ k ∧ k < X.heap.size

section
variable {c0 c1 n1 B lb wb l N : Nat} {V : World} {want : Nat → Nat → Bool} {J Jx : List Hst → (Nat → Prop) → World → Prop} {hs ds : List Nat} {hv dv : Value} {pre : List Hst} {O : Nat → Prop} {W W1 W' : World}

theorem StH.sz (h : StH c0 c1 n1 B lb wb l V J hs ds hv dv pre O W) : B + 2 ≤ W.heap.size := World.block_lt_of_cell? W ⟨B + 1, 0, none⟩ h.hb
theorem StH.far (h : StH c0 c1 n1 B lb wb l V J hs ds hv dv pre O W) {b : Nat} (hb : b < B + 2) : some b ≠ hv.ownBlock ∧ some b ≠ dv.ownBlock :=
  ⟨fun e => by have := (h.rh.lt b e.symm).1; omega, fun e => by have := (h.rd.lt b e.symm).1; omega⟩
/-- A hoist is copied: it can be handed over. -/
theorem leaf_ready (hJ : JOk B J) (h : StH c0 c1 n1 B lb wb l V J hs ds hv dv pre O W) (hb : Bl W W1) {g cap : Nat} (hr : W1.ownsRow W.heap.size 3 1 (.slice (some ⟨g, 0, none⟩) hs.length cap) hs.length (inN hs)) (h1 : 1 ≤ hs.length) (h4 : hs.length ≤ 4) :
    J pre O W1 ∧ AtH (g, cap, hs) W1 ∧ (∀ k, GvH (g, cap, hs) k → B ≤ k ∧ k < W1.heap.size ∧ ¬ O k) := by
  have hg := hr.lt g rfl
  have hz := h.sz
  refine ⟨hJ.low _ _ _ _ h.j (hb.mono (by omega)) (fun k hk => hb.block k (hJ.bd _ _ _ h.j k hk).2), ⟨own_base hr (fun g' e => Nat.zero_le _), h1, h4⟩, ?_⟩
  intro k hk
  obtain rfl : k = g := hk
  exact ⟨by omega, hg.2, fun ho => by have := (hJ.bd _ _ _ h.j k ho).2; omega⟩
theorem leaf_yes (hJ : JOk B J) (hn1 : n1 ≤ B) (h : StH c0 c1 n1 B lb wb l V J hs ds hv dv pre O W) (hb : Bl W W1) {g cap : Nat} (hr : W1.ownsRow W.heap.size 3 1 (.slice (some ⟨g, 0, none⟩) hs.length cap) hs.length (inN hs))
    {O' : Nat → Prop} {L : Nat} (hO : ∀ k, O' k → O k ∨ GvH (g, cap, hs) k ∨ W1.heap.size ≤ k) (hk : KeepsBut B (fun k => O k ∨ GvH (g, cap, hs) k) W1 W') (hj : J (pre ++ [(g, cap, hs)]) O' W') (hl : Lo c0 c1 n1 W1 W') :
    HYes c0 c1 n1 B lb wb l V want J 0 hs ds L hv dv pre O W W' := by
  have hg := hr.lt g rfl
  have hz := h.sz
  have zb := hb.size
  have keep : ∀ k, B ≤ k → k < W.heap.size → ¬ O k → W'.heap[k]? = W.heap[k]? := fun k h1 h2 h3 =>
    (hk.same k h1 (by omega) (fun h => by rcases h with h | h; exact h3 h; (have : k = g := h); omega)).trans (hb.block k h2)
  have up : ∀ k, O' k → O k ∨ W.heap.size ≤ k := fun k h' => by
    rcases hO k h' with h | h | h
    · exact .inl h
    · right; (have : k = g := h); omega
    · right; omega
  have kc : ∀ {b : Nat} {v : Value}, B ≤ b → ¬ O b → W.cell? ⟨b, 0, none⟩ = some v → W'.cell? ⟨b, 0, none⟩ = some v := fun hb1 ho hc =>
    (World.cell?_of_block (keep _ hb1 (World.block_lt_of_cell? W ⟨_, 0, none⟩ hc) ho)).trans hc
  refine ⟨[(g, cap, hs)], O', rfl, ⟨hj, (h.lo.trans (Lo.of_below (B := B) (hb.mono (by omega)) hn1)).trans hl, kc (Nat.le_refl _) h.oy h.yb, kc (by omega) h.oh h.hb, ?_, ?_, own_same h.rh fun g' e => ?_, own_same h.rd fun g' e => ?_, h.ne, ?_, ?_⟩, up, ⟨by have := hk.size; omega, fun k a1 a2 a3 _ _ => keep k a1 a2 a3⟩⟩
  · intro ho; rcases up _ ho with h' | h'; exact h.oy h'; omega
  · intro ho; rcases up _ ho with h' | h'; exact h.oh h'; omega
  · have := h.rh.lt g' e; exact keep g' (by omega) this.2 (h.ho g' e)
  · have := h.rd.lt g' e; exact keep g' (by omega) this.2 (h.dO g' e)
  · intro g' e ho; have := h.rh.lt g' e; rcases up _ ho with h' | h'; exact h.ho g' e h'; omega
  · intro g' e ho; have := h.rd.lt g' e; rcases up _ ho with h' | h'; exact h.dO g' e h'; omega
theorem leaf_no {g cap : Nat} {O' : Nat → Prop} {L : Nat} (hj : Jx (pre ++ [(g, cap, hs)]) O' W') : HNo want Jx 0 hs ds L pre W' := ⟨[(g, cap, hs)], O', ⟨[], by simp [tre]⟩, hj⟩
/-- What a row is appended to lies where it lay, or in a new block. -/
def Org (v : Value) (n g cap : Nat) (H : Nat) (p : Option Nat) : Prop := (v = .slice (some ⟨g, 0, none⟩) n cap ∧ p = some g) ∨ (H ≤ g ∧ p = none)
theorem Org.row {v : Value} {n g cap H : Nat} {p : Option Nat} (h : Org v n g cap H p) : ∀ k, some k = p → v.ownBlock = some k := fun k e => by
  rcases h with ⟨h1, h2⟩ | ⟨h1, h2⟩
  · subst h1; rw [h2] at e; rw [e]; rfl
  · rw [h2] at e; cases e
/-- The next call of the search. -/
theorem step_down (hJ : JOk B J) (hn1 : n1 ≤ B) (h : StH c0 c1 n1 B lb wb l V J hs ds hv dv pre O W) {f d g1 cap1 g2 cap2 : Nat} {W3 : World}
    {p q : Option Nat} (G : Grw p q W W3) (hat1 : Org hv hs.length g1 cap1 W.heap.size p) (hat2 : Org dv hs.length g2 cap2 W.heap.size q) (h12 : hv.ownBlock = some g1 ∨ dv.ownBlock = some g2 ∨ g1 < g2)
    (r1 : W3.ownsRow (B + 2) 3 1 (.slice (some ⟨g1, 0, none⟩) (hs.length + 1) cap1) (hs.length + 1) (inN hs ++ [.int .i64 (f : Int)]))
    (r2 : W3.ownsRow (B + 2) 3 1 (.slice (some ⟨g2, 0, none⟩) (hs.length + 1) cap2) (hs.length + 1) (inN ds ++ [.int .i64 (d : Int)])) :
    StH c0 c1 n1 B lb wb l V J (hs ++ [f]) (ds ++ [d]) (.slice (some ⟨g1, 0, none⟩) (hs.length + 1) cap1) (.slice (some ⟨g2, 0, none⟩) (hs.length + 1) cap2) pre O W3 := by
  have hz := h.sz
  have zG := G.size
  have hbd := hJ.bd _ _ _ h.j
  have fp : ∀ b, b < B + 2 → some b ≠ p := fun b hb e => (h.far hb).1 (hat1.row b e).symm
  have fq : ∀ b, b < B + 2 → some b ≠ q := fun b hb e => (h.far hb).2 (hat2.row b e).symm
  have B3 : Below B W W3 := ⟨G.os, G.tape, G.output, G.size, fun k hk => G.block k (by omega) (fp k (by omega)) (fq k (by omega))⟩
  have nO : ∀ {v : Value} {g cap : Nat} {p : Option Nat}, Org v hs.length g cap W.heap.size p → (∀ g, v.ownBlock = some g → ¬ O g) → ¬ O g := fun {v g cap p} ho hv' hO => by
    rcases ho with ⟨e, _⟩ | ⟨e, _⟩
    · subst e; exact hv' g rfl hO
    · have := (hbd g hO).2; omega
  have e1 : (hs ++ [f]).length = hs.length + 1 := by simp
  have e2 : inN (hs ++ [f]) = inN hs ++ [.int .i64 (f : Int)] := by simp [inN]
  have e3 : inN (ds ++ [d]) = inN ds ++ [.int .i64 (d : Int)] := by simp [inN]
  refine ⟨hJ.low _ _ _ _ h.j B3 (fun k hk => G.block k (hbd k hk).2 (fun e => h.ho k (hat1.row k e) hk) (fun e => h.dO k (hat2.row k e) hk)), h.lo.trans (Lo.of_below B3 hn1), G.cell (fp _ (by omega)) (fq _ (by omega)) h.yb, G.cell (fp _ (by omega)) (fq _ (by omega)) h.hb, h.oy, h.oh, by rw [e1, e2]; exact r1, by rw [e1, e3]; exact r2, ?_, ?_, ?_⟩
  · intro g a b
    obtain rfl : g1 = g := by simpa [Value.ownBlock] using a
    obtain rfl : g2 = g1 := by simpa [Value.ownBlock] using b
    rcases hat1 with ⟨e, _⟩ | ⟨e, _⟩
    · rcases hat2 with ⟨e', _⟩ | ⟨e', _⟩
      · subst e e'; exact h.ne g2 rfl rfl
      · subst e; have := (h.rh.lt g2 rfl).2; omega
    · rcases hat2 with ⟨e', _⟩ | ⟨e', _⟩
      · subst e'; have := (h.rd.lt g2 rfl).2; omega
      · rcases h12 with h' | h' | h'
        · have := (h.rh.lt g2 h').2; omega
        · have := (h.rd.lt g2 h').2; omega
        · omega
  · intro g a
    obtain rfl : g1 = g := by simpa [Value.ownBlock] using a
    exact nO hat1 h.ho
  · intro g a
    obtain rfl : g2 = g := by simpa [Value.ownBlock] using a
    exact nO hat2 h.dO
/-- The row that was appended to is as it was. -/
theorem row_back {base n g cap : Nat} {xs : List Value} {u : Value} {X Y : World} {v : Value} {p : Option Nat} (ho : Org v n g cap X.heap.size p) (hx : X.ownsRow base 3 1 v n xs) (hy : Y.ownsRow base 3 1 (.slice (some ⟨g, 0, none⟩) (n + 1) cap) (n + 1) (xs ++ [u]))
    (hk : p = none → ∀ k, v.ownBlock = some k → Y.heap[k]? = X.heap[k]?) : Y.ownsRow base 3 1 v n xs := by
  rcases ho with ⟨e, _⟩ | ⟨e, hp⟩
  · subst e
    have hc : n ≤ cap := by
      rcases hx.2 with ⟨h', _⟩ | ⟨g', cap', cur, h', _, _, hnc, _⟩
      · simp at h'
      · simp only [Value.slice.injEq, Option.some.injEq, Addr.mk.injEq, and_true, true_and] at h'
        obtain ⟨rfl, rfl⟩ := h'
        exact hnc
    exact own_take hy (by have := hx.1; omega) hc rfl
  · exact own_same hx (hk hp)
/-- Back from the next call: the search goes on. -/
theorem step_up (hJ : JOk B J) (h : StH c0 c1 n1 B lb wb l V J hs ds hv dv pre O W) {r f d g1 cap1 g2 cap2 L : Nat} {W3 W4 : World}
    {p q : Option Nat} (G : Grw p q W W3) (hat1 : Org hv hs.length g1 cap1 W.heap.size p) (hat2 : Org dv hs.length g2 cap2 W.heap.size q)
    (hy : HYes c0 c1 n1 B lb wb l V want J r (hs ++ [f]) (ds ++ [d]) L (.slice (some ⟨g1, 0, none⟩) (hs.length + 1) cap1) (.slice (some ⟨g2, 0, none⟩) (hs.length + 1) cap2) pre O W3 W4) :
    ∃ xs O', xs.map (fun x : Hst => x.2.2) = tre want r (hs ++ [f]) (ds ++ [d]) L ∧ StH c0 c1 n1 B lb wb l V J hs ds hv dv (pre ++ xs) O' W4 ∧ (∀ k, O' k → O k ∨ W.heap.size ≤ k) ∧ FrH B O hv dv W W4 := by
  obtain ⟨xs, O', hx, s, up, F⟩ := hy
  have hz := h.sz
  have zG := G.size
  have zF := F.size
  have e1 : (hs ++ [f]).length = hs.length + 1 := by simp
  have e2 : inN (hs ++ [f]) = inN hs ++ [.int .i64 (f : Int)] := by simp [inN]
  have e3 : inN (ds ++ [d]) = inN ds ++ [.int .i64 (d : Int)] := by simp [inN]
  have s1 := s.rh
  have s2 := s.rd
  rw [e1, e2] at s1
  rw [e1, e3] at s2
  have og : ∀ {v : Value} {g cap k : Nat} {p : Option Nat}, Org v hs.length g cap W.heap.size p → k < W.heap.size → some k ≠ p → k ≠ g := fun {v g cap k p} ho hk hn e => by
    subst e
    rcases ho with ⟨_, e⟩ | ⟨e, _⟩
    · exact hn e.symm
    · omega
  have keep' : ∀ k, B ≤ k → k < W.heap.size → ¬ O k → some k ≠ p → some k ≠ q → W4.heap[k]? = W.heap[k]? := fun k a1 a2 a3 a4 a5 =>
    (F.same k a1 (by omega) a3 (by simp only [Value.ownBlock, ne_eq, Option.some.injEq]; exact og hat1 a2 a4) (by simp only [Value.ownBlock, ne_eq, Option.some.injEq]; exact og hat2 a2 a5)).trans (G.block k a2 a4 a5)
  have keep : ∀ k, B ≤ k → k < W.heap.size → ¬ O k → some k ≠ hv.ownBlock → some k ≠ dv.ownBlock → W4.heap[k]? = W.heap[k]? := fun k a1 a2 a3 a4 a5 =>
    keep' k a1 a2 a3 (fun e => a4 (hat1.row k e).symm) (fun e => a5 (hat2.row k e).symm)
  have up' : ∀ k, O' k → O k ∨ W.heap.size ≤ k := fun k hk => by rcases up k hk with h' | h'; exact .inl h'; right; omega
  refine ⟨xs, O', hx, ⟨s.j, s.lo, s.yb, s.hb, s.oy, s.oh, ?_, ?_, h.ne, ?_, ?_⟩, up', ⟨by omega, keep⟩⟩
  · refine row_back hat1 h.rh s1 fun hp k hk => ?_
    have l1 := h.rh.lt k hk
    exact keep' k (by omega) l1.2 (h.ho k hk) (fun e => by rw [hp] at e; cases e) (fun e => h.ne k hk (hat2.row k e))
  · refine row_back hat2 h.rd s2 fun hp k hk => ?_
    have l1 := h.rd.lt k hk
    exact keep' k (by omega) l1.2 (h.dO k hk) (fun e => h.ne k (hat1.row k e) hk) (fun e => by rw [hp] at e; cases e)
  · intro g e ho; have := h.rh.lt g e; rcases up' _ ho with h' | h'; exact h.ho g e h'; omega
  · intro g e ho; have := h.rd.lt g e; rcases up' _ ho with h' | h'; exact h.dO g e h'; omega
/-- One append: Ws world before the drawn statement, W' behind it. -/
def Ap (v : Value) (n g cap : Nat) (W W' : World) : Prop :=
  ∃ X, Grw none none W X ∧ ((v = .slice (some ⟨g, 0, none⟩) n cap ∧ X.grownBy W' (some g)) ∨ (g = X.heap.size ∧ X.grownBy W' none))
theorem Ap.org {v : Value} {n g cap : Nat} (h : Ap v n g cap W W') : ∃ p, Org v n g cap W.heap.size p ∧ Grw p none W W' := by
  obtain ⟨X, hX, ⟨e, hg⟩ | ⟨e, hg⟩⟩ := h
  · exact ⟨some g, .inl ⟨e, rfl⟩, Grw.a1 ⟨hX.os, hX.tape, hX.output, hX.size, fun k hk _ _ => hX.block k hk (by simp) (by simp)⟩ hg⟩
  · exact ⟨none, .inr ⟨by have := hX.size; omega, rfl⟩, hX.a1 hg⟩
theorem Ap.size {v : Value} {n g cap : Nat} (h : Ap v n g cap W W') : W.heap.size ≤ W'.heap.size := by obtain ⟨p, _, G⟩ := h.org; exact G.size
theorem Ap.cell {v u : Value} {n g cap b o : Nat} (h : Ap v n g cap W W') (hb : some b ≠ v.ownBlock) (hc : W.cell? ⟨b, o, none⟩ = some u) : W'.cell? ⟨b, o, none⟩ = some u := by
  obtain ⟨p, ho, G⟩ := h.org
  exact G.cell (fun e => hb (ho.row b e).symm) (by simp) hc
theorem Ap.row {v v2 : Value} {n g cap base n2 : Nat} {e : TypeId} {xs : List Value} (h : Ap v n g cap W W') (hb : ∀ k, v2.ownBlock = some k → v.ownBlock ≠ some k) (hc : W.ownsRow base e 1 v2 n2 xs) : W'.ownsRow base e 1 v2 n2 xs := by
  obtain ⟨p, ho, G⟩ := h.org
  exact own_same hc fun k hk => G.block k (hc.lt k hk).2 (fun e => hb k hk (ho.row k e)) (by simp)
theorem grw_cells {p q : Option Nat} {X : World} {b : Nat} {o : Obj} (G : Grw p q W X) (hb : W.heap[b]? = some o) (h1 : some b ≠ p) (h2 : some b ≠ q) : X.heap[b]? = some o := (G.block b (Array.getElem?_eq_some_iff.1 hb).1 h1 h2).trans hb
/-- Two appends: the next call of the search may begin. -/
theorem step_pair (hJ : JOk B J) (hn1 : n1 ≤ B) (h : StH c0 c1 n1 B lb wb l V J hs ds hv dv pre O W) {f d g1 cap1 g2 cap2 : Nat} {W2 W4 : World}
    (P1 : Ap hv hs.length g1 cap1 W W2) (r1 : W2.ownsRow (B + 2) 3 1 (.slice (some ⟨g1, 0, none⟩) (hs.length + 1) cap1) (hs.length + 1) (inN hs ++ [.int .i64 (f : Int)])) (hlt : g1 < W2.heap.size)
    (P2 : Ap dv hs.length g2 cap2 W2 W4) (r2 : W4.ownsRow (B + 2) 3 1 (.slice (some ⟨g2, 0, none⟩) (hs.length + 1) cap2) (hs.length + 1) (inN ds ++ [.int .i64 (d : Int)])) :
    StH c0 c1 n1 B lb wb l V J (hs ++ [f]) (ds ++ [d]) (.slice (some ⟨g1, 0, none⟩) (hs.length + 1) cap1) (.slice (some ⟨g2, 0, none⟩) (hs.length + 1) cap2) pre O W4 ∧
    ∃ p q, Grw p q W W4 ∧ Org hv hs.length g1 cap1 W.heap.size p ∧ Org dv hs.length g2 cap2 W.heap.size q := by
  obtain ⟨p, ho1, G1⟩ := P1.org
  obtain ⟨q, ho2, G2⟩ := P2.org
  have z1 := G1.size
  have z2 := G2.size
  have ho2' : Org dv hs.length g2 cap2 W.heap.size q := by
    rcases ho2 with e | ⟨e, e'⟩
    · exact .inl e
    · exact .inr ⟨by omega, e'⟩
  have G : Grw p q W W4 := by
    refine Grw.tr (Y := W2) ⟨G1.os, G1.tape, G1.output, G1.size, fun k a b _ => G1.block k a b (by simp)⟩ ⟨G2.os, G2.tape, G2.output, G2.size, fun k a _ b => G2.block k a b (by simp)⟩
  have r1' : W4.ownsRow (B + 2) 3 1 (.slice (some ⟨g1, 0, none⟩) (hs.length + 1) cap1) (hs.length + 1) (inN hs ++ [.int .i64 (f : Int)]) := by
    refine P2.row (fun k hk hk' => ?_) r1
    obtain rfl : g1 = k := by simpa [Value.ownBlock] using hk
    have hd := h.rd.lt g1 hk'
    rcases ho1 with ⟨e, _⟩ | ⟨e, _⟩
    · subst e; exact h.ne g1 rfl hk'
    · omega
  refine ⟨step_down hJ hn1 h G ho1 ho2' ?_ r1' r2, p, q, G, ho1, ho2'⟩
  rcases ho2 with ⟨e, _⟩ | ⟨e, _⟩
  · right; left; subst e; rfl
  · right; right; omega
/-- What has been handed over when the flags below k have been tried. -/
def LoopH (c0 c1 n1 B lb wb l : Nat) (V : World) (want : Nat → Nat → Bool) (J : List Hst → (Nat → Prop) → World → Prop) (r : Nat) (hs ds : List Nat) (L : Nat) (hv dv : Value) (pre : List Hst) (O : Nat → Prop) (W : World) (k : Nat) (wr : World) : Prop :=
  ∃ xs O', xs.map (fun x : Hst => x.2.2) = treTo want r hs ds L k ∧ StH c0 c1 n1 B lb wb l V J hs ds hv dv (pre ++ xs) O' wr ∧ (∀ k, O' k → O k ∨ W.heap.size ≤ k) ∧ FrH B O hv dv W wr
theorem LoopH.nil (h : StH c0 c1 n1 B lb wb l V J hs ds hv dv pre O W) {r L : Nat} : LoopH c0 c1 n1 B lb wb l V want J r hs ds L hv dv pre O W 0 W :=
  ⟨[], O, rfl, by rw [List.append_nil]; exact h, fun k hk => .inl hk, FrH.refl _ _ _ _ _⟩
theorem LoopH.no {r L k : Nat} {wr : World} (h : LoopH c0 c1 n1 B lb wb l V want J r hs ds L hv dv pre O W k wr) (hc : canB want hs ds L k = false) : LoopH c0 c1 n1 B lb wb l V want J r hs ds L hv dv pre O W (k + 1) wr := by
  obtain ⟨xs, O', a, b, c, d⟩ := h
  exact ⟨xs, O', by rw [treTo_no hc]; exact a, b, c, d⟩
theorem LoopH.drew {r L k : Nat} {wr : World} (hJ : JOk B J) (h : LoopH c0 c1 n1 B lb wb l V want J r hs ds L hv dv pre O W k wr) (m : Nat) : LoopH c0 c1 n1 B lb wb l V want J r hs ds L hv dv pre O W k (wr.drewN m) := by
  have hb : Bl wr (wr.drewN m) := ⟨rfl, rfl, rfl, Nat.le_refl _, fun _ _ => rfl⟩
  have he : (wr.drewN m).heap = wr.heap := rfl
  obtain ⟨xs, O', a, b, c, d⟩ := h
  have hz := b.sz
  refine ⟨xs, O', a, ⟨hJ.low _ _ _ _ b.j (hb.mono (by omega)) (fun k _ => by rw [he]), ⟨fun k a1 a2 => by rw [he]; exact b.lo.same k a1 a2⟩, (World.cell?_of_block (by rw [he])).trans b.yb, (World.cell?_of_block (by rw [he])).trans b.hb, b.oy, b.oh, own_same b.rh (fun _ _ => by rw [he]), own_same b.rd (fun _ _ => by rw [he]), b.ne, b.ho, b.dO⟩, c, ⟨by rw [he]; exact d.size, fun k a1 a2 a3 a4 a5 => by rw [he]; exact d.same k a1 a2 a3 a4 a5⟩⟩
theorem Lo.drewN {V W : World} (h : Lo c0 c1 n1 V W) (m : Nat) : Lo c0 c1 n1 V (W.drewN m) := ⟨fun k a b => h.same k a b⟩
theorem Lo.dr {V W : World} (h : Lo c0 c1 n1 V W) : Lo c0 c1 n1 V W.drew := ⟨fun k a b => h.same k a b⟩
theorem LoopH.yes {r L k : Nat} {wr W4 W5 : World} {xs : List Hst} {O' : Nat → Prop} (hJ : JOk B J) (hc : canB want hs ds L k = true)
    (hx : xs.map (fun x : Hst => x.2.2) = treTo want r hs ds L k) (hst : StH c0 c1 n1 B lb wb l V J hs ds hv dv (pre ++ xs) O' wr) (hO : ∀ k, O' k → O k ∨ W.heap.size ≤ k) (hF : FrH B O hv dv W wr)
    {g1 cap1 g2 cap2 : Nat} {p q : Option Nat} (G : Grw p q wr W4) (hat1 : Org hv hs.length g1 cap1 wr.heap.size p) (hat2 : Org dv hs.length g2 cap2 wr.heap.size q)
    (hy : HYes c0 c1 n1 B lb wb l V want J r (hs ++ [k]) (ds ++ [digF k ds]) (clr L k) (.slice (some ⟨g1, 0, none⟩) (hs.length + 1) cap1) (.slice (some ⟨g2, 0, none⟩) (hs.length + 1) cap2) (pre ++ xs) O' W4 W5) :
    LoopH c0 c1 n1 B lb wb l V want J r hs ds L hv dv pre O W (k + 1) W5 := by
  obtain ⟨ys, O2, hy1, hy2, hy3, hy4⟩ := step_up hJ hst G hat1 hat2 hy
  have zF := hF.size
  refine ⟨xs ++ ys, O2, by rw [List.map_append, hx, hy1, treTo_yes hc], by rw [← List.append_assoc]; exact hy2, fun k hk => ?_, ⟨by have := hy4.size; omega, fun k a1 a2 a3 a4 a5 => ?_⟩⟩
  · rcases hy3 k hk with h | h
    · exact hO k h
    · right; omega
  · exact (hy4.same k a1 (by omega) (fun ho => by rcases hO k ho with h | h; exact a3 h; omega) a4 a5).trans (hF.same k a1 a2 a3 a4 a5)
theorem LoopH.stop {r L k : Nat} {W5 : World} {xs : List Hst} (hk : k < 13) (hc : canB want hs ds L k = true) (hx : xs.map (fun x : Hst => x.2.2) = treTo want r hs ds L k) (hno : HNo want Jx r (hs ++ [k]) (ds ++ [digF k ds]) (clr L k) (pre ++ xs) W5) :
    HNo want Jx (r + 1) hs ds L pre W5 := by
  obtain ⟨ys, O2, ⟨rest, hr⟩, hj⟩ := hno
  obtain ⟨rest2, h2⟩ := treTo_pre want r hs ds L (k := k + 1) (n := 13) (by omega)
  refine ⟨xs ++ ys, O2, ⟨rest ++ rest2, ?_⟩, by rw [← List.append_assoc]; exact hj⟩
  rw [tre_to, h2, treTo_yes hc, hr, List.map_append, hx]
  simp
theorem LoopH.bound {r L k : Nat} {xs : List Hst} (hk : k < 13) (hc : canB want hs ds L k = true) (hx : xs.map (fun x : Hst => x.2.2) = treTo want r hs ds L k) (hN : pre.length + (tre want (r + 1) hs ds L).length ≤ N) :
    (pre ++ xs).length + (tre want r (hs ++ [k]) (ds ++ [digF k ds]) (clr L k)).length ≤ N := by
  obtain ⟨rest2, h2⟩ := treTo_pre want r hs ds L (k := k + 1) (n := 13) (by omega)
  have hl : xs.length = (treTo want r hs ds L k).length := by rw [← hx, List.length_map]
  rw [tre_to, h2, treTo_yes hc] at hN
  simp only [List.length_append] at hN ⊢
  omega
theorem LoopH.end {r L : Nat} {wr : World} (h : LoopH c0 c1 n1 B lb wb l V want J r hs ds L hv dv pre O W 13 wr) : HYes c0 c1 n1 B lb wb l V want J (r + 1) hs ds L hv dv pre O W wr := h
theorem RoundIn.anyM {F : Fence} (hd : F.depth = none) {m m' : Nat} {P : Program} {l : Nat} {f : FuncId} {tmps : Array Value} {assign body : Code} {w : World} {R : Ending → World → Prop} (h : RoundIn F m P l f tmps assign body w R) : RoundIn F m' P l f tmps assign body w R :=
  ⟨h.1, fun c cs _ => h.2 c cs (fun d e => by rw [hd] at e; cases e)⟩
/-- The yield of a copied hoist. -/
theorem leaf_yield {m m' : Nat} (hJ : JOk B J) (hn1 : n1 ≤ B) (hY : YdH c0 c1 n1 B l N m J Jx) (h : StH c0 c1 n1 B lb wb l V J hs ds hv dv pre O W) (hN : pre.length < N) (hb : Bl W W1) {g cap L : Nat} (hr : W1.ownsRow W.heap.size 3 1 (.slice (some ⟨g, 0, none⟩) hs.length cap) hs.length (inN hs)) (h1 : 1 ≤ hs.length) (h4 : hs.length ≤ 4) :
    ∃ fn tmps assign body, (Instr.yield l #[.slice (some ⟨g, 0, none⟩) hs.length cap]).run Try.prog W1 = .ok (.round l fn tmps assign body) W1 ∧ RoundIn Fence.wide m' Try.prog l fn tmps assign body W1 (HPost c0 c1 n1 B lb wb l V want J Jx 0 hs ds L hv dv pre O W) := by
  obtain ⟨a, b, c⟩ := leaf_ready hJ h hb hr h1 h4
  obtain ⟨fn, tmps, assign, body, hy, hR⟩ := hY pre (g, cap, hs) O W1 a b c hN
  refine ⟨fn, tmps, assign, body, hy, RoundIn.anyM (m := m) rfl (hR.mono ?_)⟩
  rintro e W' ⟨O', hO, hk, ⟨rfl, hj, hl⟩ | ⟨rfl, hj⟩⟩
  · exact ⟨true, rfl, (fun _ => leaf_yes hJ hn1 h hb hr hO hk hj hl), (fun h => by cases h)⟩
  · exact ⟨false, rfl, (fun h => by cases h), (fun _ => leaf_no hj)⟩
end
end Go.Proofs.Ytdikflklkmfcfaa
