/-
  Ranges over iterators that themselves range over iterators: a contract whose rounds' invariants abide the turn of whatever holds no cells and is new since the iterator began; the loop over such an iterator.
-/
import Derived.Test.YtchikfegpoonjaaRows
import Derived.RangeFuncNested
namespace Go.Proofs.Ytchikfegpoonjaa
open Go Go.RowKit
set_option linter.unusedSimpArgs false
set_option linter.unusedVariables false

variable {F : Fence} {n m : Nat} {P : Program}

/-- Every block from B on lies as it lay. -/
structure KeepsAll (B : Nat) (W W' : World) : Prop where
  size : W.heap.size ≤ W'.heap.size
  same : ∀ k, B ≤ k → k < W.heap.size → W'.heap[k]? = W.heap[k]?
theorem KeepsAll.refl (B : Nat) (W : World) : KeepsAll B W W := ⟨Nat.le_refl _, fun _ _ _ => rfl⟩
theorem KeepsAll.trans {B : Nat} {X Y Z : World} (h : KeepsAll B X Y) (k : KeepsAll B Y Z) : KeepsAll B X Z :=
  ⟨Nat.le_trans h.size k.size, fun i hi hx => (k.same i hi (Nat.lt_of_lt_of_le hx h.size)).trans (h.same i hi hx)⟩
theorem KeepsAll.mono {A B : Nat} {X Y : World} (h : KeepsAll A X Y) (hAB : A ≤ B) : KeepsAll B X Y := ⟨h.size, fun k hk h1 => h.same k (Nat.le_trans hAB hk) h1⟩
theorem KeepsAll.at {B k : Nat} {o : Obj} {X Y : World} (h : KeepsAll B X Y) (hk : B ≤ k) (ho : X.heap[k]? = some o) : Y.heap[k]? = some o := (h.same k hk (Array.getElem?_eq_some_iff.1 ho).1).trans ho
theorem KeepsAll.cell {B : Nat} {X Y : World} {b o : Nat} {v : Value} (h : KeepsAll B X Y) (hb : B ≤ b) (hc : X.cell? ⟨b, o, none⟩ = some v) : Y.cell? ⟨b, o, none⟩ = some v :=
  (World.cell?_of_block (h.same b hb (World.block_lt_of_cell? X ⟨b, o, none⟩ hc))).trans hc
theorem KeepsAll.grown {B : Nat} {X Y : World} {row : Option Nat} (hg : X.grownBy Y row) (hrow : ∀ j, row = some j → j < B) : KeepsAll B X Y :=
  ⟨hg.size, fun k hB hk => hg.block k hk (fun e => by have := hrow k e.symm; omega)⟩
theorem below_keepsAll {X Y : World} (h : Below X.heap.size X Y) (B : Nat) : KeepsAll B X Y := ⟨h.size, fun k _ hk => h.block k hk⟩

/-- What an iterator does whose rounds keep, from its begin on, what lies from its begin on, and Kp. -/
def SeqA {α : Type} (F : Fence) (n : Nat) (P : Program) (g : Nat) (lb : Array Value) (encs : α → Array Value) (Kp : World → World → Prop) (S Sp : List α → Prop) (N : Nat) (w : World) : Prop :=
  ∀ (l : Nat) (J Jx : List α → World → Prop) (W : World), Below w.heap.size w W → OwnFrom W.heap.size J → OwnFrom W.heap.size Jx →
    (∀ pre x W1, J pre W1 → pre.length < N → YieldAt F (n - 1) P l (encs x) W1 fun e W' =>
      (e = .returned (.bool true) ∧ J (pre ++ [x]) W' ∧ Kp W1 W' ∧ KeepsAll W.heap.size W1 W') ∨ (e = .returned (.bool false) ∧ Jx (pre ++ [x]) W' ∧ KeepsAll W.heap.size W1 W')) →
    J [] W →
    CallsIn F n P g (#[.func (.yield l) #[] #[]] ++ lb) W fun e W' => (∃ v, e = .returned v) ∧ ((∃ xs, S xs ∧ J xs W') ∨ (∃ pre, Sp pre ∧ Jx pre W'))

/-- A loop's record. -/
abbrev recA (fn : FuncId) (a : Act) (ps : Array Tmp) (assign body : Code) (d : Nat) (st : LoopState) (pe : Option Code) : Loop :=
  { state := st, pending := pe, fn := fn, tmps := a.tmps, params := ps, assign := assign, body := body, defers := d }

theorem keeps_put {B l : Nat} (W : World) (o : Obj) (h : l < B) : KeepsAll B W (W.putObj l o) := KeepsAll.grown (grownBy_putObj' W l o) fun j e => by cases e; exact h
theorem below_put {n₀ l : Nat} (W : World) (o : Obj) (h : n₀ ≤ l) (hn : n₀ ≤ W.heap.size) : Below n₀ W (W.putObj l o) := (Below.refl n₀ W).grown (grownBy_putObj' W l o) hn fun k e => by cases e; exact h
theorem below_under {l : Nat} {X Y : World} (o : Obj) (h : Below X.heap.size X Y) (hl : l < X.heap.size) : Below X.heap.size (X.putObj l o) (Y.putObj l o) :=
  ⟨h.os, h.tape, h.output, by simpa using h.size, fun k hk => by
    by_cases e : k = l
    · subst e; rw [World.putObj_heap_same hl, World.putObj_heap_same (Nat.lt_of_lt_of_le hl h.size)]
    · rw [World.putObj_heap_other e, World.putObj_heap_other e]; exact h.block k hk⟩

/-- One round of a loop whose body runs to its end or returns. -/
theorem oneA {l d : Nat} {fn : FuncId} {a : Act} {ps : Array Tmp} {assign body : Code} {W : World} {args : Array Value} {R : Ending → World → Prop} (hfn : F.fn fn)
    (hl : W.heap[l]? = some (.loop (recA fn a ps assign body d .ready none))) (hs : args.size = ps.size)
    (A : Act → World → Prop) (hassign : ∀ K : Act → World → Prop, (∀ a₁ X, Below W.heap.size W X → A a₁ X → K a₁ X) → assign.wpIn (F.inRound l) m P (Exit.then K fun _ _ _ => False) { tmps := (ps.zip args).foldl (fun t (p, v) => t.setIfInBounds p v) a.tmps, defers := [] } W)
    (hbody : ∀ a₁ X, Below W.heap.size W X → A a₁ X → body.wpIn (F.inRound l) m P (fun e _ W3 => match e with
      | .normal => W3.heap[l]? = some (.loop (recA fn a ps assign body d .busy none)) ∧ R (.returned (.bool true)) (W3.putObj l (.loop (recA fn a ps assign body d .ready none)))
      | .ret => W3.heap[l]? = some (.loop (recA fn a ps assign body d .busy none)) ∧ R (.returned (.bool false)) (W3.putObj l (.loop (recA fn a ps assign body d .done (some .ret))))
      | _ => False) a₁ (X.putObj l (.loop (recA fn a ps assign body d .busy none)))) :
    YieldAt F m P l args W R := by
  refine ⟨fn, _, assign, body, run_yield hl hs, roundIn_of_wpIn hfn (hassign _ fun a₁ X hX hA => ⟨_, run_beginRound ((hX.block l (Array.getElem?_eq_some_iff.1 hl).1).trans hl) rfl, wpIn_mono (hbody a₁ X hX hA) ?_⟩)⟩
  intro e a3 W3 hp
  cases e with
  | normal => exact ⟨_, _, run_endRound none hp.1, hp.2⟩
  | ret => exact ⟨_, _, run_endRound (some .ret) hp.1, hp.2⟩
  | exit id => exact hp.elim
  | goto t => exact hp.elim
  | panic c => exact hp.elim
  | outgrown => exact hp.elim

/-- How a round's body may be left: Wb is the world in which the round began. -/
def postA {α : Type} (B : Nat) (Kp : World → World → Prop) (I Ir : List α → World → Prop) (xs : List α) (Wb : World) : Exit → Act → World → Prop
  | .normal, _, W' => KeepsAll B Wb W' ∧ Kp Wb W' ∧ I xs W'
  | .ret, _, W' => KeepsAll B Wb W' ∧ Ir xs W'
  | _, _, _ => False

/-- The loop over such an iterator, outside of a round. -/
theorem loopA {α : Type} {g : Operand} {ps : Array Tmp} {assign body : Code} {Q : Exit → Act → World → Prop} {a : Act} {w : World}
    (hro : F.round = none) (h1 : 1 ≤ n) {gf : Nat} {lb : Array Value} (hg : a.eval g = .func (.func gf) #[] lb) (hFg : F.fn gf) (eg : ∀ args w, (callFunc gf args).run P w = .ok (.enter gf args) w)
    {encs : α → Array Value} {Kp : World → World → Prop} {S Sp : List α → Prop} {N : Nat} {w0 : World} (hseq : SeqA F (n - 1) P gf lb encs Kp S Sp N w0)
    (hKt : ∀ {A B C : World}, Kp A B → Kp B C → Kp A C) (hKb : ∀ (W : World) (l : Nat) (o : Obj), w.heap.size ≤ l → (∃ o', W.heap[l]? = some o' ∧ o'.isCells = false) → Kp W (W.putObj l o)) (hb0 : Below w0.heap.size w0 w) (hps : ∀ x, (encs x).size = ps.size)
    (I Ir : List α → World → Prop) (hI : OwnFrom w.heap.size I) (hIr : OwnFrom w.heap.size Ir) (h0 : I [] w)
    (A : α → World → Act → World → Prop) (hA : ∀ x W a' X l o, A x W a' X → l < W.heap.size → (∃ o', X.heap[l]? = some o' ∧ o'.isCells = false) → A x (W.putObj l o) a' (X.putObj l o))
    (hassign : ∀ (l : Nat) (x : α) (W : World) (K : Act → World → Prop), w.heap.size < W.heap.size → (∀ a' X, Below W.heap.size W X → A x W a' X → K a' X) →
      assign.wpIn (F.inRound l) (n - 1 - 1) P (Exit.then K fun _ _ _ => False) { tmps := (ps.zip (encs x)).foldl (fun t (p, v) => t.setIfInBounds p v) a.tmps, defers := [] } W)
    (hbody : ∀ (l : Nat) (pre : List α) (x : α) (a' : Act) (Wb X : World), w.heap.size ≤ l → (∃ r, Wb.heap[l]? = some (.loop r)) → I pre Wb → Below Wb.heap.size Wb X → A x Wb a' X → pre.length < N → body.wpIn (F.inRound l) (n - 1 - 1) P (postA w.heap.size Kp I Ir (pre ++ [x]) Wb) a' X)
    (hdone : ∀ (D : Nat) (xs : List α) (W : World), w.heap.size ≤ D → S xs → I xs W → W.heap[D]? = some (.deferred (some [])) → Q .normal { a with defers := { target := .collected D, args := #[] } :: a.defers } W)
    (hstop : ∀ (D : Nat) (pre : List α) (W : World), w.heap.size ≤ D → Sp pre → Ir pre W → W.heap[D]? = some (.deferred (some [])) → Code.ret.wpIn F n P Q { a with defers := { target := .collected D, args := #[] } :: a.defers } W) :
    (Code.rangeFunc g ps assign body).wpIn F n P Q a w := by
  refine wpIn_rangeFunc fun fn hfn => ?_
  rw [hro]
  -- the two blocks of the loop: D for the rounds' deferred calls, D + 1 the record
  obtain ⟨D, hD⟩ : ∃ D, D = w.heap.size := ⟨_, rfl⟩
  obtain ⟨rec, hrec⟩ : ∃ rec : LoopState → Option Code → Loop, rec = recA fn a ps assign body D := ⟨_, rfl⟩
  obtain ⟨V, hV⟩ : ∃ V, V = (w.alloc (.deferred (some []))).alloc (.loop (rec .ready none)) := ⟨_, rfl⟩
  have zV : V.heap.size = D + 2 := by rw [hV, hD]; simp
  have vL : V.heap[D + 1]? = some (.loop (rec .ready none)) := by
    have h := World.alloc_heap_new (w.alloc (.deferred (some []))) (.loop (rec .ready none))
    rw [World.size_alloc] at h
    rw [hV, hD]; exact h
  have vD : V.heap[D]? = some (.deferred (some [])) := by
    rw [hV, hD]; exact (Below.heap_alloc _ _ _ (by simp)).trans (World.alloc_heap_new w _)
  have vI : I [] V := by rw [hV]; exact hI.alloc _ (hI.alloc _ h0)
  have vB : Below w0.heap.size w0 V := by
    rw [hV]; exact hb0.trans ((((Below.refl _ w).alloc (Nat.le_refl _) _).alloc (by simp) _).mono hb0.size)
  refine ⟨D + 1, [{ target := .collected D, args := #[] }], V, { target := .fn (.func gf) lb, args := #[.func (.yield (D + 1)) #[] #[]] }, V, gf, #[.func (.yield (D + 1)) #[] #[]] ++ lb, V, ?_, ?_, ?_, ?_, fun _ => h1, ?_⟩
  · rw [hV, hrec, hD]; exact run_enterLoop_outer _ _ _ _ _
  · simp only [resolve, hg]
    simp [go_sem]
  · intro f' hf'; simp [Target.leads] at hf'; subst hf'; exact hFg
  · simp [invoke, go_sem, eg]
  have far : ∀ {A B : World} {row : Option Nat} {k : Nat} {o : Obj}, A.grownBy B row → (∀ r, row = some r → V.heap.size ≤ r ∧ ∃ o : Obj, A.heap[r]? = some o ∧ o.isCells = false) → k < D + 2 → A.heap[k]? = some o → B.heap[k]? = some o := by
    intro A B row k o hgr hr hk hA
    exact (hgr.block k (Array.getElem?_eq_some_iff.1 hA).1 fun e => by have := (hr k e.symm).1; omega).trans hA
  have wide : ∀ {A : World} {row : Option Nat}, (∀ r, row = some r → V.heap.size ≤ r ∧ ∃ o : Obj, A.heap[r]? = some o ∧ o.isCells = false) → ∀ r, row = some r → w.heap.size ≤ r ∧ ∃ o : Obj, A.heap[r]? = some o ∧ o.isCells = false :=
    fun hr r e => ⟨by have := (hr r e).1; omega, (hr r e).2⟩
  refine (hseq (D + 1) (fun pre W => I pre W ∧ W.heap[D + 1]? = some (.loop (rec .ready none)) ∧ W.heap[D]? = some (.deferred (some [])))
    (fun pre W => Ir pre W ∧ W.heap[D + 1]? = some (.loop (rec .done (some .ret))) ∧ W.heap[D]? = some (.deferred (some []))) V vB
    (fun s A B row hs hgr hr => ⟨hI s A B row hs.1 hgr (wide hr), far hgr hr (by omega) hs.2.1, far hgr hr (by omega) hs.2.2⟩)
    (fun s A B row hs hgr hr => ⟨hIr s A B row hs.1 hgr (wide hr), far hgr hr (by omega) hs.2.1, far hgr hr (by omega) hs.2.2⟩) ?_ ⟨vI, vL, vD⟩).mono ?_
  · rintro pre x W ⟨hi, hl, hd⟩ hlen
    have hlt : D + 1 < W.heap.size := (Array.getElem?_eq_some_iff.1 hl).1
    subst hrec
    refine oneA hfn hl (hps x) (A x W) (fun K hK => hassign _ x W K (by omega) hK) fun a₁ X hX hAX => ?_
    have kp : ∀ (X : World) (o : Obj), KeepsAll V.heap.size X (X.putObj (D + 1) o) := fun X o => keeps_put X o (by omega)
    obtain ⟨Wb, hWb⟩ : ∃ Wb, Wb = W.putObj (D + 1) (.loop (recA fn a ps assign body D .busy none)) := ⟨_, rfl⟩
    have bl : Wb.heap[D + 1]? = some (.loop (recA fn a ps assign body D .busy none)) := by rw [hWb]; exact World.putObj_heap_same hlt
    have bd : Wb.heap[D]? = some (.deferred (some [])) := by rw [hWb]; exact (World.putObj_heap_other (by omega)).trans hd
    have xl : X.heap[D + 1]? = some (.loop (recA fn a ps assign body D .ready none)) := (hX.block _ hlt).trans hl
    have kb : KeepsAll V.heap.size W Wb := by rw [hWb]; exact kp _ _
    have wb : Kp W Wb := by rw [hWb]; exact hKb _ _ _ (by omega) ⟨_, hl, rfl⟩
    have zb : Wb.heap.size = W.heap.size := by rw [hWb]; simp
    refine wpIn_mono (hbody (D + 1) pre x a₁ Wb _ (by omega) ⟨_, bl⟩ (by rw [hWb]; exact hI.putObj _ hi (by omega) hl rfl) (by rw [zb, hWb]; exact below_under _ hX hlt) (by rw [hWb]; exact hA x W a₁ X _ _ hAX hlt ⟨_, xl, rfl⟩) hlen) ?_
    intro e a3 W3 hp
    cases e with
    | normal =>
      obtain ⟨hk, hb, hi3⟩ := hp
      have l3 := hk.at (by omega) bl
      have d3 := hk.at (by omega) bd
      have lt3 : D + 1 < W3.heap.size := (Array.getElem?_eq_some_iff.1 l3).1
      refine ⟨l3, .inl ⟨rfl, ⟨hI.putObj _ hi3 (by omega) l3 rfl, World.putObj_heap_same lt3, (World.putObj_heap_other (by omega)).trans d3⟩, ?_, (kb.trans (hk.mono (by omega))).trans (kp _ _)⟩⟩
      exact hKt (hKt wb hb) (hKb W3 _ _ (by omega) ⟨_, l3, rfl⟩)
    | ret =>
      obtain ⟨hk, hi3⟩ := hp
      have l3 := hk.at (by omega) bl
      have d3 := hk.at (by omega) bd
      have lt3 : D + 1 < W3.heap.size := (Array.getElem?_eq_some_iff.1 l3).1
      exact ⟨l3, .inr ⟨rfl, ⟨hIr.putObj _ hi3 (by omega) l3 rfl, World.putObj_heap_same lt3, (World.putObj_heap_other (by omega)).trans d3⟩, (kb.trans (hk.mono (by omega))).trans (kp _ _)⟩⟩
    | exit id => exact hp.elim
    | goto t => exact hp.elim
    | panic c => exact hp.elim
    | outgrown => exact hp.elim
  · subst hrec
    rintro e W2 ⟨⟨v, rfl⟩, ⟨xs, hS, hi, hl, hd⟩ | ⟨pre, hSp, hi, hl, hd⟩⟩
    · exact ⟨none, _, run_endLoop hl (by simp), hdone D xs _ (by omega) hS (hI.putObj _ hi (by omega) hl rfl) ((World.putObj_heap_other (by omega)).trans hd)⟩
    · exact ⟨some .ret, _, run_endLoop hl (by simp), hstop D pre _ (by omega) hSp (hIr.putObj _ hi (by omega) hl rfl) ((World.putObj_heap_other (by omega)).trans hd)⟩
end Go.Proofs.Ytchikfegpoonjaa
