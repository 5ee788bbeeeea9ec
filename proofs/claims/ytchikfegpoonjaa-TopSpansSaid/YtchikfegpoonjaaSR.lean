/-
  Ranges over iterators that keep variables of their own in memory: a contract whose rounds' invariants speak of what lies below the iterator's begin; the loop over such an iterator.
-/
import Derived.Test.YtchikfegpoonjaaSQ
namespace Go.Proofs.Ytchikfegpoonjaa
open Go Go.RowKit
set_option linter.unusedSimpArgs false
set_option linter.unusedVariables false

variable {F : Fence} {n m : Nat} {P : Program}

/-- It speaks of what lies below B alone. -/
def LowOnly {α : Type} (B : Nat) (J : List α → World → Prop) : Prop := ∀ s X Y, J s X → Below B X Y → J s Y
theorem low_put {α : Type} {B l : Nat} {J : List α → World → Prop} (h : LowOnly B J) {s : List α} {X : World} {o o' : Obj} (hs : J s X) (hl : B ≤ l) (ho : X.heap[l]? = some o') : J s (X.putObj l o) :=
  h s _ _ hs (below_put X o hl (by have := (Array.getElem?_eq_some_iff.1 ho).1; omega))
/-- What an iterator does whose rounds keep, from its begin on, what lies from its begin on, and Kp. -/
def SeqB {α : Type} (F : Fence) (n : Nat) (P : Program) (g : Nat) (lb : Array Value) (encs : α → Array Value) (Kp : World → World → Prop) (S Sp : List α → Prop) (N : Nat) (w : World) : Prop :=
  ∀ (l : Nat) (J Jx : List α → World → Prop) (W : World), Below w.heap.size w W → LowOnly W.heap.size J → LowOnly W.heap.size Jx →
    (∀ pre x W1, J pre W1 → pre.length < N → YieldAt F (n - 1) P l (encs x) W1 fun e W' =>
      (e = .returned (.bool true) ∧ J (pre ++ [x]) W' ∧ Kp W1 W' ∧ KeepsAll W.heap.size W1 W') ∨ (e = .returned (.bool false) ∧ Jx (pre ++ [x]) W' ∧ KeepsAll W.heap.size W1 W')) →
    J [] W →
    CallsIn F n P g (#[.func (.yield l) #[] #[]] ++ lb) W fun e W' => (∃ v, e = .returned v) ∧ ((∃ xs, S xs ∧ J xs W') ∨ (∃ pre, Sp pre ∧ Jx pre W'))

/-- The loop over such an iterator, outside of a round. -/
theorem loopB {α : Type} {g : Operand} {ps : Array Tmp} {assign body : Code} {Q : Exit → Act → World → Prop} {a : Act} {w : World}
    (hro : F.round = none) (h1 : 1 ≤ n) {gf : Nat} {lb : Array Value} (hg : a.eval g = .func (.func gf) #[] lb) (hFg : F.fn gf) (eg : ∀ args w, (callFunc gf args).run P w = .ok (.enter gf args) w)
    {encs : α → Array Value} {Kp : World → World → Prop} {S Sp : List α → Prop} {N : Nat} {w0 : World} (hseq : SeqB F (n - 1) P gf lb encs Kp S Sp N w0)
    (hKt : ∀ {A B C : World}, Kp A B → Kp B C → Kp A C) (hKb : ∀ (W : World) (l : Nat) (o : Obj), w.heap.size ≤ l → (∃ o', W.heap[l]? = some o' ∧ o'.isCells = false) → Kp W (W.putObj l o)) (hb0 : Below w0.heap.size w0 w) (hps : ∀ x, (encs x).size = ps.size)
    (I Ir : List α → World → Prop) (hI : LowOnly w.heap.size I) (hIr : LowOnly w.heap.size Ir) (h0 : I [] w)
    (A : α → World → Act → World → Prop) (hA : ∀ x W a' X l o, A x W a' X → l < W.heap.size → (∃ o', X.heap[l]? = some o' ∧ o'.isCells = false) → A x (W.putObj l o) a' (X.putObj l o))
    (hassign : ∀ (l : Nat) (x : α) (W : World) (K : Act → World → Prop), w.heap.size < W.heap.size → (∀ a' X, Below W.heap.size W X → A x W a' X → K a' X) →
      assign.wpIn (F.inRound l) (n - 1 - 1) P (Exit.then K fun _ _ _ => False) { tmps := (ps.zip (encs x)).foldl (fun t (p, v) => t.setIfInBounds p v) a.tmps, defers := [] } W)
    (hbody : ∀ (l : Nat) (pre : List α) (x : α) (a' : Act) (Wb X : World), w.heap.size ≤ l → (∃ r, Wb.heap[l]? = some (.loop r)) → I pre Wb → Below Wb.heap.size Wb X → A x Wb a' X → pre.length < N → body.wpIn (F.inRound l) (n - 1 - 1) P (postA w.heap.size Kp I Ir (pre ++ [x]) Wb) a' X)
    (hdone : ∀ (D : Nat) (xs : List α) (W : World), w.heap.size ≤ D → S xs → I xs W → W.heap[D]? = some (.deferred (some [])) → Q .normal { a with defers := { target := .collected D, args := #[] } :: a.defers } W)
    (hstop : ∀ (D : Nat) (pre : List α) (W : World), w.heap.size ≤ D → Sp pre → Ir pre W → W.heap[D]? = some (.deferred (some [])) → Code.ret.wpIn F n P Q { a with defers := { target := .collected D, args := #[] } :: a.defers } W) :
    (Code.rangeFunc g ps assign body).wpIn F n P Q a w := by
  refine wpIn_rangeFunc fun fn hfn => ?_
  rw [hro]
  -- the two blocks of the loop: D for the rounds' deferred calls, D + 1 the record
  obtain ⟨D, hD⟩ : ∃ D, D = w.heap.size := ⟨_, rfl⟩
  obtain ⟨rec, hrec⟩ : ∃ rec : LoopState → Option Code → Loop, rec = recA fn a ps assign body D := ⟨_, rfl⟩
  obtain ⟨V, hV⟩ : ∃ V, V = (w.alloc (.deferred (some []))).alloc (.loop (rec .ready none)) := ⟨_, rfl⟩
  have zV : V.heap.size = D + 2 := by rw [hV, hD]; simp
  have vL : V.heap[D + 1]? = some (.loop (rec .ready none)) := by
    have h := World.alloc_heap_new (w.alloc (.deferred (some []))) (.loop (rec .ready none))
    rw [World.size_alloc] at h
    rw [hV, hD]; exact h
  have vD : V.heap[D]? = some (.deferred (some [])) := by
    rw [hV, hD]; exact (Below.heap_alloc _ _ _ (by simp)).trans (World.alloc_heap_new w _)
  have vI : I [] V := by rw [hV]; exact hI _ _ _ h0 (((Below.refl _ w).alloc (Nat.le_refl _) _).alloc (by simp) _)
  have vB : Below w0.heap.size w0 V := by
    rw [hV]; exact hb0.trans ((((Below.refl _ w).alloc (Nat.le_refl _) _).alloc (by simp) _).mono hb0.size)
  refine ⟨D + 1, [{ target := .collected D, args := #[] }], V, { target := .fn (.func gf) lb, args := #[.func (.yield (D + 1)) #[] #[]] }, V, gf, #[.func (.yield (D + 1)) #[] #[]] ++ lb, V, ?_, ?_, ?_, ?_, fun _ => h1, ?_⟩
  · rw [hV, hrec, hD]; exact run_enterLoop_outer _ _ _ _ _
  · simp only [resolve, hg]
    simp [go_sem]
  · intro f' hf'; simp [Target.leads] at hf'; subst hf'; exact hFg
  · simp [invoke, go_sem, eg]
  refine (hseq (D + 1) (fun pre W => I pre W ∧ W.heap[D + 1]? = some (.loop (rec .ready none)) ∧ W.heap[D]? = some (.deferred (some [])))
    (fun pre W => Ir pre W ∧ W.heap[D + 1]? = some (.loop (rec .done (some .ret))) ∧ W.heap[D]? = some (.deferred (some []))) V vB
    (fun s A B hs hB => ⟨hI s A B hs.1 (hB.mono (by omega)), (hB.block _ (by omega)).trans hs.2.1, (hB.block _ (by omega)).trans hs.2.2⟩)
    (fun s A B hs hB => ⟨hIr s A B hs.1 (hB.mono (by omega)), (hB.block _ (by omega)).trans hs.2.1, (hB.block _ (by omega)).trans hs.2.2⟩) ?_ ⟨vI, vL, vD⟩).mono ?_
  · rintro pre x W ⟨hi, hl, hd⟩ hlen
    have hlt : D + 1 < W.heap.size := (Array.getElem?_eq_some_iff.1 hl).1
    subst hrec
    refine oneA hfn hl (hps x) (A x W) (fun K hK => hassign _ x W K (by omega) hK) fun a₁ X hX hAX => ?_
    have kp : ∀ (X : World) (o : Obj), KeepsAll V.heap.size X (X.putObj (D + 1) o) := fun X o => keeps_put X o (by omega)
    obtain ⟨Wb, hWb⟩ : ∃ Wb, Wb = W.putObj (D + 1) (.loop (recA fn a ps assign body D .busy none)) := ⟨_, rfl⟩
    have bl : Wb.heap[D + 1]? = some (.loop (recA fn a ps assign body D .busy none)) := by rw [hWb]; exact World.putObj_heap_same hlt
    have bd : Wb.heap[D]? = some (.deferred (some [])) := by rw [hWb]; exact (World.putObj_heap_other (by omega)).trans hd
    have xl : X.heap[D + 1]? = some (.loop (recA fn a ps assign body D .ready none)) := (hX.block _ hlt).trans hl
    have kb : KeepsAll V.heap.size W Wb := by rw [hWb]; exact kp _ _
    have wb : Kp W Wb := by rw [hWb]; exact hKb _ _ _ (by omega) ⟨_, hl, rfl⟩
    have zb : Wb.heap.size = W.heap.size := by rw [hWb]; simp
    refine wpIn_mono (hbody (D + 1) pre x a₁ Wb _ (by omega) ⟨_, bl⟩ (by rw [hWb]; exact low_put hI hi (by omega) hl) (by rw [zb, hWb]; exact below_under _ hX hlt) (by rw [hWb]; exact hA x W a₁ X _ _ hAX hlt ⟨_, xl, rfl⟩) hlen) ?_
    intro e a3 W3 hp
    cases e with
    | normal =>
      obtain ⟨hk, hb, hi3⟩ := hp
      have l3 := hk.at (by omega) bl
      have d3 := hk.at (by omega) bd
      have lt3 : D + 1 < W3.heap.size := (Array.getElem?_eq_some_iff.1 l3).1
      refine ⟨l3, .inl ⟨rfl, ⟨low_put hI hi3 (by omega) l3, World.putObj_heap_same lt3, (World.putObj_heap_other (by omega)).trans d3⟩, ?_, (kb.trans (hk.mono (by omega))).trans (kp _ _)⟩⟩
      exact hKt (hKt wb hb) (hKb W3 _ _ (by omega) ⟨_, l3, rfl⟩)
    | ret =>
      obtain ⟨hk, hi3⟩ := hp
      have l3 := hk.at (by omega) bl
      have d3 := hk.at (by omega) bd
      have lt3 : D + 1 < W3.heap.size := (Array.getElem?_eq_some_iff.1 l3).1
      exact ⟨l3, .inr ⟨rfl, ⟨low_put hIr hi3 (by omega) l3, World.putObj_heap_same lt3, (World.putObj_heap_other (by omega)).trans d3⟩, (kb.trans (hk.mono (by omega))).trans (kp _ _)⟩⟩
    | exit id => exact hp.elim
    | goto t => exact hp.elim
    | panic c => exact hp.elim
    | outgrown => exact hp.elim
  · subst hrec
    rintro e W2 ⟨⟨v, rfl⟩, ⟨xs, hS, hi, hl, hd⟩ | ⟨pre, hSp, hi, hl, hd⟩⟩
    · exact ⟨none, _, run_endLoop hl (by simp), hdone D xs _ (by omega) hS (low_put hI hi (by omega) hl) ((World.putObj_heap_other (by omega)).trans hd)⟩
    · exact ⟨some .ret, _, run_endLoop hl (by simp), hstop D pre _ (by omega) hSp (low_put hIr hi (by omega) hl) ((World.putObj_heap_other (by omega)).trans hd)⟩
end Go.Proofs.Ytchikfegpoonjaa
