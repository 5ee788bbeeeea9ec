/-
  Ranges over iterators that hand over new memory and keep variables of their own: the caller of the rounds owns blocks (those that it was handed, and those that it makes), the iterator all others; the loop over such an iterator.
-/
import Derived.Test.YtchikfegpoonjaaSR
namespace Go.Proofs.Ytchikfegpoonjaa
open Go Go.RowKit
set_option linter.unusedSimpArgs false
set_option linter.unusedVariables false

variable {F : Fence} {n m : Nat} {P : Program}

/-- Every block from B on that is not of O lies as it lay. -/
structure KeepsBut (B : Nat) (O : Nat → Prop) (W W' : World) : Prop where
  size : W.heap.size ≤ W'.heap.size
  same : ∀ k, B ≤ k → k < W.heap.size → ¬ O k → W'.heap[k]? = W.heap[k]?
theorem KeepsBut.refl (B : Nat) (O : Nat → Prop) (W : World) : KeepsBut B O W W := ⟨Nat.le_refl _, fun _ _ _ _ => rfl⟩
theorem KeepsBut.trans {B : Nat} {O : Nat → Prop} {X Y Z : World} (h : KeepsBut B O X Y) (k : KeepsBut B O Y Z) : KeepsBut B O X Z :=
  ⟨Nat.le_trans h.size k.size, fun i hi hx ho => (k.same i hi (Nat.lt_of_lt_of_le hx h.size) ho).trans (h.same i hi hx ho)⟩
theorem KeepsBut.mono {A B : Nat} {O O' : Nat → Prop} {X Y : World} (h : KeepsBut A O X Y) (hAB : A ≤ B) (hO : ∀ k, B ≤ k → k < X.heap.size → O k → O' k) : KeepsBut B O' X Y :=
  ⟨h.size, fun k hk h1 ho => h.same k (Nat.le_trans hAB hk) h1 (fun hk' => ho (hO k hk h1 hk'))⟩
theorem KeepsBut.at {B k : Nat} {O : Nat → Prop} {o : Obj} {X Y : World} (h : KeepsBut B O X Y) (hk : B ≤ k) (hO : ¬ O k) (ho : X.heap[k]? = some o) : Y.heap[k]? = some o := (h.same k hk (Array.getElem?_eq_some_iff.1 ho).1 hO).trans ho
theorem KeepsBut.cell {B : Nat} {O : Nat → Prop} {X Y : World} {b o : Nat} {v : Value} (h : KeepsBut B O X Y) (hb : B ≤ b) (hO : ¬ O b) (hc : X.cell? ⟨b, o, none⟩ = some v) : Y.cell? ⟨b, o, none⟩ = some v :=
  (World.cell?_of_block (h.same b hb (World.block_lt_of_cell? X ⟨b, o, none⟩ hc) hO)).trans hc
theorem below_keepsBut {X Y : World} (h : Below X.heap.size X Y) (B : Nat) (O : Nat → Prop) : KeepsBut B O X Y := ⟨h.size, fun k _ hk _ => h.block k hk⟩
theorem keepsBut_put {B l : Nat} {O : Nat → Prop} (W : World) (o : Obj) (h : l < B) : KeepsBut B O W (W.putObj l o) :=
  ⟨by simp, fun k hk _ _ => World.putObj_heap_other (by omega)⟩

/-- It speaks of what lies below B and of the blocks O alone. -/
def OwnLow {α : Type} (B : Nat) (J : List α → (Nat → Prop) → World → Prop) : Prop := ∀ s O X Y, J s O X → Below B X Y → (∀ k, O k → Y.heap[k]? = X.heap[k]?) → J s O Y
theorem ownLow_put {α : Type} {B l : Nat} {J : List α → (Nat → Prop) → World → Prop} (h : OwnLow B J) {s : List α} {O : Nat → Prop} {X : World} {o o' : Obj} (hs : J s O X) (hl : B ≤ l) (hO : ¬ O l) (ho : X.heap[l]? = some o') : J s O (X.putObj l o) :=
  h s O _ _ hs (below_put X o hl (by have := (Array.getElem?_eq_some_iff.1 ho).1; omega)) (fun k hk => World.putObj_heap_other (fun e => hO (e ▸ hk)))
/-- What an iterator does that hands over new blocks: Gv says which, At what lies in them. -/
def SeqO {α : Type} (F : Fence) (n : Nat) (P : Program) (g : Nat) (lb : Array Value) (encs : α → Array Value) (Gv : α → Nat → Prop) (At : α → World → Prop) (Kp : World → World → Prop) (S Sp : List α → Prop) (N : Nat) (w : World) : Prop :=
  ∀ (l : Nat) (J Jx : List α → (Nat → Prop) → World → Prop) (W : World), Below w.heap.size w W → OwnLow W.heap.size J → OwnLow W.heap.size Jx →
    (∀ s O X, J s O X → ∀ k, O k → W.heap.size ≤ k ∧ k < X.heap.size) →
    (∀ s O X, Jx s O X → ∀ k, O k → W.heap.size ≤ k ∧ k < X.heap.size) →
    (∀ pre x O W1, J pre O W1 → At x W1 → (∀ k, Gv x k → W.heap.size ≤ k ∧ k < W1.heap.size ∧ ¬ O k) → pre.length < N → YieldAt F (n - 1) P l (encs x) W1 fun e W' =>
      ∃ O', (∀ k, O' k → O k ∨ Gv x k ∨ W1.heap.size ≤ k) ∧ KeepsBut W.heap.size (fun k => O k ∨ Gv x k) W1 W' ∧
        ((e = .returned (.bool true) ∧ J (pre ++ [x]) O' W' ∧ Kp W1 W') ∨ (e = .returned (.bool false) ∧ Jx (pre ++ [x]) O' W'))) →
    J [] (fun _ => False) W →
    CallsIn F n P g (#[.func (.yield l) #[] #[]] ++ lb) W fun e W' => (∃ v, e = .returned v) ∧ ((∃ xs O, S xs ∧ J xs O W') ∨ (∃ pre O, Sp pre ∧ Jx pre O W'))

/-- How a round's body may be left: Wb is the world in which the round began. -/
def postO {α : Type} (B : Nat) (Gv : α → Nat → Prop) (Kp : World → World → Prop) (I Ir : List α → (Nat → Prop) → World → Prop) (pre : List α) (x : α) (O : Nat → Prop) (Wb : World) : Exit → Act → World → Prop
  | .normal, _, W' => ∃ O', (∀ k, O' k → (O k ∨ Gv x k ∨ Wb.heap.size ≤ k) ∧ k < W'.heap.size) ∧ KeepsBut B (fun k => O k ∨ Gv x k) Wb W' ∧ Kp Wb W' ∧ I (pre ++ [x]) O' W'
  | .ret, _, W' => ∃ O', (∀ k, O' k → (O k ∨ Gv x k ∨ Wb.heap.size ≤ k) ∧ k < W'.heap.size) ∧ KeepsBut B (fun k => O k ∨ Gv x k) Wb W' ∧ Ir (pre ++ [x]) O' W'
  | _, _, _ => False

/-- The loop over such an iterator, outside of a round. -/
theorem loopO {α : Type} {g : Operand} {ps : Array Tmp} {assign body : Code} {Q : Exit → Act → World → Prop} {a : Act} {w : World}
    (hro : F.round = none) (h1 : 1 ≤ n) {gf : Nat} {lb : Array Value} (hg : a.eval g = .func (.func gf) #[] lb) (hFg : F.fn gf) (eg : ∀ args w, (callFunc gf args).run P w = .ok (.enter gf args) w)
    {encs : α → Array Value} {Gv : α → Nat → Prop} {At : α → World → Prop} {Kp : World → World → Prop} {S Sp : List α → Prop} {N : Nat} {w0 : World} (hseq : SeqO F (n - 1) P gf lb encs Gv At Kp S Sp N w0)
    (hKt : ∀ {A B C : World}, Kp A B → Kp B C → Kp A C) (hKb : ∀ (W : World) (l : Nat) (o : Obj), w.heap.size ≤ l → (∃ o', W.heap[l]? = some o' ∧ o'.isCells = false) → Kp W (W.putObj l o)) (hb0 : Below w0.heap.size w0 w) (hps : ∀ x, (encs x).size = ps.size)
    (hAt : ∀ x X Y, At x X → (∀ k, Gv x k → Y.heap[k]? = X.heap[k]?) → At x Y)
    (I Ir : List α → (Nat → Prop) → World → Prop) (hI : OwnLow w.heap.size I) (hIr : OwnLow w.heap.size Ir) (h0 : I [] (fun _ => False) w)
    (A : α → World → Act → World → Prop) (hA : ∀ x W a' X l o, A x W a' X → l < W.heap.size → (∃ o', X.heap[l]? = some o' ∧ o'.isCells = false) → A x (W.putObj l o) a' (X.putObj l o))
    (hassign : ∀ (l : Nat) (x : α) (W : World) (K : Act → World → Prop), w.heap.size < W.heap.size → (∀ a' X, Below W.heap.size W X → A x W a' X → K a' X) →
      assign.wpIn (F.inRound l) (n - 1 - 1) P (Exit.then K fun _ _ _ => False) { tmps := (ps.zip (encs x)).foldl (fun t (p, v) => t.setIfInBounds p v) a.tmps, defers := [] } W)
    (hbody : ∀ (l : Nat) (pre : List α) (x : α) (O : Nat → Prop) (a' : Act) (Wb X : World), w.heap.size ≤ l → (∃ r, Wb.heap[l]? = some (.loop r)) → I pre O Wb → (∀ k, O k → w.heap.size ≤ k ∧ k < Wb.heap.size) → At x Wb → (∀ k, Gv x k → w.heap.size ≤ k ∧ k < Wb.heap.size ∧ ¬ O k) → Below Wb.heap.size Wb X → A x Wb a' X → pre.length < N →
      body.wpIn (F.inRound l) (n - 1 - 1) P (postO w.heap.size Gv Kp I Ir pre x O Wb) a' X)
    (hdone : ∀ (D : Nat) (xs : List α) (O : Nat → Prop) (W : World), w.heap.size ≤ D → ¬ O D → (∀ k, O k → w.heap.size ≤ k ∧ k < W.heap.size) → S xs → I xs O W → W.heap[D]? = some (.deferred (some [])) → Q .normal { a with defers := { target := .collected D, args := #[] } :: a.defers } W)
    (hstop : ∀ (D : Nat) (pre : List α) (O : Nat → Prop) (W : World), w.heap.size ≤ D → ¬ O D → (∀ k, O k → w.heap.size ≤ k ∧ k < W.heap.size) → Sp pre → Ir pre O W → W.heap[D]? = some (.deferred (some [])) → Code.ret.wpIn F n P Q { a with defers := { target := .collected D, args := #[] } :: a.defers } W) :
    (Code.rangeFunc g ps assign body).wpIn F n P Q a w := by
  refine wpIn_rangeFunc fun fn hfn => ?_
  rw [hro]
  -- the two blocks of the loop: D for the rounds' deferred calls, D + 1 the record
  obtain ⟨D, hD⟩ : ∃ D, D = w.heap.size := ⟨_, rfl⟩
  obtain ⟨rec, hrec⟩ : ∃ rec : LoopState → Option Code → Loop, rec = recA fn a ps assign body D := ⟨_, rfl⟩
  obtain ⟨V, hV⟩ : ∃ V, V = (w.alloc (.deferred (some []))).alloc (.loop (rec .ready none)) := ⟨_, rfl⟩
  have zV : V.heap.size = D + 2 := by rw [hV, hD]; simp
  have vL : V.heap[D + 1]? = some (.loop (rec .ready none)) := by
    have h := World.alloc_heap_new (w.alloc (.deferred (some []))) (.loop (rec .ready none))
    rw [World.size_alloc] at h
    rw [hV, hD]; exact h
  have vD : V.heap[D]? = some (.deferred (some [])) := by
    rw [hV, hD]; exact (Below.heap_alloc _ _ _ (by simp)).trans (World.alloc_heap_new w _)
  have vI : I [] (fun _ => False) V := by rw [hV]; exact hI _ _ _ _ h0 (((Below.refl _ w).alloc (Nat.le_refl _) _).alloc (by simp) _) (fun _ h => h.elim)
  have vB : Below w0.heap.size w0 V := by
    rw [hV]; exact hb0.trans ((((Below.refl _ w).alloc (Nat.le_refl _) _).alloc (by simp) _).mono hb0.size)
  refine ⟨D + 1, [{ target := .collected D, args := #[] }], V, { target := .fn (.func gf) lb, args := #[.func (.yield (D + 1)) #[] #[]] }, V, gf, #[.func (.yield (D + 1)) #[] #[]] ++ lb, V, ?_, ?_, ?_, ?_, fun _ => h1, ?_⟩
  · rw [hV, hrec, hD]; exact run_enterLoop_outer _ _ _ _ _
  · simp only [resolve, hg]
    simp [go_sem]
  · intro f' hf'; simp [Target.leads] at hf'; subst hf'; exact hFg
  · simp [invoke, go_sem, eg]
  refine (hseq (D + 1) (fun pre O W => I pre O W ∧ W.heap[D + 1]? = some (.loop (rec .ready none)) ∧ W.heap[D]? = some (.deferred (some [])) ∧ ∀ k, O k → V.heap.size ≤ k ∧ k < W.heap.size)
    (fun pre O W => Ir pre O W ∧ W.heap[D + 1]? = some (.loop (rec .done (some .ret))) ∧ W.heap[D]? = some (.deferred (some [])) ∧ ∀ k, O k → V.heap.size ≤ k ∧ k < W.heap.size) V vB
    (fun s O A B hs hB hO => ⟨hI s O A B hs.1 (hB.mono (by omega)) hO, (hB.block _ (by omega)).trans hs.2.1, (hB.block _ (by omega)).trans hs.2.2.1, fun k hk => ⟨(hs.2.2.2 k hk).1, Nat.lt_of_lt_of_le (hs.2.2.2 k hk).2 hB.size⟩⟩)
    (fun s O A B hs hB hO => ⟨hIr s O A B hs.1 (hB.mono (by omega)) hO, (hB.block _ (by omega)).trans hs.2.1, (hB.block _ (by omega)).trans hs.2.2.1, fun k hk => ⟨(hs.2.2.2 k hk).1, Nat.lt_of_lt_of_le (hs.2.2.2 k hk).2 hB.size⟩⟩)
    (fun s O X h => h.2.2.2) (fun s O X h => h.2.2.2) ?_ ⟨vI, vL, vD, fun _ h => h.elim⟩).mono ?_
  · rintro pre x O W ⟨hi, hl, hd, hO⟩ hat hG hlen
    have hlt : D + 1 < W.heap.size := (Array.getElem?_eq_some_iff.1 hl).1
    subst hrec
    refine oneA hfn hl (hps x) (A x W) (fun K hK => hassign _ x W K (by omega) hK) fun a₁ X hX hAX => ?_
    obtain ⟨Wb, hWb⟩ : ∃ Wb, Wb = W.putObj (D + 1) (.loop (recA fn a ps assign body D .busy none)) := ⟨_, rfl⟩
    have bl : Wb.heap[D + 1]? = some (.loop (recA fn a ps assign body D .busy none)) := by rw [hWb]; exact World.putObj_heap_same hlt
    have bd : Wb.heap[D]? = some (.deferred (some [])) := by rw [hWb]; exact (World.putObj_heap_other (by omega)).trans hd
    have xl : X.heap[D + 1]? = some (.loop (recA fn a ps assign body D .ready none)) := (hX.block _ hlt).trans hl
    have oD : ∀ k, O k ∨ Gv x k → V.heap.size ≤ k := fun k hk => by rcases hk with hk | hk; exact (hO k hk).1; exact (hG k hk).1
    have nD : ¬ (O D ∨ Gv x D) := fun h => by have := oD _ h; omega
    have nL : ¬ (O (D + 1) ∨ Gv x (D + 1)) := fun h => by have := oD _ h; omega
    have kb : KeepsBut V.heap.size (fun k => O k ∨ Gv x k) W Wb := by rw [hWb]; exact keepsBut_put _ _ (by omega)
    have wb : Kp W Wb := by rw [hWb]; exact hKb _ _ _ (by omega) ⟨_, hl, rfl⟩
    have zb : Wb.heap.size = W.heap.size := by rw [hWb]; simp
    refine wpIn_mono (hbody (D + 1) pre x O a₁ Wb _ (by omega) ⟨_, bl⟩ (by rw [hWb]; exact ownLow_put hI hi (by omega) (fun h => nL (.inl h)) hl) (fun k hk => ⟨by have := (hO k hk).1; omega, by rw [zb]; exact (hO k hk).2⟩)
      (hAt x W Wb hat fun k hk => by rw [hWb]; exact World.putObj_heap_other (fun e => nL (.inr (e ▸ hk)))) (fun k hk => ⟨by have := (hG k hk).1; omega, by rw [zb]; exact (hG k hk).2.1, (hG k hk).2.2⟩)
      (by rw [zb, hWb]; exact below_under _ hX hlt) (by rw [hWb]; exact hA x W a₁ X _ _ hAX hlt ⟨_, xl, rfl⟩) hlen) ?_
    intro e a3 W3 hp
    cases e with
    | normal =>
      obtain ⟨O', hO', hk, hb, hi3⟩ := hp
      have l3 := hk.at (by omega) nL bl
      have d3 := hk.at (by omega) nD bd
      have lt3 : D + 1 < W3.heap.size := (Array.getElem?_eq_some_iff.1 l3).1
      have up : ∀ k, O' k → V.heap.size ≤ k ∧ k < W3.heap.size := fun k hk' => ⟨by rcases (hO' k hk').1 with h | h | h; exact oD _ (.inl h); exact oD _ (.inr h); omega, (hO' k hk').2⟩
      have no : ¬ O' (D + 1) := fun h => by have := (up _ h).1; omega
      refine ⟨l3, O', fun k hk' => by have := (hO' k hk').1; rwa [zb] at this, (kb.trans (hk.mono (by omega) (fun _ _ _ h => h))).trans (keepsBut_put _ _ (by omega)), .inl ⟨rfl, ⟨ownLow_put hI hi3 (by omega) no l3, World.putObj_heap_same lt3, (World.putObj_heap_other (by omega)).trans d3, fun k hk' => by rw [World.putObj_size]; exact up k hk'⟩, ?_⟩⟩
      exact hKt (hKt wb hb) (hKb W3 _ _ (by omega) ⟨_, l3, rfl⟩)
    | ret =>
      obtain ⟨O', hO', hk, hi3⟩ := hp
      have l3 := hk.at (by omega) nL bl
      have d3 := hk.at (by omega) nD bd
      have lt3 : D + 1 < W3.heap.size := (Array.getElem?_eq_some_iff.1 l3).1
      have up : ∀ k, O' k → V.heap.size ≤ k ∧ k < W3.heap.size := fun k hk' => ⟨by rcases (hO' k hk').1 with h | h | h; exact oD _ (.inl h); exact oD _ (.inr h); omega, (hO' k hk').2⟩
      have no : ¬ O' (D + 1) := fun h => by have := (up _ h).1; omega
      exact ⟨l3, O', fun k hk' => by have := (hO' k hk').1; rwa [zb] at this, (kb.trans (hk.mono (by omega) (fun _ _ _ h => h))).trans (keepsBut_put _ _ (by omega)), .inr ⟨rfl, ⟨ownLow_put hIr hi3 (by omega) no l3, World.putObj_heap_same lt3, (World.putObj_heap_other (by omega)).trans d3, fun k hk' => by rw [World.putObj_size]; exact up k hk'⟩⟩⟩
    | exit id => exact hp.elim
    | goto t => exact hp.elim
    | panic c => exact hp.elim
    | outgrown => exact hp.elim
  · subst hrec
    rintro e W2 ⟨⟨v, rfl⟩, ⟨xs, O, hS, hi, hl, hd, hO⟩ | ⟨pre, O, hSp, hi, hl, hd, hO⟩⟩
    · have no : ¬ O (D + 1) := fun h => by have := (hO _ h).1; omega
      exact ⟨none, _, run_endLoop hl (by simp), hdone D xs O _ (by omega) (fun h => by have := (hO _ h).1; omega) (fun k hk => by rw [World.putObj_size]; exact ⟨by have := (hO k hk).1; omega, (hO k hk).2⟩) hS (ownLow_put hI hi (by omega) no hl) ((World.putObj_heap_other (by omega)).trans hd)⟩
    · have no : ¬ O (D + 1) := fun h => by have := (hO _ h).1; omega
      exact ⟨some .ret, _, run_endLoop hl (by simp), hstop D pre O _ (by omega) (fun h => by have := (hO _ h).1; omega) (fun k hk => by rw [World.putObj_size]; exact ⟨by have := (hO k hk).1; omega, (hO k hk).2⟩) hSp (ownLow_put hIr hi (by omega) no hl) ((World.putObj_heap_other (by omega)).trans hd)⟩
end Go.Proofs.Ytchikfegpoonjaa
