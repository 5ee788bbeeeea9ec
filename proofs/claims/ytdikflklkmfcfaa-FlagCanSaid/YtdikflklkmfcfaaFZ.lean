/-
  The reference's Hoist.
-/
import Derived.Test.YtdikflklkmfcfaaFQ
namespace Go.Proofs.Ytdikflklkmfcfaa
open Go.RowKit
set_option linter.unusedSimpArgs false
set_option linter.unusedVariables false

theorem okH_len {h : List Nat} {f : Nat} (e : okH (h ++ [f]) = true) : h.length ≤ 3 := by
  have := (vhB_iff.1 e).1.2
  simp at this; omega
theorem usl_le (l : List Nat) : (usl l).length ≤ l.length := by
  have key : ∀ (l : List Nat) (acc : List Nat), (l.foldl stepU acc).length ≤ acc.length + l.length := by
    intro l
    induction l with
    | nil => intro acc; simp
    | cons d l ih =>
      intro acc
      have h1 : (stepU acc d).length ≤ acc.length + 1 := by
        unfold stepU
        split
        · simp
        · split
          · simp
          · split
            · simp
            · split <;> simp
      have := ih (stepU acc d)
      simp only [List.foldl_cons, List.length_cons]
      omega
  have := key l []
  simpa [usl] using this
theorem lst_snoc (D : Nat → Int) (k : Nat) : lst D (k + 1) = lst D k ++ [(D k).toNat] := by simp [lst, List.range_succ]
theorem mn_at {l : List Nat} {j : Nat} (h : okH l = true) (hj : j < l.length) : gI (mnH l) j = ((mnH l).getD j 99 : Nat) := by
  have hl : (mnH l).length = l.length := dgs_len _ _
  unfold gI
  rw [List.getD_eq_getElem?_getD, List.getD_eq_getElem?_getD, List.getElem?_eq_getElem (by omega)]; rfl
theorem ap_news7 {W : World} {b : Nat} {u : Value} {t : TypeId} (h : W.heap[b]? = some (.cells #[u] t (0, 0))) : ∀ (j : Nat) (x : Value), [u][j]? = some x → W.cell? ((⟨b, 0, none⟩ : Addr).add j) = some x := World.news_of_block (cs := #[u]) h
theorem alloc2_new7 (W : World) (o1 o2 : Obj) : ((W.alloc o1).alloc o2).heap[W.heap.size + 1]? = some o2 := by
  have h := heap_alloc_new (W.alloc o1) o2
  rwa [World.size_alloc] at h
/-- The candidates. -/
def cnd (d j : Nat) : Nat := if j = 0 then d else 9 + j
/-- None of the first candidates fits. -/
def NoFit (h : List Nat) (d j : Nat) : Prop := ∀ i, i < j → fitU h d (cnd d i) = false
theorem NoFit.snocN {h : List Nat} {d j f : Nat} (a : NoFit h d j) (e : f = cnd d j) (b : fitU h d f = false) : NoFit h d (j + 1) := fun i hi => by
  by_cases e2 : i = j
  · subst e2; rw [← e]; exact b
  · exact a i (by omega)
theorem step_fit {h : List Nat} {d j : Nat} (hj : j < 4) (hno : ∀ i, i < j → fitU h d (cnd d i) = false) (hf : fitU h d (cnd d j) = true) : stepU h d = h ++ [cnd d j] := by
  unfold stepU
  rcases (show j = 0 ∨ j = 1 ∨ j = 2 ∨ j = 3 by omega) with rfl | rfl | rfl | rfl
  · rw [if_pos (show fitU h d d = true from hf)]; rfl
  · rw [if_neg (by rw [show fitU h d d = false from hno 0 (by omega)]; decide), if_pos (show fitU h d 10 = true from hf)]; rfl
  · rw [if_neg (by rw [show fitU h d d = false from hno 0 (by omega)]; decide), if_neg (by rw [show fitU h d 10 = false from hno 1 (by omega)]; decide), if_pos (show fitU h d 11 = true from hf)]; rfl
  · rw [if_neg (by rw [show fitU h d d = false from hno 0 (by omega)]; decide), if_neg (by rw [show fitU h d 10 = false from hno 1 (by omega)]; decide), if_neg (by rw [show fitU h d 11 = false from hno 2 (by omega)]; decide), if_pos (show fitU h d 12 = true from hf)]; rfl
theorem step_none {h : List Nat} {d : Nat} (hno : ∀ i, i < 4 → fitU h d (cnd d i) = false) : stepU h d = h := by
  unfold stepU
  rw [if_neg (by rw [show fitU h d d = false from hno 0 (by omega)]; decide), if_neg (by rw [show fitU h d 10 = false from hno 1 (by omega)]; decide), if_neg (by rw [show fitU h d 11 = false from hno 2 (by omega)]; decide), if_neg (by rw [show fitU h d 12 = false from hno 3 (by omega)]; decide)]
theorem step_ge (h : List Nat) (d : Nat) : h.length ≤ (stepU h d).length := by
  unfold stepU
  split
  · simp
  · split
    · simp
    · split
      · simp
      · split <;> simp
theorem usl_pos {D : Nat → Int} {k : Nat} (hk : 1 ≤ k) (h0 : 0 ≤ D 0 ∧ D 0 ≤ 9) : 1 ≤ (usl (lst D k)).length := by
  induction k with
  | zero => omega
  | succ k ih =>
    rw [lst_snoc, usl_snoc]
    by_cases e : k = 0
    · subst e
      obtain ⟨d, hd⟩ : ∃ d : Nat, D 0 = d := ⟨(D 0).toNat, by omega⟩
      have hd9 : d ≤ 9 := by omega
      rw [hd, Int.toNat_natCast, show usl (lst D 0) = [] from rfl]
      rcases (show d = 0 ∨ d = 1 ∨ d = 2 ∨ d = 3 ∨ d = 4 ∨ d = 5 ∨ d = 6 ∨ d = 7 ∨ d = 8 ∨ d = 9 by omega) with rfl | rfl | rfl | rfl | rfl | rfl | rfl | rfl | rfl | rfl <;> decide
    · exact Nat.le_trans (ih (by omega)) (step_ge _ _)