/-
  Package ledger: the days of an iterator over days and offs.
-/
import Derived.Test.YtbmenpfpeadckaaMB0
import Derived.Test.YtbmenpfpeadckaaMB2
import Derived.Maps.OwnIn
namespace Go.Proofs.Ytbmenpfpeadckaa
open Go.RowKit Go.Maps Go.Shelf
set_option linter.unusedSimpArgs false
set_option linter.unusedVariables false
attribute [local go_sem] Oper.semAt_some

def dayD (x : DO) : Int := x.1.1
set_option maxRecDepth 100000 in
set_option maxHeartbeats 8000000 in
theorem daysOf_any {lb : Array Value} {K : Nat → Prop} {S Sp : List DO → Prop} (w : World) (hK : ∀ k, K k → k < w.heap.size)
    (hseq : SeqO Fence.wide 4 Try.prog 101 lb encD (fun _ _ => False) (fun _ _ => True) (KpS K) S Sp 1001 w) :
    Calls Try.prog 61 #[.func (.func 101) #[] lb] w fun e w' => (∃ v xs, e = .returned v ∧ S xs ∧ w'.ownsRow w.heap.size 3 1 v xs.length (intL (xs.map dayD)) ∧ xs.length ≤ 1001) ∧ Bl w w' := by
  obtain ⟨i0, hi, hz0, hz1, hz2⟩ := info_parts6N int_infoN
  refine (callsIn_wide (n := 5)).1 ?_
  refine callsIn_of_wp_marks Try.func61 rfl trivial ?_ rfl
  simp only [Try.ntmps61, List.size_toArray, List.length_cons, List.length_nil, Nat.reduceAdd, Nat.reduceSub, Array.replicate_succ, Array.replicate_zero, List.push_toArray, List.append_toArray, List.nil_append, List.cons_append]
  gi_wp2
  obtain ⟨V, hV'⟩ : ∃ V, V = w.alloc (.cells #[.slice none 0 0] 24) := ⟨_, rfl⟩
  have zV : V.heap.size = w.heap.size + 1 := by rw [hV']; simp
  have BV : Bl w V := by rw [hV']; go_grown
  have v0 : V.cell? ⟨w.heap.size, 0, none⟩ = some (.slice none 0 0) := by rw [hV']; go_cell
  have g0 : V.frozen? ⟨w.heap.size, 0, none⟩ = false := by rw [hV']; (try simp only [frozen?_alloc_cells, World.frozen?_setCell]); first | assumption | exact fz_new (by (try simp only [World.size_alloc]); omega)
  rw [← hV']
  clear hV'
  have zw : w.heap.size ≤ V.heap.size := by omega
  refine loopO rfl (by omega) (gf := 101) (lb := lb) rfl trivial (enters_of Try.func101 (by kernel_rfl) rfl) hseq KpS.trans (fun W l o hl _ => KpS.put hK W l o (by omega)) BV (fun _ => rfl)
    (fun x X Y h hk => trivial)
    (fun pre O W' => ∃ v, W'.cell? ⟨w.heap.size, 0, none⟩ = some v ∧ W'.frozen? ⟨w.heap.size, 0, none⟩ = false ∧ W'.ownsRow (w.heap.size + 1) 3 1 v pre.length (intL (pre.map dayD)) ∧ (∀ g, v.ownBlock = some g → O g) ∧ pre.length ≤ 1001 ∧ Bl w W')
    (fun pre O W' => False)
    (fun s O X Y h hb hO => by
      obtain ⟨v, a1, a2, a3, a4, a6, a7⟩ := h
      exact ⟨v, (hb.cell (p := ⟨w.heap.size, 0, none⟩) (by show w.heap.size < _; omega)).trans a1, (hb.frozen (p := ⟨w.heap.size, 0, none⟩) (by show w.heap.size < _; omega)).trans a2, row_kept a3 (fun g e => hO g (a4 g e)), a4, a6, a7.trans (hb.mono zw)⟩)
    (fun s O X Y h hb hO => h)
    ⟨_, v0, g0, World.ownsRow_nil _ _ _ _, (fun g e => by cases e), Nat.zero_le _, BV⟩
    (fun x Wb a' X => a' = { tmps := #[.func (.func 101) #[] lb, undef, .slice none 0 0, .pointer (some ⟨w.heap.size, 0, none⟩), .int .i64 x.1.1, .func (.func 101) #[] lb, .int .i64 x.1.1, .int .i64 x.1.2, undef, undef, undef, undef, undef], defers := [] } ∧ X = Wb)
    ?hA ?assign ?body ?done ?stop
  case hA => rintro x Wb a' X k o ⟨rfl, rfl⟩ _ _; exact ⟨rfl, rfl⟩
  case assign =>
    intro k x Wb K hz hK
    unfold encD
    gi_wp2
    exact hK _ _ (Below.refl _ _) ⟨rfl, rfl⟩
  case body =>
    rintro k pre x O a' Wb X hk ⟨r, hr⟩ ⟨v, i0', i1, i2, i3, i5, i6⟩ hO hat hG hX ⟨rfl, rfl⟩ hlen
    have lx := ltb i0'
    have hp : pre.length < 1001 := by omega
    have nv : ∀ g, v.ownBlock = some g → w.heap.size + 1 ≤ g ∧ g < X.heap.size := fun g e => i2.lt g e
    have HO := Lib.hid hO
    have H6 := Lib.hid i6
    clear hat hO i6
    gi_wp2_with (gi_at_builtin; refine wpListIn_append_own_at _ rfl _ _ 24 rfl (w.heap.size + 1) 3 i0 (.int .i64 0) 1 8 Try.underlying24 hi hz0 hz1 hz2 rfl (by decide) v pre.length (intL (pre.map dayD)) rfl (i2.alloc _) ⟨X.heap.size, 0, none⟩ 1 1 [.int .i64 x.1.1] rfl rfl (cell_one_new _ _ _) (by simp [Value.oneCell']) (by unfold maxLen; omega) (by omega) (by (try simp only [World.size_alloc]); omega) ?_; intro v' w1 hown' hgrow _ hat'; obtain ⟨g', cap', rfl⟩ := ownsRow_succ hown'; have c1 := (hgrow.cell_far ⟨w.heap.size, 0, none⟩ (by (try simp only [World.size_alloc]); show w.heap.size < _; omega) (fun e => absurd (nv _ e.symm).1 (by show ¬ (w.heap.size + 1 ≤ w.heap.size); omega))).trans (show World.cell? _ _ = some v from cellUp i0'); have f1 := (hgrow.frozen_far ⟨w.heap.size, 0, none⟩ (by (try simp only [World.size_alloc]); show w.heap.size < _; omega) (fun e => absurd (nv _ e.symm).1 (by show ¬ (w.heap.size + 1 ≤ w.heap.size); omega))).trans (show World.frozen? _ _ = false from by (try simp only [frozen?_alloc_cells]); exact i1); have l1 := ltb c1)
    obtain ⟨v', hv'⟩ : ∃ v' : Value, v' = .slice (some ⟨g', 0, none⟩) (pre.length + 1) cap' := ⟨_, rfl⟩
    rw [← hv'] at hown' hat' ⊢
    clear hv'
    have HOWN := Lib.hid hown'
    obtain ⟨Y, hY⟩ : ∃ Y, Y = w1.setCell ⟨w.heap.size, 0, none⟩ v' := ⟨_, rfl⟩
    have y0 : Y.cell? ⟨w.heap.size, 0, none⟩ = some v' := by rw [hY]; go_cell
    have y1 : Y.frozen? ⟨w.heap.size, 0, none⟩ = false := by rw [hY]; (try simp only [World.frozen?_setCell]); exact f1
    have sY : ∀ g, g ≠ w.heap.size → Y.heap[g]? = w1.heap[g]? := fun g hg => by rw [hY]; exact Below.heap_setCell _ _ _ g (by show g ≠ w.heap.size; omega)
    have zY : Y.heap.size = w1.heap.size := by rw [hY]; simp
    have zg := hgrow.size
    rw [World.size_alloc] at zg
    have old : ∀ g, g < X.heap.size → some g ≠ v.ownBlock → w1.heap[g]? = X.heap[g]? := fun g hg hne => (hgrow.block g (by rw [World.size_alloc]; omega) hne).trans (heap_alloc_old _ _ hg)
    have bY : Bl w Y := by
      rw [hY]
      exact (Below.grown (H6.out.trans (show Below w.heap.size X (X.alloc _) from (Below.refl _ _).alloc (by omega) _)) hgrow (by rw [World.size_alloc]; omega) (fun j hj => by have := (nv j hj).1; omega)).setCell (p := ⟨w.heap.size, 0, none⟩) (Nat.le_refl _) _
    have nvb : ∀ g, v'.ownBlock = some g → (v.ownBlock = some g ∨ X.heap.size ≤ g) ∧ w.heap.size + 1 ≤ g ∧ g < w1.heap.size := fun g e => by
      have h1 := HOWN.out.lt g e
      refine ⟨?_, h1⟩
      rcases hat' with h | h
      · left; rw [← h]; exact e
      · right; rw [h] at e; (try rw [World.size_alloc] at e); have e : X.heap.size + 1 = g := by simpa using e
        omega
    rw [← hY]
    clear hY
    refine ⟨fun k => O k ∨ v'.ownBlock = some k, fun k hk => ⟨?_, ?_⟩, ⟨by omega, fun k h1 h2 h3 => ?_⟩, ⟨by omega, fun k h1 => ?_⟩, v', y0, y1, ?_, (fun g e => .inr e), ?_, bY⟩
    · rcases hk with h | h
      · exact .inl h
      · rcases (nvb k h).1 with h' | h'
        · exact .inl (i3 k h')
        · exact .inr (.inr h')
    · rw [zY]
      rcases hk with h | h
      · have := (HO.out k h).2; omega
      · exact (nvb k h).2.2
    · exact (sY k (by omega)).trans (old k h2 (fun e => h3 (.inl (i3 k e.symm))))
    · have := hK k h1
      exact (sY k (by omega)).trans (old k (by omega) (fun e => by have := (nv k e.symm).1; omega))
    · rw [List.length_append, List.length_singleton, List.map_append, List.map_singleton, intL_snoc]
      exact row_kept HOWN.out (fun g e => sY g (by have := (nvb g e).2.1; omega))
    · rw [List.length_append, List.length_singleton]; omega
  case done =>
    rintro Db xs O W' hD hnO hO hS ⟨v, a1, a2, a3, a4, a6, a7⟩ hd
    have lx := ltb a1
    have PB : Below Db W' (W'.putObj Db (.deferred none)) := below_put W' _ (Nat.le_refl _) (by have := (Array.getElem?_eq_some_iff.1 hd).1; omega)
    have HOW := Lib.hid (show (W'.putObj Db (.deferred none)).ownsRow w.heap.size 3 1 v xs.length (intL (xs.map dayD)) from
      own_mono (row_kept a3 (fun g e => World.putObj_heap_other (fun e2 => hnO (e2 ▸ a4 g e)))) (by omega))
    have B7 := Lib.hid (a7.trans (PB.mono (by omega)))
    clear a2 a3 a4 a7
    gi_wp2
    refine ⟨by simp, .inl ⟨_, _, rfl, run_takeDeferred hd, ?_⟩⟩
    exact ⟨_, results_tmp rfl _ _ _, ⟨v, xs, rfl, hS, HOW.out, a6⟩, B7.out⟩
  case stop =>
    rintro Db pre O W' hD hnO hO hS h hd
    exact h.elim
end Go.Proofs.Ytbmenpfpeadckaa
