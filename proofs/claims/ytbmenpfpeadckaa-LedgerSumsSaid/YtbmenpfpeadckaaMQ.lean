/-
  Package ledger: the offs of a stretch of days.
-/
import Derived.Test.YtbmenpfpeadckaaMB3
import Derived.Test.YtbmenpfpeadckaaME
import Derived.Maps.OwnIn
namespace Go.Proofs.Ytbmenpfpeadckaa
open Go.RowKit Go.Maps Go.Shelf
set_option linter.unusedSimpArgs false
set_option linter.unusedVariables false

attribute [local go_sem] Oper.semAt_some

def offD (x : DO) : Int := x.1.2
def offF (L : Nat → En) (n : Nat) (fa fb : Int) : List Int := (oL (vL L n) (mbetweenP fa fb) (dysOf L n)).map offD
set_option maxRecDepth 100000 in
set_option maxHeartbeats 12800000 in
theorem offsOf_yes (A : Option Addr) (n c : Nat) (L : Nat → En) (fa fb : Int) (w : World) (hA : El w A n L) (hn : n ≤ maxLen) (hv : vlB L n = true) (ha : dayB fa = true) (hb : dayB fb = true) (hab : ¬ fb < fa) :
    Calls Try.prog 56 #[.slice A n c, .int .i64 fa, .int .i64 fb] w (IntPost 0 (offF L n fa fb) w) := by
  obtain ⟨i0, hi, hz0, hz1, hz2⟩ := info_parts6N int_infoN
  have HR := Lib.hid (fun (X : World) (hb : Bl w X) => recordOf_any A n c L X (hA.below hb) hn)
  have HDA := Lib.hid ha
  have HDB := Lib.hid hb
  clear hA hn ha hb
  obtain ⟨p, hp⟩ : ∃ p, p = w.heap.size := ⟨_, rfl⟩
  have HP := Lib.hid hp
  have HV := Lib.hid hv
  clear hv
  have hpp1 : p ≤ w.heap.size := by omega
  have hpp2 : w.heap.size ≤ p := by omega
  clear hp
  refine (callsIn_wide (n := 5)).1 ?_
  refine callsIn_of_wp_marks Try.func56 rfl trivial ?_ rfl
  simp only [Try.ntmps56, List.size_toArray, List.length_cons, List.length_nil, Nat.reduceAdd, Nat.reduceSub, Array.replicate_succ, Array.replicate_zero, List.push_toArray, List.append_toArray, List.nil_append, List.cons_append]
  gi_wp2_with fail
  obtain ⟨w0, hw0⟩ : ∃ w0, w0 = (w.alloc (.cells #[.int .i64 fa] 3)).alloc (.cells #[.int .i64 fb] 3) := ⟨_, rfl⟩
  have z0 : p + 2 ≤ w0.heap.size := by rw [hw0, HP.out]; simp
  have x0 : w0.cell? ⟨p, 0, none⟩ = some (.int .i64 fa) := by rw [hw0, HP.out]; go_cell
  have x1 : w0.cell? ⟨p + 1, 0, none⟩ = some (.int .i64 fb) := by rw [hw0, HP.out]; go_cell
  have B0 := Lib.hid (show Bl w w0 by rw [hw0]; go_grown)
  rw [← HP.out, ← hw0]
  clear hw0
  refine ⟨trivial, ?_⟩
  gi_at_call 60
  refine (callsIn_wide.2 (HR.out _ B0.out)).mono ?_
  rintro e1 w1 ⟨hb, ⟨h0, _⟩ | ⟨-, B, rfl, hB, hR⟩⟩
  · rw [HV.out] at h0; cases h0
  · have B1 := Lib.hid (B0.out.tr hb)
    have RR := Lib.hid hR
    have z1 := hb.size
    have lB := hR.lt
    have x0 := kcb hb x0
    have x1 := kcb hb x1
    clear hb hR
    gi_wp2_with fail
    refine ⟨trivial, ?_⟩
    gi_at_call 64
    refine (callsIn_wide.2 (isDay_any fa _)).mono ?_
    rintro e4 w4 ⟨rfl, rfl⟩
    rw [HDA.out]
    gi_wp2_with fail
    refine ⟨trivial, ?_⟩
    gi_at_call 64
    refine (callsIn_wide.2 (isDay_any fb _)).mono ?_
    rintro e5 w5 ⟨rfl, rfl⟩
    rw [HDB.out]
    gi_wp2_with fail
    obtain ⟨b, hb⟩ : ∃ b, b = w1.heap.size := ⟨_, rfl⟩
    obtain ⟨w2, hw2⟩ : ∃ w2, w2 = w1.alloc (.cells #[.slice none 0 0] 24) := ⟨_, rfl⟩
    have z2 : w2.heap.size = b + 1 := by rw [hw2, hb]; simp
    have c6 : w2.cell? ⟨b, 0, none⟩ = some (.slice none 0 0) := by rw [hw2, hb]; go_cell
    have f6 : w2.frozen? ⟨b, 0, none⟩ = false := by rw [hw2, hb]; (try simp only [frozen?_alloc_cells, World.frozen?_setCell]); first | assumption | exact fz_new (by (try simp only [World.size_alloc]); omega)
    have B12 := Lib.hid (show Bl w1 w2 by rw [hw2]; go_grown)
    have B2 := Lib.hid (B1.out.tr B12.out)
    have R2 := Lib.hid (RR.out.below B12.out)
    have x0 := kcb B12.out x0
    have x1 := kcb B12.out x1
    rw [← hb, ← hw2]
    have hb1 : b ≤ w1.heap.size := by omega
    have hb2 : w1.heap.size ≤ b := by omega
    obtain ⟨t, ht⟩ : ∃ t, t = w2.heap.size := ⟨_, rfl⟩
    have t1 : t ≤ w2.heap.size := by omega
    have t2 : w2.heap.size ≤ t := by omega
    have t3 : b + 1 ≤ t := by omega
    have t4 : t ≤ b + 1 := by omega
    have HTT := Lib.hid ht
    clear hw2 hb z2 ht
    refine ⟨trivial, ?_⟩
    gi_at_call 62
    refine (callsIn_wide.2 (offsR_any B 95 #[.pointer (some ⟨p, 0, none⟩), .pointer (some ⟨p + 1, 0, none⟩)] _)).mono ?_
    rintro e3 w3 ⟨rfl, ⟨h1, h2⟩, hb3⟩
    rw [← HTT.out] at h1 h2 ⊢
    have B3 := Lib.hid (B2.out.tr hb3)
    have z3 := hb3.size
    have R3 := Lib.hid (R2.out.below hb3)
    have l1 := ltb h1
    have l2 := ltb h2
    have x0 := kcb hb3 x0
    have x1 := kcb hb3 x1
    have HSQ := Lib.hid (offs3_seq t (t + 1) B n p (p + 1) fa fb L w3 HV.out h1 h2 R3.out x0 x1)
    have HKK := Lib.hid (show ∀ k, (k = t ∨ k = t + 1 ∨ k = B ∨ k = p ∨ k = p + 1) → k < w3.heap.size by
      rintro k (rfl | rfl | rfl | rfl | rfl) <;> omega)
    have HKB := Lib.hid (show ∀ k, (k = t ∨ k = t + 1 ∨ k = B ∨ k = p ∨ k = p + 1) → k ≠ b by
      rintro k (rfl | rfl | rfl | rfl | rfl) <;> omega)
    have v0 := kcb hb3 c6
    have g0 := (hb3.frozen (p := ⟨b, 0, none⟩) (by show b < _; omega)).trans f6
    clear hb3 c6 f6
    obtain ⟨Z, hZ⟩ : ∃ Z, Z = w3.heap.size := ⟨_, rfl⟩
    have zz1 : Z ≤ w3.heap.size := by omega
    have zz2 : w3.heap.size ≤ Z := by omega
    clear hZ
    gi_wp2_with fail
    have zw : w.heap.size ≤ w3.heap.size := by omega
    refine loopO rfl (by omega) (gf := 101) (lb := #[.pointer (some ⟨t, 0, none⟩), .pointer (some ⟨t + 1, 0, none⟩)]) rfl trivial (enters_of Try.func101 (by kernel_rfl) rfl) HSQ.out KpS.trans (fun W l o hl _ => KpS.put HKK.out W l o (by omega)) (Bl.rf _) (fun _ => rfl)
      (fun x X Y h hk => trivial)
      (fun pre O W' => ∃ v, W'.cell? ⟨b, 0, none⟩ = some v ∧ W'.frozen? ⟨b, 0, none⟩ = false ∧ W'.ownsRow Z 3 1 v pre.length (intL (pre.map offD)) ∧ (∀ g, v.ownBlock = some g → O g) ∧ pre.length ≤ 1001 ∧ Bl w W')
      (fun pre O W' => False)
      (fun s O X Y h hb hO => by
        obtain ⟨v, a1, a2, a3, a4, a6, a7⟩ := h
        exact ⟨v, (hb.cell (p := ⟨b, 0, none⟩) (by show b < _; omega)).trans a1, (hb.frozen (p := ⟨b, 0, none⟩) (by show b < _; omega)).trans a2, row_kept a3 (fun g e => hO g (a4 g e)), a4, a6, a7.trans (hb.mono zw)⟩)
      (fun s O X Y h hb hO => h)
      ⟨_, v0, g0, World.ownsRow_nil _ _ _ _, (fun g e => by cases e), Nat.zero_le _, B3.out⟩
      (fun x Wb a' X => a' = { tmps := #[.slice A n c, .int .i64 fa, .int .i64 fb, undef, .pointer (some ⟨p, 0, none⟩), .pointer (some ⟨p + 1, 0, none⟩), .slice none 0 0, .int .i64 0, .map (some B), .int .i64 0, .pointer (some ⟨b, 0, none⟩), undef, .int .i64 x.1.2, .tuple #[.map (some B), .int .i64 0], .slice A n c, .tuple #[.map (some B), .int .i64 0], .map (some B), .int .i64 0, .int .i64 0, .bool false, undef, .int .i64 fa, .bool true, .bool false, .bool false, .int .i64 fb, .bool true, .bool false, .bool false, .bool false, .int .i64 fa, .int .i64 fb, .bool (decide (fb < fa)), .bool (decide (fb < fa)), .map (some B), .func (.func 95) #[] #[.pointer (some ⟨p, 0, none⟩), .pointer (some ⟨p + 1, 0, none⟩)], .func (.func 101) #[] #[.pointer (some ⟨t, 0, none⟩), .pointer (some ⟨t + 1, 0, none⟩)], .int .i64 x.1.1, .int .i64 x.1.2, undef, undef, undef, undef, undef], defers := [] } ∧ X = Wb)
      ?hA ?assign ?body ?done ?stop
    case hA => rintro x Wb a' X k o ⟨rfl, rfl⟩ _ _; exact ⟨rfl, rfl⟩
    case assign =>
      intro k x Wb K hz hK
      unfold encD
      gi_wp2
      exact hK _ _ (Below.refl _ _) ⟨rfl, rfl⟩
    case body =>
      rintro k pre x O a' Wb X hk ⟨r, hr⟩ ⟨v, i0', i1, i2, i3, i5, i6⟩ hO hat hG hX ⟨rfl, rfl⟩ hlen
      have bZ : b < Z := by omega
      have zk := (Array.getElem?_eq_some_iff.1 hr).1
      have zX : Z ≤ X.heap.size := by omega
      have lx := ltb i0'
      have hp : pre.length < 1001 := by omega
      have nv : ∀ g, v.ownBlock = some g → Z ≤ g ∧ g < X.heap.size := fun g e => i2.lt g e
      have HO := Lib.hid hO
      have H6 := Lib.hid i6
      clear hat hO i6
      gi_wp2_with (gi_at_builtin; refine wpListIn_append_own_at _ rfl _ _ 24 rfl (Z) 3 i0 (.int .i64 0) 1 8 Try.underlying24 hi hz0 hz1 hz2 rfl (by decide) v pre.length (intL (pre.map offD)) rfl (i2.alloc _) ⟨X.heap.size, 0, none⟩ 1 1 [.int .i64 x.1.2] rfl rfl (cell_one_new _ _ _) (by simp [Value.oneCell']) (by unfold maxLen; omega) (by omega) (by (try simp only [World.size_alloc]); omega) ?_; intro v' w1 hown' hgrow _ hat'; obtain ⟨g', cap', rfl⟩ := ownsRow_succ hown'; have c1 := (hgrow.cell_far ⟨b, 0, none⟩ (by (try simp only [World.size_alloc]); show b < _; omega) (fun e => absurd (nv _ e.symm).1 (by show ¬ (Z ≤ b); omega))).trans (show World.cell? _ _ = some v from cellUp i0'); have f1 := (hgrow.frozen_far ⟨b, 0, none⟩ (by (try simp only [World.size_alloc]); show b < _; omega) (fun e => absurd (nv _ e.symm).1 (by show ¬ (Z ≤ b); omega))).trans (show World.frozen? _ _ = false from by (try simp only [frozen?_alloc_cells]); exact i1); have l1 := ltb c1)
      obtain ⟨v', hv'⟩ : ∃ v' : Value, v' = .slice (some ⟨g', 0, none⟩) (pre.length + 1) cap' := ⟨_, rfl⟩
      rw [← hv'] at hown' hat' ⊢
      clear hv'
      have HOWN := Lib.hid hown'
      obtain ⟨Y, hY⟩ : ∃ Y, Y = w1.setCell ⟨b, 0, none⟩ v' := ⟨_, rfl⟩
      have y0 : Y.cell? ⟨b, 0, none⟩ = some v' := by rw [hY]; go_cell
      have y1 : Y.frozen? ⟨b, 0, none⟩ = false := by rw [hY]; (try simp only [World.frozen?_setCell]); exact f1
      have sY : ∀ g, g ≠ b → Y.heap[g]? = w1.heap[g]? := fun g hg => by rw [hY]; exact Below.heap_setCell _ _ _ g (by show g ≠ b; omega)
      have zY : Y.heap.size = w1.heap.size := by rw [hY]; simp
      have zg := hgrow.size
      rw [World.size_alloc] at zg
      have old : ∀ g, g < X.heap.size → some g ≠ v.ownBlock → w1.heap[g]? = X.heap[g]? := fun g hg hne => (hgrow.block g (by rw [World.size_alloc]; omega) hne).trans (heap_alloc_old _ _ hg)
      have bY : Bl w Y := by
        rw [hY]
        exact (Below.grown (H6.out.trans (show Below w.heap.size X (X.alloc _) from (Below.refl _ _).alloc (by omega) _)) hgrow (by rw [World.size_alloc]; omega) (fun j hj => by have := (nv j hj).1; omega)).setCell (p := ⟨b, 0, none⟩) (by show w.heap.size ≤ b; omega) _
      have nvb : ∀ g, v'.ownBlock = some g → (v.ownBlock = some g ∨ X.heap.size ≤ g) ∧ Z ≤ g ∧ g < w1.heap.size := fun g e => by
        have h1 := HOWN.out.lt g e
        refine ⟨?_, h1⟩
        rcases hat' with h | h
        · left; rw [← h]; exact e
        · right; rw [h] at e; (try rw [World.size_alloc] at e); have e : X.heap.size + 1 = g := by simpa using e
          omega
      rw [← hY]
      clear hY
      refine ⟨fun k => O k ∨ v'.ownBlock = some k, fun k hk => ⟨?_, ?_⟩, ⟨by omega, fun k h1 h2 h3 => ?_⟩, ⟨by omega, fun k h1 => ?_⟩, v', y0, y1, ?_, (fun g e => .inr e), ?_, bY⟩
      · rcases hk with h | h
        · exact .inl h
        · rcases (nvb k h).1 with h' | h'
          · exact .inl (i3 k h')
          · exact .inr (.inr h')
      · rw [zY]
        rcases hk with h | h
        · have := (HO.out k h).2; omega
        · exact (nvb k h).2.2
      · exact (sY k (by omega)).trans (old k h2 (fun e => h3 (.inl (i3 k e.symm))))
      · have := HKK.out k h1
        have := HKB.out k h1
        exact (sY k (by omega)).trans (old k (by omega) (fun e => by have := (nv k e.symm).1; omega))
      · rw [List.length_append, List.length_singleton, List.map_append, List.map_singleton, intL_snoc]
        exact row_kept HOWN.out (fun g e => sY g (by have := (nvb g e).2.1; omega))
      · rw [List.length_append, List.length_singleton]; omega
    case done =>
      rintro Db xs O W' hD hnO hO hS ⟨v, a1, a2, a3, a4, a6, a7⟩ hd
      have lx := ltb a1
      have PB : Below Db W' (W'.putObj Db (.deferred none)) := below_put W' _ (Nat.le_refl _) (by have := (Array.getElem?_eq_some_iff.1 hd).1; omega)
      have hS : xs = _ := hS
      have HOW := Lib.hid (show (W'.putObj Db (.deferred none)).ownsRow w.heap.size 3 1 v (offF L n fa fb).length (intL (offF L n fa fb)) by
        unfold offF
        rw [← hS, List.length_map]
        exact own_mono (row_kept a3 (fun g e => World.putObj_heap_other (fun e2 => hnO (e2 ▸ a4 g e)))) (by omega))
      have B7 := Lib.hid (a7.trans (PB.mono (by omega)))
      clear a2 a3 a4 a7
      gi_wp2
      refine ⟨by simp, .inl ⟨_, _, rfl, run_takeDeferred hd, ?_⟩⟩
      exact ⟨_, results_tmp2 rfl _ _ _, B7.out, .inr ⟨rfl, v, rfl, HOW.out⟩⟩
    case stop =>
      rintro Db pre O W' hD hnO hO hS h hd
      exact h.elim
end Go.Proofs.Ytbmenpfpeadckaa
