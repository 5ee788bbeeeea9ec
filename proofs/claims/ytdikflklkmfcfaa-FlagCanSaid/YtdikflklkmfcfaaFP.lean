/-
  All hoists of a number: slices.AppendSeq and Collect over their iterator, Hoists.
-/
import Derived.Test.YtdikflklkmfcfaaFW
import Derived.Maps.OwnIn
namespace Go.Proofs.Ytdikflklkmfcfaa
open Go.RowKit Go.Shelf
set_option linter.unusedSimpArgs false
set_option linter.unusedVariables false
attribute [local go_sem] Oper.semAt_some

theorem row_info7 : (Try.prog.info? 22).map (fun i => (i.zero, i.size, i.bytes)) = some (some (.slice none 0 0), 1, 24) := by kernel_rfl
def hV (x : Hst) : Value := .slice (some ⟨x.1, 0, none⟩) x.2.2.length x.2.1
/-- Hoists that are the caller's own. -/
def OwnHs (base : Nat) (xs : List Hst) (v : Value) (W : World) : Prop := W.ownsRow base 22 1 v xs.length (xs.map hV) ∧ ∀ x, x ∈ xs → AtH x W ∧ base ≤ x.1
theorem at_same {x : Hst} {X Y : World} (h : AtH x X) (hk : Y.heap[x.1]? = X.heap[x.1]?) : AtH x Y := ⟨own_same h.1 (fun g e => by
  have e : x.1 = g := by simpa [Value.ownBlock] using e
  rw [← e]; exact hk), h.2⟩
theorem at_lt {x : Hst} {X : World} (h : AtH x X) : x.1 < X.heap.size := (h.1.lt x.1 rfl).2
set_option maxRecDepth 100000 in
set_option maxHeartbeats 8000000 in
theorem appendSeqH_any {lb : Array Value} {S Sp : List Hst → Prop} {N : Nat} (w : World) (hN : N ≤ 28561)
    (hseq : SeqO Fence.wide 4 Try.prog 42 lb encH GvH AtH (Lo 0 0 w.heap.size) S Sp N w) :
    Calls Try.prog 40 #[.slice none 0 0, .func (.func 42) #[] lb] w fun e w' => ∃ v xs, e = .returned v ∧ S xs ∧ OwnHs w.heap.size xs v w' ∧ xs.length ≤ 28561 ∧ Bl w w' := by
  obtain ⟨i0, hi, hz0, hz1, hz2⟩ := info_parts7 row_info7
  refine (callsIn_wide (n := 5)).1 ?_
  refine callsIn_of_wp_marks Try.func40 rfl trivial ?_ rfl
  simp only [Try.ntmps40, List.size_toArray, List.length_cons, List.length_nil, Nat.reduceAdd, Nat.reduceSub, Array.replicate_succ, Array.replicate_zero, List.push_toArray, List.append_toArray, List.nil_append, List.cons_append]
  gi_wp2
  obtain ⟨V, hV'⟩ : ∃ V, V = w.alloc (.cells #[.slice none 0 0] 24) := ⟨_, rfl⟩
  have zV : V.heap.size = w.heap.size + 1 := by rw [hV']; simp
  have BV : Bl w V := by rw [hV']; go_grown
  have v0 : V.cell? ⟨w.heap.size, 0, none⟩ = some (.slice none 0 0) := by rw [hV']; go_cell
  have g0 : V.frozen? ⟨w.heap.size, 0, none⟩ = false := by rw [hV']; (try simp only [frozen?_alloc_cells, World.frozen?_setCell]); first | assumption | exact fz_new (by (try simp only [World.size_alloc]); omega)
  rw [← hV']
  clear hV'
  have zw : w.heap.size ≤ V.heap.size := by omega
  refine loopO rfl (by omega) (gf := 42) (lb := lb) rfl trivial (enters_of Try.func42 (by kernel_rfl) rfl) hseq Lo.trans (fun W l o hl _ => Lo.put W l o (by omega)) BV (fun _ => rfl)
    (fun x X Y h hk => at_same h (hk x.1 rfl))
    (fun pre O W' => ∃ v, W'.cell? ⟨w.heap.size, 0, none⟩ = some v ∧ W'.frozen? ⟨w.heap.size, 0, none⟩ = false ∧ W'.ownsRow (w.heap.size + 1) 22 1 v pre.length (pre.map hV) ∧ (∀ g, v.ownBlock = some g → O g) ∧ (∀ x, x ∈ pre → AtH x W' ∧ O x.1 ∧ v.ownBlock ≠ some x.1) ∧ pre.length ≤ N ∧ Bl w W')
    (fun pre O W' => False)
    (fun s O X Y h hb hO => by
      obtain ⟨v, a1, a2, a3, a4, a5, a6, a7⟩ := h
      exact ⟨v, (hb.cell (p := ⟨w.heap.size, 0, none⟩) (by show w.heap.size < _; omega)).trans a1, (hb.frozen (p := ⟨w.heap.size, 0, none⟩) (by show w.heap.size < _; omega)).trans a2, own_same a3 (fun g e => hO g (a4 g e)), a4, (fun x hx => ⟨at_same (a5 x hx).1 (hO _ (a5 x hx).2.1), (a5 x hx).2⟩), a6, a7.trans (hb.mono zw)⟩)
    (fun s O X Y h hb hO => h)
    ⟨_, v0, g0, World.ownsRow_nil _ _ _ _, (fun g e => by cases e), (fun x hx => by cases hx), Nat.zero_le _, BV⟩
    (fun x Wb a' X => a' = { tmps := #[.slice none 0 0, .func (.func 42) #[] lb, .pointer (some ⟨w.heap.size, 0, none⟩), undef, .slice none 0 0, .slice (some ⟨x.1, 0, none⟩) x.2.2.length x.2.1, .func (.func 42) #[] lb, .slice (some ⟨x.1, 0, none⟩) x.2.2.length x.2.1, undef, undef, undef, undef, undef], defers := [] } ∧ X = Wb)
    ?hA ?assign ?body ?done ?stop
  case hA => rintro x Wb a' X k o ⟨rfl, rfl⟩ _ _; exact ⟨rfl, rfl⟩
  case assign =>
    intro k x Wb K hz hK
    unfold encH
    gi_wp2
    exact hK _ _ (Below.refl _ _) ⟨rfl, rfl⟩
  case body =>
    rintro k pre x O a' Wb X hk ⟨r, hr⟩ ⟨v, i0', i1, i2, i3, i4, i5, i6⟩ hO hat hG hX ⟨rfl, rfl⟩ hlen
    have lx := ltb i0'
    have hp : pre.length < 28561 := by omega
    have hx := hG x.1 rfl
    have nv : ∀ g, v.ownBlock = some g → w.heap.size + 1 ≤ g ∧ g < X.heap.size := fun g e => i2.lt g e
    have nvx : v.ownBlock ≠ some x.1 := fun e => hx.2.2 (i3 _ e)
    have H4 := Lib.hid i4
    have HAT := Lib.hid hat
    have HO := Lib.hid hO
    have H6 := Lib.hid i6
    clear i4 hat hO i6
    gi_wp2_with (gi_at_builtin; refine wpListIn_append_own_at _ rfl _ _ 24 rfl (w.heap.size + 1) 22 i0 (.slice none 0 0) 1 24 Try.underlying24 hi hz0 hz1 hz2 rfl (by decide) v pre.length (pre.map hV) rfl (i2.alloc _) ⟨X.heap.size, 0, none⟩ 1 1 [.slice (some ⟨x.1, 0, none⟩) x.2.2.length x.2.1] rfl rfl (cell_one_new _ _ _) (by simp [Value.oneCell']) (by unfold maxLen; omega) (by omega) (by (try simp only [World.size_alloc]); omega) ?_; intro v' w1 hown' hgrow _ hat'; obtain ⟨g', cap', rfl⟩ := ownsRow_succ hown'; have c1 := (hgrow.cell_far ⟨w.heap.size, 0, none⟩ (by (try simp only [World.size_alloc]); show w.heap.size < _; omega) (fun e => absurd (nv _ e.symm).1 (by show ¬ (w.heap.size + 1 ≤ w.heap.size); omega))).trans (show World.cell? _ _ = some v from cellUp i0'); have f1 := (hgrow.frozen_far ⟨w.heap.size, 0, none⟩ (by (try simp only [World.size_alloc]); show w.heap.size < _; omega) (fun e => absurd (nv _ e.symm).1 (by show ¬ (w.heap.size + 1 ≤ w.heap.size); omega))).trans (show World.frozen? _ _ = false from by (try simp only [frozen?_alloc_cells]); exact i1); have l1 := ltb c1)
    obtain ⟨v', hv'⟩ : ∃ v' : Value, v' = .slice (some ⟨g', 0, none⟩) (pre.length + 1) cap' := ⟨_, rfl⟩
    rw [← hv'] at hown' hat' ⊢
    clear hv'
    have HOWN := Lib.hid hown'
    obtain ⟨Y, hY⟩ : ∃ Y, Y = w1.setCell ⟨w.heap.size, 0, none⟩ v' := ⟨_, rfl⟩
    have y0 : Y.cell? ⟨w.heap.size, 0, none⟩ = some v' := by rw [hY]; go_cell
    have y1 : Y.frozen? ⟨w.heap.size, 0, none⟩ = false := by rw [hY]; (try simp only [World.frozen?_setCell]); exact f1
    have sY : ∀ g, g ≠ w.heap.size → Y.heap[g]? = w1.heap[g]? := fun g hg => by rw [hY]; exact Below.heap_setCell _ _ _ g (by show g ≠ w.heap.size; omega)
    have zY : Y.heap.size = w1.heap.size := by rw [hY]; simp
    have zg := hgrow.size
    rw [World.size_alloc] at zg
    have old : ∀ g, g < X.heap.size → some g ≠ v.ownBlock → w1.heap[g]? = X.heap[g]? := fun g hg hne => (hgrow.block g (by rw [World.size_alloc]; omega) hne).trans (heap_alloc_old _ _ hg)
    have bY : Bl w Y := by
      rw [hY]
      exact (Below.grown (H6.out.trans (show Below w.heap.size X (X.alloc _) from (Below.refl _ _).alloc (by omega) _)) hgrow (by rw [World.size_alloc]; omega) (fun j hj => by have := (nv j hj).1; omega)).setCell (p := ⟨w.heap.size, 0, none⟩) (Nat.le_refl _) _
    have nvb : ∀ g, v'.ownBlock = some g → (v.ownBlock = some g ∨ X.heap.size ≤ g) ∧ w.heap.size + 1 ≤ g ∧ g < w1.heap.size := fun g e => by
      have h1 := HOWN.out.lt g e
      refine ⟨?_, h1⟩
      rcases hat' with h | h
      · left; rw [← h]; exact e
      · right; rw [h] at e; (try rw [World.size_alloc] at e); have e : X.heap.size + 1 = g := by simpa using e
        omega
    rw [← hY]
    clear hY
    refine ⟨fun k => O k ∨ GvH x k ∨ v'.ownBlock = some k, fun k hk => ⟨?_, ?_⟩, ⟨by omega, fun k h1 h2 h3 => ?_⟩, ⟨fun k h1 _ => ?_⟩, v', y0, y1, ?_, (fun g e => .inr (.inr e)), ?_, ?_, bY⟩
    · rcases hk with h | h | h
      · exact .inl h
      · exact .inr (.inl h)
      · rcases (nvb k h).1 with h' | h'
        · exact .inl (i3 k h')
        · exact .inr (.inr h')
    · rw [zY]
      rcases hk with h | h | h
      · have := (HO.out k h).2; omega
      · have := (hG k h).2.1; omega
      · exact (nvb k h).2.2
    · exact (sY k (by omega)).trans (old k h2 (fun e => h3 (.inl (i3 k e.symm))))
    · exact (sY k (by omega)).trans (old k (by omega) (fun e => by have := (nv k e.symm).1; omega))
    · rw [List.length_append, List.length_singleton, List.map_append, List.map_singleton]
      exact own_same HOWN.out (fun g e => sY g (by have := (nvb g e).2.1; omega))
    · intro y hy
      rcases List.mem_append.1 hy with hy | hy
      · have h := H4.out y hy
        have hb := (HO.out y.1 h.2.1)
        refine ⟨at_same h.1 ((sY _ (by omega)).trans (old _ hb.2 (fun e => h.2.2 e.symm))), .inl h.2.1, fun e => ?_⟩
        rcases (nvb _ e).1 with h' | h'
        · exact h.2.2 h'
        · omega
      · obtain rfl : y = x := by simpa using hy
        refine ⟨at_same HAT.out ((sY _ (by omega)).trans (old _ hx.2.1 (fun e => nvx e.symm))), .inr (.inl rfl), fun e => ?_⟩
        rcases (nvb _ e).1 with h' | h'
        · exact nvx h'
        · omega
    · rw [List.length_append, List.length_singleton]; omega
  case done =>
    rintro Db xs O W' hD hnO hO hS ⟨v, a1, a2, a3, a4, a5, a6, a7⟩ hd
    have lx := ltb a1
    have PB : Below Db W' (W'.putObj Db (.deferred none)) := below_put W' _ (Nat.le_refl _) (by have := (Array.getElem?_eq_some_iff.1 hd).1; omega)
    have HOW := Lib.hid (show OwnHs w.heap.size xs v (W'.putObj Db (.deferred none)) from
      ⟨own_base (own_same a3 (fun g e => World.putObj_heap_other (fun e2 => hnO (e2 ▸ a4 g e)))) (fun g e => by have := (a3.lt g e).1; omega),
       fun x hx => ⟨at_same (a5 x hx).1 (World.putObj_heap_other (fun e2 => hnO (e2 ▸ (a5 x hx).2.1))), by have := (hO _ (a5 x hx).2.1).1; omega⟩⟩)
    have B7 := Lib.hid (a7.trans (PB.mono (by omega)))
    clear a2 a3 a4 a5 a7
    gi_wp2
    refine ⟨by simp, .inl ⟨_, _, rfl, run_takeDeferred hd, ?_⟩⟩
    exact ⟨_, results_tmp rfl _ _ _, v, xs, rfl, hS, HOW.out, by omega, B7.out⟩
  case stop =>
    rintro Db pre O W' hD hnO hO hS h hd
    exact h.elim
theorem collectH_any {lb : Array Value} {S Sp : List Hst → Prop} {N : Nat} (w : World) (hN : N ≤ 28561)
    (hseq : SeqO Fence.wide 4 Try.prog 42 lb encH GvH AtH (Lo 0 0 w.heap.size) S Sp N w) :
    Calls Try.prog 21 #[.func (.func 42) #[] lb] w fun e w' => ∃ v xs, e = .returned v ∧ S xs ∧ OwnHs w.heap.size xs v w' ∧ xs.length ≤ 28561 ∧ Bl w w' := by
  go_enter Try.func21, Try.ntmps21
  go_wp2_with fail
  refine (appendSeqH_any w hN hseq).mono ?_
  rintro e w1 ⟨v, xs, rfl, hS, ho, hl, hb⟩
  have HO := Lib.hid ho
  have HS := Lib.hid hS
  clear ho hS
  go_wp2_with fail
  go_ret
  exact ⟨v, xs, rfl, HS.out, HO.out, hl, hb⟩
set_option maxRecDepth 100000 in
set_option maxHeartbeats 4000000 in
/-- Hoists of a number. -/
theorem hoistsF_yes (A : Option Addr) (n c : Nat) (D : Nat → Int) (L : Nat) (w : World) (hn : n ≤ maxLen) (hA : Sl w A n D) (hv : vdB n D = true) (hL : L < 8192) :
    Calls Try.prog 6 #[.slice A n c, .int .i64 (L : Int)] w fun e w' => ∃ v xs, e = .returned (.tuple #[v, .int .i64 0]) ∧ xs.map (fun x : Hst => x.2.2) = hstL n D L ∧ OwnHs w.heap.size xs v w' ∧ xs.length ≤ 28561 ∧ Bl w w' := by
  obtain ⟨hn14, _⟩ := vdB_iff.1 hv
  have HA := Lib.hid hA
  have HN := Lib.hid hn
  have HCK := Lib.hid (show ckV n D (L : Int) = 0 by rw [ckV, hv, inB_iff.2 (by omega : (0 : Int) ≤ (L : Int) ∧ (L : Int) ≤ 8191)]; rfl)
  clear hA hn hv
  go_enter Try.func6, Try.ntmps6
  go_wp2_with fail
  refine (check_any A n c D (L : Int) _ HN.out HA.out).mono ?_
  rintro e w1 ⟨rfl, rfl⟩
  rw [HCK.out]
  go_wp2_with fail
  refine (hoistsOf_any A n c (L : Int) _ HN.out).mono ?_
  rintro e w1 ⟨rfl, rfl⟩
  go_wp2_with fail
  obtain ⟨h0, h1, h2, h3⟩ := hofW_cells A n c (L : Int) w
  have zH := hofW_size A n c (L : Int) w
  have BH := hofW_below A n c (L : Int) w
  obtain ⟨V, hV⟩ : ∃ V, V = hofW A n c (L : Int) w := ⟨_, rfl⟩
  rw [← hV] at h0 h1 h2 h3 zH BH ⊢
  clear hV
  have hN4 : 13 ^ n ≤ 28561 := by
    have : 13 ^ n ≤ 13 ^ 4 := Nat.pow_le_pow_right (by decide) hn14.2
    exact this
  refine (collectH_any (S := fun xs => xs.map (fun x : Hst => x.2.2) = hstL n D L) (Sp := fun pre => ∃ rest, hstL n D L = pre.map (fun x : Hst => x.2.2) ++ rest) (N := 13 ^ n) V hN4 (hoists_seqD (m := 4) (c0 := 0) (c1 := 0) (lb := w.heap.size + 1) (wb := w.heap.size + 3) (fb := w.heap.size + 2) (db := w.heap.size) (N := 13 ^ n) (L := L) (w := V) (want := wnB D) hn14 hL (by omega) (by omega) (by omega) h1 h3 h2
    (fun p d W hp hd hLo => by
      obtain ⟨b, off, eA, hb, hcc⟩ := HA.out (by omega)
      refine wanted_any A n c D _ p d W (hLo.cell (by omega) (by omega) h0) (fun _ => ⟨b, off, eA, ?_, fun j hj => ?_⟩) hp HN.out
      · have h := hLo.cell (b := b) (o := off + 0) (by omega) (by omega) ((BH.cell (p := ⟨b, off + 0, none⟩) hb).trans (hcc 0 (by omega)))
        exact World.block_lt_of_cell? W ⟨b, off + 0, none⟩ h
      · exact hLo.cell (b := b) (o := off + j) (by omega) (by omega) ((BH.cell (p := ⟨b, off + j, none⟩) hb).trans (hcc j hj)))
    (tre_len _ _ _ _ _))).mono ?_
  rintro e w2 ⟨v, xs, rfl, hS, ho, hl, hb⟩
  have HO := Lib.hid (show OwnHs w.heap.size xs v w2 from ⟨own_base ho.1 (fun g e => by have := (ho.1.lt g e).1; omega), fun x hx => ⟨(ho.2 x hx).1, by have := (ho.2 x hx).2; omega⟩⟩)
  have HS := Lib.hid hS
  have HB := Lib.hid (Bl.tr BH hb)
  clear ho hS hb
  go_wp2_with fail
  go_ret2
  exact ⟨v, xs, rfl, HS.out, HO.out, hl, HB.out⟩
theorem hoistsF_no (A : Option Addr) (n c : Nat) (D : Nat → Int) (L : Int) (w : World) (hn : n ≤ maxLen) (hA : Sl w A n D) (hck : ckV n D L ≠ 0) :
    Calls Try.prog 6 #[.slice A n c, .int .i64 L] w fun e w' => e = .returned (.tuple #[.slice none 0 0, .int .i64 (ckV n D L)]) ∧ w = w' := by
  obtain ⟨v, hv⟩ : ∃ v, v = ckV n D L := ⟨_, rfl⟩
  have HV := Lib.hid hv
  rw [← hv] at hck ⊢
  have hne : (v != 0) = true := by simp [hck]
  clear hv hck
  go_enter Try.func6, Try.ntmps6
  go_wp2_with fail
  refine (check_any A n c D L _ hn hA).mono ?_
  rintro e w1 ⟨rfl, rfl⟩
  rw [← HV.out]
  go_wp2_with fail
  go_ret2
  exact ⟨rfl, rfl⟩
end Go.Proofs.Ytdikflklkmfcfaa
