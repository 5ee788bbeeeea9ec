/-
  The reference's list of hoists.
-/
import Derived.Test.YtdikflklkmfcfaaJD
import Derived.Test.YtdikflklkmfcfaaJB
import Derived.Maps.AppendAt
import Derived.Deep.RegionLaw
namespace Go.Proofs.Ytdikflklkmfcfaa
open Go.RowKit
set_option linter.unusedSimpArgs false
set_option linter.unusedVariables false

/-- A slice of slices of numbers that the call owns whole. -/
def RR (b : Nat) (els : List (Value × List Nat)) (v : Value) (W : World) : Prop :=
  W.ownsRow b 22 1 v els.length (els.map Prod.fst) ∧ ∀ el, el ∈ els → W.ownsRow b 3 1 el.1 el.2.length (inN el.2) ∧ ∀ g, el.1.ownBlock = some g → v.ownBlock ≠ some g
theorem RR.nil (b : Nat) (W : World) : RR b [] (.slice none 0 0) W := ⟨World.ownsRow_nil _ _ _ _, fun _ h => by cases h⟩
theorem RR.keep {b : Nat} {els : List (Value × List Nat)} {v : Value} {W W' : World} (h : RR b els v W) (hb : Bl W W') : RR b els v W' :=
  ⟨own_same h.1 (fun g hg => hb.block g (h.1.lt g hg).2), fun el he => ⟨own_same (h.2 el he).1 (fun g hg => hb.block g ((h.2 el he).1.lt g hg).2), (h.2 el he).2⟩⟩
theorem RR.base {b b' : Nat} {els : List (Value × List Nat)} {v : Value} {W : World} (h : RR b els v W) (hb : b' ≤ b) : RR b' els v W :=
  ⟨own_base h.1 (fun g hg => Nat.le_trans hb (h.1.lt g hg).1), fun el he => ⟨own_base (h.2 el he).1 (fun g hg => Nat.le_trans hb ((h.2 el he).1.lt g hg).1), (h.2 el he).2⟩⟩
/-- One more is appended. -/
theorem RR.snoc {b : Nat} {els : List (Value × List Nat)} {v v' x : Value} {l : List Nat} {W W2 : World} {o : Obj} (h : RR b els v W) (hx : W.ownsRow b 3 1 x l.length (inN l)) (hne : ∀ g, x.ownBlock = some g → v.ownBlock ≠ some g)
    (hg : (W.alloc o).grownBy W2 v.ownBlock) (hown : W2.ownsRow b 22 1 v' (els.length + 1) (els.map Prod.fst ++ [x])) (hat : v'.ownBlock = v.ownBlock ∨ v'.ownBlock = some (W.alloc o).heap.size) :
    RR b (els ++ [(x, l)]) v' W2 := by
  have old : ∀ g, g < W.heap.size → v.ownBlock ≠ some g → W2.heap[g]? = W.heap[g]? := fun g hl hn => (hg.block g (by rw [World.size_alloc]; omega) (fun e => hn e.symm)).trans (heap_alloc_old _ _ hl)
  have nv : ∀ g, g < W.heap.size → v.ownBlock ≠ some g → v'.ownBlock ≠ some g := fun g hl hn e => by
    rcases hat with h' | h'
    · exact hn (h' ▸ e)
    · rw [h', World.size_alloc] at e
      have e : W.heap.size + 1 = g := Option.some.inj e
      omega
  refine ⟨by rw [List.length_append, List.length_singleton, List.map_append, List.map_singleton]; exact hown, fun el he => ?_⟩
  rcases List.mem_append.1 he with he | he
  · have h1 := h.2 el he
    exact ⟨own_same h1.1 (fun g hg' => old g (h1.1.lt g hg').2 (h1.2 g hg')), fun g hg' => nv g (h1.1.lt g hg').2 (h1.2 g hg')⟩
  · obtain rfl : el = (x, l) := by simpa using he
    exact ⟨own_same hx (fun g hg' => old g (hx.lt g hg').2 (hne g hg')), fun g hg' => nv g (hx.lt g hg').2 (hne g hg')⟩
theorem itr_len (D : Nat → Int) (L r : Nat) : ∀ x, x ∈ itr D L r [[]] → x.length = r := by
  induction r with
  | zero => intro x hx; have : x = [] := by simpa [itr] using hx
            subst this; rfl
  | succ r ih =>
    intro x hx
    rw [itr_snoc, List.mem_flatMap] at hx
    obtain ⟨h, hh, hx⟩ := hx
    rw [extH, List.mem_flatMap] at hx
    obtain ⟨f, _, hx⟩ := hx
    split at hx
    · have : x = h ++ [f] := by simpa using hx
      rw [this, List.length_append, List.length_singleton, ih h hh]
    · cases hx
theorem itr_max (D : Nat → Int) (L r : Nat) : (itr D L r [[]]).length ≤ 13 ^ r := by
  induction r with
  | zero => simp [itr]
  | succ r ih =>
    rw [itr_snoc]
    have key : ∀ l : List (List Nat), (l.flatMap (extH D L)).length ≤ l.length * 13 := by
      intro l
      induction l with
      | nil => simp
      | cons x l ihl =>
        have hx : (extH D L x).length ≤ 13 := by
          have : ∀ k, ((List.range k).flatMap fun f => if cH D L x f then [x ++ [f]] else []).length ≤ k := by
            intro k
            induction k with
            | zero => simp
            | succ k ihk =>
              rw [List.range_succ, List.flatMap_append, List.length_append]
              have : (List.flatMap (fun f => if cH D L x f then [x ++ [f]] else []) [k]).length ≤ 1 := by simp; split <;> simp
              omega
          exact this 13
        rw [List.flatMap_cons, List.length_append, List.length_cons]
        omega
    have := key (itr D L r [[]])
    rw [Nat.pow_succ]
    omega
theorem rng_max (D : Nat → Int) (L : Nat) (x : List Nat) : ∀ k, ((List.range k).flatMap fun f => if cH D L x f then [x ++ [f]] else []).length ≤ k := by
  intro k
  induction k with
  | zero => simp
  | succ k ihk =>
    rw [List.range_succ, List.flatMap_append, List.length_append]
    have : (List.flatMap (fun f => if cH D L x f then [x ++ [f]] else []) [k]).length ≤ 1 := by simp; split <;> simp
    omega
theorem ext_max (D : Nat → Int) (L : Nat) (l : List (List Nat)) : (l.flatMap (extH D L)).length ≤ l.length * 13 := by
  induction l with
  | nil => simp
  | cons x l ih =>
    have hx : (extH D L x).length ≤ 13 := rng_max D L x 13
    rw [List.flatMap_cons, List.length_append, List.length_cons]
    omega
def r0 (D : Nat → Int) (L f : Nat) : List (List Nat) := (List.range f).flatMap (fun f => if cH D L [] f then [[f]] else [])
theorem r0_ext (D : Nat → Int) (L f : Nat) : r0 D L (f + 1) = r0 D L f ++ (if cH D L [] f then [[f]] else []) := by
  unfold r0; rw [List.range_succ, List.flatMap_append]; simp
theorem r0_max (D : Nat → Int) (L k : Nat) : (r0 D L k).length ≤ k := rng_max D L [] k
def t0 (D : Nat → Int) (L k : Nat) : List (List Nat) := if k = 0 then [] else extH D L []
theorem sIB_lst {l : List Nat} {D : Nat → Int} {k n : Nat} (hl : l.length = k) (hd : dgTo D n = true) (hk : k ≤ n) : sIB k (gI l) k D = (l == lst D k) := by
  rw [Bool.eq_iff_iff, beq_iff_eq]
  unfold sIB
  rw [decide_eq_true rfl, Bool.true_and]
  have key : ∀ m, m ≤ k → (eqTo (gI l) D m = true ↔ ∀ j, j < m → gI l j = D j) := by
    intro m hm
    induction m with
    | zero => simp [eqTo]
    | succ m ih =>
      rw [eqTo, Bool.and_eq_true, decide_eq_true_eq, ih (by omega)]
      constructor
      · intro ⟨a, b⟩ j hj; by_cases e : j = m; (subst e; exact b); exact a j (by omega)
      · intro h; exact ⟨fun j hj => h j (by omega), h m (by omega)⟩
  rw [key k (Nat.le_refl _)]
  constructor
  · intro h
    refine List.ext_getElem (by rw [hl, lst_len]) fun j h1 h2 => ?_
    have e := h j (by omega)
    unfold gI at e
    rw [List.getD_eq_getElem?_getD, List.getElem?_eq_getElem h1] at e
    simp only [lst, List.getElem_map, List.getElem_range]
    have e : ((l[j] : Nat) : Int) = D j := e
    omega
  · intro h j hj
    rw [h]
    exact lst_at hj (dgTo_at hd (by omega)).1
theorem range_ext (D : Nat → Int) (L : Nat) (h : List Nat) (f : Nat) : ((List.range (f + 1)).flatMap fun f => if cH D L h f then [h ++ [f]] else []) = ((List.range f).flatMap fun f => if cH D L h f then [h ++ [f]] else []) ++ (if cH D L h f then [h ++ [f]] else []) := by
  rw [List.range_succ, List.flatMap_append]; simp
theorem take_ext {D : Nat → Int} {L k : Nat} {l : List (List Nat)} (hk : k < l.length) : (l.take (k + 1)).flatMap (extH D L) = (l.take k).flatMap (extH D L) ++ extH D L l[k] := by
  rw [List.take_succ_eq_append_getElem hk, List.flatMap_append]; simp
theorem has_val2 {L f : Nat} (h : L < 8192) : (bits BinOp.and IntKind.i64 ((L / 2 ^ f : Nat) : Int) 1 == 1) = hasB L f := by
  rw [bits_and1 _ (Nat.lt_of_le_of_lt (Nat.div_le_self _ _) h), hasB_div]
  have := Nat.mod_two_eq_zero_or_one (L / 2 ^ f)
  rw [Bool.eq_iff_iff, decide_eq_true_eq, beq_iff_eq]
  omega
theorem has_val3 {L f : Nat} (h : L < 8192) : bits BinOp.and IntKind.i64 ((L : Int) / 2 ^ f) 1 = if hasB L f then 1 else 0 := by
  have e : (L : Int) / 2 ^ f = ((L / 2 ^ f : Nat) : Int) := by rw [Int.natCast_ediv]; simp
  rw [e, bits_and1 _ (Nat.lt_of_le_of_lt (Nat.div_le_self _ _) h), hasB_div]
  have := Nat.mod_two_eq_zero_or_one (L / 2 ^ f)
  split
  · rename_i hh; have := of_decide_eq_true hh; omega
  · rename_i hh; have := of_decide_eq_false (by simpa using hh : decide (L / 2 ^ f % 2 = 1) = false); omega
theorem row_shape {w : World} {base : Nat} {e : TypeId} {v : Value} {n : Nat} {xs : List Value} (h : w.ownsRow base e 1 v n xs) : ∃ A cap, v = .slice A n cap ∧ n ≤ cap ∧ cap ≤ maxLen ∧ ∀ j, j < n → ∃ g, A = some ⟨g, 0, none⟩ ∧ g < w.heap.size ∧ w.cell? ⟨g, j, none⟩ = xs[j]? := by
  rcases h.2 with ⟨rfl, rfl⟩ | ⟨g, cap, cur, rfl, hb, hg, hnc, hcm, _⟩
  · exact ⟨none, 0, rfl, Nat.le_refl _, by decide, fun j hj => absurd hj (by omega)⟩
  · exact ⟨some ⟨g, 0, none⟩, cap, rfl, hnc, hcm, fun j hj => ⟨g, rfl, (Array.getElem?_eq_some_iff.1 hg).1, h.cellAt j (by omega)⟩⟩
theorem bl_d7 (w : World) : Bl w w.drew := ⟨rfl, rfl, rfl, Nat.le_refl _, fun _ _ => rfl⟩
theorem Sl.take7 {w : World} {A : Option Addr} {n k : Nat} {f : Nat → Int} (h : Sl w A n f) (hk : k ≤ n) : Sl w A k f := fun h0 => by
  obtain ⟨b, off, e, hb, hc⟩ := h (by omega)
  exact ⟨b, off, e, hb, fun j hj => hc j (by omega)⟩
theorem row_lit7 (W : World) : (W.alloc (.cells #[.slice none 0 0] 22)).ownsRow W.heap.size 22 1 (.slice (some ⟨W.heap.size, 0, none⟩) 1 1) 1 [.slice none 0 0] := World.ownsRow_lit (base := W.heap.size) (size := 1) (e := 22) W #[.slice none 0 0] 1 (Nat.le_refl _) (by decide) rfl
set_option maxRecDepth 100000 in
set_option maxHeartbeats 32000000 in
theorem rhoists_any (A : Option Addr) (n c : Nat) (D : Nat → Int) (L : Nat) (w : World) (hn : n ≤ c ∧ c ≤ maxLen) (hA : Sl w A n D) (hv : vdB n D = true) (hL : L < 8192) :
    Calls Try.prog 25 #[.slice A n c, .int .i64 (L : Int)] w fun e w' => ∃ v els, e = .returned v ∧ els.map Prod.snd = itr D L n [[]] ∧ RR w.heap.size els v w' ∧ Bl w w' := by
  obtain ⟨i0, hi0, hz0, hz1, hz2⟩ := info_parts7 int_info7
  have HI := Lib.hid (And.intro hi0 (And.intro hz0 (And.intro hz1 hz2)))
  clear hi0 hz0 hz1 hz2
  obtain ⟨j0, hj0, hy0, hy1, hy2⟩ := info_parts7 row_info7
  have HJ := Lib.hid (And.intro hj0 (And.intro hy0 (And.intro hy1 hy2)))
  clear hj0 hy0 hy1 hy2
  obtain ⟨⟨hn1, hn4⟩, hd⟩ := vdB_iff.1 hv
  have HD := Lib.hid hd
  have HA := Lib.hid hA
  obtain ⟨hnc, hcm⟩ := hn
  unfold maxLen at hcm
  obtain ⟨b, off, rfl, -, -⟩ := hA (by omega)
  clear hA hv hd
  go_enter Try.func25, Try.ntmps25
  go_wp2_with fail
  go_loopw [5, 15] (fun v i wr => ∃ k : Nat, k ≤ n ∧ i = .int .i64 k ∧ (∃ els, els.map Prod.snd = (if k = 0 then [] else itr D L k [[]]) ∧ RR w.heap.size els v wr) ∧ Bl w wr) (fun _ i _ => n - (RowKit.intOf i).toNat)
  case atStart => exact ⟨0, Nat.zero_le _, rfl, ⟨[], rfl, RR.nil _ _⟩, Below.refl _ _⟩
  case round =>
    obtain ⟨i, hi, rfl, ⟨els, hels, hrr⟩, hb⟩ := hrel
    have HELS := Lib.hid hels
    have HRR := Lib.hid hrr
    have HB := Lib.hid hb
    have zb := HB.out.size
    clear hels hrr hb
    by_cases hlt : i < n
    · by_cases hi0 : i = 0
      · have hie : ((i : Int) == 0) = true := by rw [hi0]; rfl
        obtain rfl : els = [] := by have h := HELS.out; rw [if_pos hi0] at h; exact List.map_eq_nil_iff.1 h
        have HI0 := Lib.hid hi0
        clear HELS hi0
        go_wp2_with fail
        obtain ⟨Wp, hWp⟩ : ∃ Wp, Wp = wr := ⟨_, rfl⟩
        subst hWp
        obtain ⟨Wo, hWo⟩ : ∃ Wo, Wo = Wp.alloc (.cells #[.slice none 0 0] 22) := ⟨_, rfl⟩
        have hcc0 : Wo.cell? ⟨Wp.heap.size, 0, none⟩ = some (.slice none 0 0) := by rw [hWo]; go_cell
        have B0 : Bl Wp Wo := by rw [hWo]; go_grown
        have zW0 : Wo.heap.size = Wp.heap.size + 1 := by rw [hWo]; simp
        have BP := Lib.hid (Bl.tr HB.out B0)
        rw [← hWo]
        clear hWo B0 HRR
        obtain ⟨P, hP⟩ : ∃ P, P = Wp.heap.size := ⟨_, rfl⟩
        rw [← hP] at hcc0 zW0 zb ⊢
        have zp : P < Wo.heap.size := by omega
        have zp2 : w.heap.size ≤ Wo.heap.size := by omega
        clear hP zW0
        go_loopw [7, 24] (fun v iv wr => ∃ k : Nat, k ≤ 1 ∧ iv = .int .i64 k ∧ (∃ els2, els2.map Prod.snd = t0 D L k ∧ RR Wo.heap.size els2 v wr) ∧ Bl Wo wr) (fun _ iv _ => 1 - (RowKit.intOf iv).toNat)
        case atStart => exact ⟨0, Nat.zero_le _, rfl, ⟨[], rfl, RR.nil _ _⟩, Below.refl _ _⟩
        case round =>
          obtain ⟨k, hk, rfl, ⟨els2, hels2, hrr2⟩, hb2⟩ := hrel
          have HELS2 := Lib.hid hels2
          have HRR2 := Lib.hid hrr2
          have HB2 := Lib.hid hb2
          clear hels2 hrr2 hb2
          by_cases hkl : k < 1
          · have HK0 := Lib.hid (show k = 0 by omega)
            have c5k : wr.cell? ⟨P, k, none⟩ = some (.slice none 0 0) := by rw [HK0.out]; exact (HB2.out.cell (p := ⟨P, 0, none⟩) zp).trans hcc0
            have hk1 : (k : Int) < 1 := by omega
            go_wp2_with fail
            obtain ⟨Wm, hWm⟩ : ∃ Wm, Wm = wr := ⟨_, rfl⟩
            subst hWm
            go_loopw [7, 28] (fun v iv wr => ∃ f : Nat, f ≤ 13 ∧ iv = .int .i64 f ∧ (∃ els3, els3.map Prod.snd = r0 D L f ∧ RR Wo.heap.size els3 v wr) ∧ Bl Wo wr) (fun _ iv _ => 13 - (RowKit.intOf iv).toNat)
            case atStart => exact ⟨0, Nat.zero_le _, rfl, ⟨els2, by rw [HELS2.out]; unfold t0; rw [if_pos HK0.out]; rfl, HRR2.out⟩, HB2.out⟩
            case round =>
              obtain ⟨f, hf, rfl, ⟨els3, hels3, hrr3⟩, hb3⟩ := hrel
              obtain ⟨An, cn, rfl, -, -, -⟩ := row_shape hrr3.1
              have HELS3 := Lib.hid hels3
              have HRR3 := Lib.hid hrr3
              have HB3 := Lib.hid hb3
              have zb3 := hb3.size
              have hmax3 : els3.length ≤ 13 := by
                have h1 := congrArg List.length HELS3.out
                rw [List.length_map] at h1
                have h3 := r0_max D L f
                omega
              clear hels3 hrr3 hb3
              by_cases hlf : f < 13
              · have HO0 := Lib.hid (lit_nil7 wr)
                have HBW := Lib.hid (Bl.tr BP.out HB3.out)
                have HHB := Lib.hid (has_val3 (f := f) hL)
                go_wp2_with (first | (at_builtin; refine wpList_append_own _ rfl _ _ _ rfl wr.heap.size 3 i0 _ 1 8 Try.underlying22 HI.out.1 HI.out.2.1 HI.out.2.2.1 HI.out.2.2.2 rfl (by decide) _ _ _ rfl (HO0.out.alloc _) _ 1 1 [.int .i64 (f : Int)] rfl rfl (by first | exact cell_one_new _ _ _ | exact ap_news7 (alloc2_new7 _ _ _)) (by simp [Value.oneCell']) (by unfold maxLen; omega) (by omega) (by (try simp only [World.size_alloc]); omega) ?_; intro v3 w10 hown3 hgrow3 _; obtain ⟨g3, c3, rfl⟩ := ownsRow_succ hown3; have B10 := Lib.hid (show Bl wr w10 from Below.grown ((show Bl wr (wr.alloc (.cells #[] 3)) from by go_grown).trans (by go_grown)) hgrow3 (by (try simp only [World.size_alloc]); omega) (fun j hj => (HO0.out.lt j hj).1)); have HO10 := Lib.hid hown3; clear hown3 hgrow3))
                have HX := Lib.hid (show w10.ownsRow wr.heap.size 3 1 (.slice (some ⟨g3, 0, none⟩) 1 c3) 1 (inN ([f])) from by have h2 := HO10.out; (try simp only [Nat.zero_add, List.nil_append, List.length_nil] at h2); rw [show inN ([f]) = inN [] ++ [.int .i64 (f : Int)] by simp [inN]]; exact h2)
                obtain ⟨-, A5, c5, e5, hn5, hm5, hs5⟩ := own_sl7 HX.out
                injection e5 with e51 _ e52
                subst e51 e52
                have HS5 := Lib.hid hs5
                have hg3 := (HX.out.lt g3 rfl).1
                clear hs5
                cases hB : hasB L f with
                | false =>
                  have HBF := Lib.hid (show cH D L [] f = false from by simp [cH, hB])
                  have hband : bits BinOp.and IntKind.i64 ((L : Int) / 2 ^ f) 1 = 0 := by rw [HHB.out, hB]; rfl
                  clear hB
                  go_quiet (fail)
                  all_goals
                    go_wp2_with fail
                    go_roundw
                    case rel => exact ⟨f + 1, by omega, by go_num, ⟨els3, by rw [r0_ext, HBF.out, HELS3.out]; simp, HRR3.out.keep (Bl.tr B10.out (bl_dN7 _ _))⟩, Bl.tr HB3.out (Bl.tr B10.out (bl_dN7 _ _))⟩
                    case measure => simp [RowKit.intOf]; omega
                | true =>
                  have hband : bits BinOp.and IntKind.i64 ((L : Int) / 2 ^ f) 1 = 1 := by rw [HHB.out, hB]; rfl
                  have HBT := Lib.hid hB
                  clear hB
                  cases hok : okH ([f]) with
                  | false =>
                    have HOK := Lib.hid (show vhB 1 (gI ([f])) = false from by have h2 := hok; unfold okH at h2; exact h2)
                    have HBF := Lib.hid (show cH D L [] f = false from by simp [cH, hok])
                    clear hok
                    go_quiet ((go_at_call 36; exact Calls.quiet_of_same ((rvalidHoist_any _ 1 c3 (gI ([f])) _ ⟨hn5, hm5⟩ (HS5.out.below (by exact bl_dN7 _ _))).mono fun e w' h => ⟨h.1.trans (by rw [HOK.out]), h.2.symm⟩)))
                    all_goals
                      go_wp2_with fail
                      go_roundw
                      case rel => exact ⟨f + 1, by omega, by go_num, ⟨els3, by rw [r0_ext, HBF.out, HELS3.out]; simp, HRR3.out.keep (Bl.tr B10.out (bl_dN7 _ _))⟩, Bl.tr HB3.out (Bl.tr B10.out (bl_dN7 _ _))⟩
                      case measure => simp [RowKit.intOf]; omega
                  | true =>
                    have HOK := Lib.hid (show vhB 1 (gI ([f])) = true from by have h2 := hok; unfold okH at h2; exact h2)
                    have HMM := Lib.hid (show dgs (gI ([f])) 1 = mnH ([f]) from rfl)
                    have HML := Lib.hid (show (mnH ([f])).length = i + 1 from by rw [← HMM.out, dgs_len, HI0.out])
                    have HCH := Lib.hid (show cH D L [] f = (mnH ([f]) == lst D (i + 1)) from by simp [cH, HBT.out, hok, HI0.out])
                    clear hok
                    have hw1 : IntKind.i64.wrap ((i : Int) + 1) = (i : Int) + 1 := IntWalk.i64_in _ (by omega)
                    have hw2 : (0 : Int) ≤ (i : Int) + 1 := by omega
                    have hw3 : (i : Int) + 1 ≤ (c : Int) := by omega
                    have hw4 : ((i : Int) + 1).toNat = i + 1 := by omega
                    go_region_law (first
                      | (go_simp; go_at_call 36; refine (rvalidHoist_any _ 1 c3 (gI ([f])) _ ⟨hn5, hm5⟩ (HS5.out.below (by exact bl_d7 _))).mono ?_; rintro e w11 ⟨rfl, rfl⟩; rw [HOK.out])
                      | (go_simp; go_at_call 38; refine (rmns_any _ 1 c3 (gI ([f])) _ (HS5.out.below (by exact bl_d7 _)) HOK.out).mono ?_; rintro e w11 ⟨v6, rfl, ho6, hb6⟩; rw [HMM.out] at ho6; obtain ⟨-, A6, c6, rfl, -, hm6, hs6⟩ := own_sl7 ho6; have HS6 := Lib.hid hs6; have HB6 := Lib.hid (Bl.tr (bl_d7 w10) hb6); clear ho6 hb6 hs6)
                      | (go_simp; go_at_call 13; refine (sameInts7_any A6 1 c6 (gI (mnH ([f]))) _ (i + 1) c D _ (by unfold maxLen; omega) (by unfold maxLen; omega) HS6.out ((HA.out.take7 (by omega)).below (Bl.tr HBW.out (Bl.tr B10.out HB6.out)))).mono ?_; rintro e w12 ⟨rfl, N12, rfl⟩; rw [show sIB 1 (gI (mnH ([f]))) (i + 1) D = (mnH ([f]) == lst D (i + 1)) from by have e := HI0.out; have hl := HML.out; rw [e] at hl ⊢; exact sIB_lst hl HD.out (by omega)])
                      | fail)
                    have BWW := Lib.hid (show Bl wr (w11.drewN N12) from Bl.tr B10.out (Bl.tr HB6.out (bl_dN7 _ _)))
                    have zw := BWW.out.size
                    have zw2 : wr.heap.size ≤ w11.heap.size := (Bl.tr B10.out HB6.out).size
                    have B10W := Lib.hid (show Bl w10 (w11.drewN N12) from Bl.tr HB6.out (bl_dN7 _ _))
                    have HXW := Lib.hid (show (w11.drewN N12).ownsRow Wo.heap.size 3 1 (.slice (some ⟨g3, 0, none⟩) 1 c3) ([f]).length (inN ([f])) from own_base (own_same HX.out (fun g hg => B10W.out.block g (HX.out.lt g hg).2)) (fun g hg => Nat.le_trans zb3 (HX.out.lt g hg).1))
                    have HNE := Lib.hid (show ∀ g, (Value.slice (some ⟨g3, 0, none⟩) 1 c3).ownBlock = some g → (Value.slice An els3.length cn).ownBlock ≠ some g from fun g hg e => by
                      have hg : g3 = g := Option.some.inj hg
                      have := (HRR3.out.1.lt g e).2
                      omega)
                    cases hMM : (mnH ([f]) == lst D (i + 1)) with
                    | false =>
                      have HBF := Lib.hid (show cH D L [] f = false from by rw [HCH.out, hMM])
                      clear hMM
                      go_wp2_with fail
                      go_roundw
                      case rel => exact ⟨f + 1, by omega, by go_num, ⟨els3, by rw [r0_ext, HBF.out, HELS3.out]; simp, HRR3.out.keep BWW.out⟩, Bl.tr HB3.out BWW.out⟩
                      case measure => simp [RowKit.intOf]; omega
                    | true =>
                      have HBF := Lib.hid (show cH D L [] f = true from by rw [HCH.out, hMM])
                      clear hMM
                      go_wp2_with (at_builtin; refine wpList_append_own_at _ rfl _ _ _ rfl Wo.heap.size 22 j0 _ 1 24 Try.underlying24 HJ.out.1 HJ.out.2.1 HJ.out.2.2.1 HJ.out.2.2.2 rfl (by decide) _ _ _ rfl ((HRR3.out.keep BWW.out).1.alloc _) _ 1 1 [.slice (some ⟨g3, 0, none⟩) 1 c3] rfl rfl (by first | exact cell_one_new _ _ _ | exact ap_news7 (alloc2_new7 _ _ _)) (by simp [Value.oneCell']) (by unfold maxLen; omega) (by omega) (by (try simp only [World.size_alloc]); omega) ?_; intro v4 w14 hown4 hgrow4 _ hat4; have B14 := Lib.hid (show Bl Wo w14 from Below.grown ((Bl.tr HB3.out BWW.out).trans (by go_grown)) hgrow4 (by (try simp only [World.size_alloc]); omega) (fun j hj => (HRR3.out.1.lt j hj).1)); have HRR4 := Lib.hid (RR.snoc (l := [f]) (HRR3.out.keep BWW.out) HXW.out HNE.out hgrow4 hown4 hat4); clear hown4 hgrow4 hat4)
                      go_roundw
                      case rel => exact ⟨f + 1, by omega, by go_num, ⟨els3 ++ [(.slice (some ⟨g3, 0, none⟩) 1 c3, [f])], by rw [r0_ext, HBF.out]; simp [HELS3.out], HRR4.out⟩, B14.out⟩
                      case measure => simp [RowKit.intOf]; omega
              · obtain rfl : f = 13 := by omega
                go_wp2_with fail
                go_roundw
                case rel => exact ⟨k + 1, by omega, by go_num, ⟨els3, by rw [HELS3.out]; unfold t0; rw [if_neg (by omega)]; rfl, HRR3.out⟩, HB3.out⟩
                case measure => simp [RowKit.intOf]; omega
          · obtain rfl : k = 1 := by omega
            go_wp2_with fail
            go_roundw
            case rel => exact ⟨i + 1, by omega, by go_num, ⟨els2, by
              rw [HELS2.out, if_neg (by omega), HI0.out]; rw [show itr D L (0 + 1) [[]] = (itr D L 0 [[]]).flatMap (extH D L) from itr_snoc .., show itr D L 0 [[]] = [[]] from rfl]; simp [t0], HRR2.out.base zp2⟩, Bl.tr BP.out HB2.out⟩
            case measure => simp [RowKit.intOf]; omega
      · have hie : ((i : Int) == 0) = false := beq_eq_false_iff_ne.2 (by omega)
        have HE2 := Lib.hid (show els.map Prod.snd = itr D L i [[]] from by rw [HELS.out, if_neg hi0])
        have hmax : els.length ≤ 28561 := by
          have h1 := congrArg List.length HE2.out
          rw [List.length_map] at h1
          have h2 := itr_max D L i
          have h3 : 13 ^ i ≤ 13 ^ 4 := Nat.pow_le_pow_right (by decide) (by omega)
          have h4 : (13 : Nat) ^ 4 = 28561 := by decide
          omega
        obtain ⟨A5, c5, rfl, hc51, hc52, hrow⟩ := row_shape HRR.out.1
        have HROW := Lib.hid hrow
        unfold maxLen at hc52
        clear hrow
        go_wp2_with fail
        obtain ⟨Wo, hWo⟩ : ∃ Wo, Wo = wr := ⟨_, rfl⟩
        subst hWo
        go_loopw [7, 24] (fun v iv wr => ∃ k : Nat, k ≤ els.length ∧ iv = .int .i64 k ∧ (∃ els2, els2.map Prod.snd = ((itr D L i [[]]).take k).flatMap (extH D L) ∧ RR Wo.heap.size els2 v wr) ∧ Bl Wo wr) (fun _ iv _ => els.length - (RowKit.intOf iv).toNat)
        case atStart => exact ⟨0, Nat.zero_le _, rfl, ⟨[], by simp, RR.nil _ _⟩, Below.refl _ _⟩
        case round =>
          obtain ⟨k, hk, rfl, ⟨els2, hels2, hrr2⟩, hb2⟩ := hrel
          have HELS2 := Lib.hid hels2
          have HRR2 := Lib.hid hrr2
          have HB2 := Lib.hid hb2
          clear hels2 hrr2 hb2
          by_cases hkl : k < els.length
          · obtain ⟨g5, rfl, hg5, hcell⟩ := HROW.out k hkl
            have hel := HRR.out.2 els[k] (List.getElem_mem hkl)
            have hkl2 : k < (itr D L i [[]]).length := by rw [← HE2.out, List.length_map]; exact hkl
            obtain ⟨⟨hv, h⟩, hee⟩ : ∃ e, e = els[k] := ⟨_, rfl⟩
            have HH := Lib.hid (show (itr D L i [[]])[k] = h from by have h2 : (els.map Prod.snd)[k]'(by simpa using hkl) = (itr D L i [[]])[k] := by simp only [HE2.out]
                                                                     rw [← h2]; simp [← hee])
            rw [← hee] at hel
            dsimp only at hel
            have hcc : Wo.cell? ⟨g5, k, none⟩ = some hv := by rw [hcell, List.getElem?_map, List.getElem?_eq_getElem hkl, ← hee]; rfl
            have hhl : h.length = i := by rw [← HH.out]; exact itr_len D L i _ (List.getElem_mem hkl2)
            obtain ⟨-, Ah, hcap2, rfl, hcap21, hcap22, hslh⟩ := own_sl7 hel.1
            obtain ⟨hb2, hoff2, rfl, -, -⟩ := hslh (by omega)
            have HSLH := Lib.hid hslh
            have HHL := Lib.hid hhl
            have h1 : 1 ≤ h.length := by omega
            have h3 : h.length ≤ 3 := by omega
            have c5k := (HB2.out.cell (p := ⟨g5, k, none⟩) hg5).trans hcc
            unfold maxLen at hcap22
            clear hel hcell hee hcc hslh hhl
            go_wp2_with fail
            obtain ⟨Wm, hWm⟩ : ∃ Wm, Wm = wr := ⟨_, rfl⟩
            subst hWm
            go_loopw [7, 28] (fun v iv wr => ∃ f : Nat, f ≤ 13 ∧ iv = .int .i64 f ∧ (∃ els3, els3.map Prod.snd = ((itr D L i [[]]).take k).flatMap (extH D L) ++ (List.range f).flatMap (fun f => if cH D L h f then [h ++ [f]] else []) ∧ RR Wo.heap.size els3 v wr) ∧ Bl Wo wr) (fun _ iv _ => 13 - (RowKit.intOf iv).toNat)
            case atStart => exact ⟨0, Nat.zero_le _, rfl, ⟨els2, by simpa using HELS2.out, HRR2.out⟩, HB2.out⟩
            case round =>
              obtain ⟨f, hf, rfl, ⟨els3, hels3, hrr3⟩, hb3⟩ := hrel
              obtain ⟨An, cn, rfl, -, -, -⟩ := row_shape hrr3.1
              have HELS3 := Lib.hid hels3
              have HRR3 := Lib.hid hrr3
              have HB3 := Lib.hid hb3
              have zb3 := hb3.size
              have hmax3 : els3.length ≤ 371319 := by
                have h1 := congrArg List.length HELS3.out
                rw [List.length_map, List.length_append] at h1
                have h2 := ext_max D L ((itr D L i [[]]).take k)
                have h3 := rng_max D L h f
                have h4 := itr_max D L i
                have h5 : 13 ^ i ≤ 13 ^ 4 := Nat.pow_le_pow_right (by decide) (by omega)
                have h6 : (13 : Nat) ^ 4 = 28561 := by decide
                have h7 : ((itr D L i [[]]).take k).length ≤ 28561 := by rw [List.length_take]; omega
                omega
              clear hels3 hrr3 hb3
              by_cases hlf : f < 13
              · have HO0 := Lib.hid (lit_nil7 wr)
                have HSH := Lib.hid (show Sl wr (some ⟨hb2, hoff2, none⟩) h.length (gI h) from HSLH.out.below HB3.out)
                have HBW := Lib.hid (Bl.tr HB.out HB3.out)
                have HHB := Lib.hid (has_val3 (f := f) hL)
                go_wp2_with (first | (at_builtin; refine wpList_append_lies _ rfl _ _ _ rfl wr.heap.size 3 i0 _ 1 8 Try.underlying22 HI.out.1 HI.out.2.1 HI.out.2.2.1 HI.out.2.2.2 rfl (by omega) _ 0 [] rfl HO0.out ⟨hb2, hoff2, none⟩ h.length hcap2 (inN h) rfl (by rw [inN_len]; omega) (in_news7 rfl (HSH.out.below (by go_grown))) (inN_one _) (by omega) (by unfold maxLen; omega) (by omega) (by (try simp only [World.size_alloc]); omega) _ rfl ?_; intro gg cp w9 hown1 hgrow9 hat hlt9; have hown2 : w9.ownsRow wr.heap.size 3 1 (.slice (some ⟨gg, 0, none⟩) h.length cp) h.length (inN h) := (by have h := hown1; simp only [Nat.zero_add, List.nil_append] at h; exact h); have HO9 := Lib.hid hown2; have B9 := Lib.hid (show Bl wr w9 from Below.grown (by go_grown) hgrow9 (by (try simp only [World.size_alloc]); omega) (fun j hj => by have hj : wr.heap.size = j := Option.some.inj hj; omega)); have z9 := B9.out.size; (try simp only [Nat.zero_add]); clear hown1 hown2 hgrow9 hat) | (at_builtin; refine wpList_append_own _ rfl _ _ _ rfl wr.heap.size 3 i0 _ 1 8 Try.underlying22 HI.out.1 HI.out.2.1 HI.out.2.2.1 HI.out.2.2.2 rfl (by decide) _ _ _ rfl (HO9.out.alloc _) _ 1 1 [.int .i64 (f : Int)] rfl rfl (by first | exact cell_one_new _ _ _ | exact ap_news7 (alloc2_new7 _ _ _)) (by simp [Value.oneCell']) (by unfold maxLen; omega) (by omega) (by (try simp only [World.size_alloc]); omega) ?_; intro v3 w10 hown3 hgrow3 _; obtain ⟨g3, c3, rfl⟩ := ownsRow_succ hown3; have B10 := Lib.hid (show Bl wr w10 from Below.grown (B9.out.trans (by go_grown)) hgrow3 (by (try simp only [World.size_alloc]); omega) (fun j hj => (HO9.out.lt j hj).1)); have HO10 := Lib.hid hown3; clear hown3 hgrow3))
                have HX := Lib.hid (show w10.ownsRow wr.heap.size 3 1 (.slice (some ⟨g3, 0, none⟩) (h.length + 1) c3) (h.length + 1) (inN (h ++ [f])) from by have h2 := HO10.out; (try simp only [Nat.zero_add, List.nil_append, List.length_nil] at h2); rw [show inN (h ++ [f]) = inN h ++ [.int .i64 (f : Int)] by simp [inN]]; exact h2)
                obtain ⟨-, A5, c5, e5, hn5, hm5, hs5⟩ := own_sl7 HX.out
                injection e5 with e51 _ e52
                subst e51 e52
                have HS5 := Lib.hid hs5
                have hg3 := (HX.out.lt g3 rfl).1
                clear hs5
                cases hB : hasB L f with
                | false =>
                  have HBF := Lib.hid (show cH D L h f = false from by rw [cH, hB]; rfl)
                  have hband : bits BinOp.and IntKind.i64 ((L : Int) / 2 ^ f) 1 = 0 := by rw [HHB.out, hB]; rfl
                  clear hB
                  go_quiet (fail)
                  all_goals
                    go_wp2_with fail
                    go_roundw
                    case rel => exact ⟨f + 1, by omega, by go_num, ⟨els3, by rw [range_ext, HBF.out, HELS3.out]; simp, HRR3.out.keep (Bl.tr B10.out (bl_dN7 _ _))⟩, Bl.tr HB3.out (Bl.tr B10.out (bl_dN7 _ _))⟩
                    case measure => simp [RowKit.intOf]; omega
                | true =>
                  have hband : bits BinOp.and IntKind.i64 ((L : Int) / 2 ^ f) 1 = 1 := by rw [HHB.out, hB]; rfl
                  have HBT := Lib.hid hB
                  clear hB
                  cases hok : okH (h ++ [f]) with
                  | false =>
                    have HOK := Lib.hid (show vhB (h.length + 1) (gI (h ++ [f])) = false from by have h2 := hok; unfold okH at h2; rw [List.length_append, List.length_singleton] at h2; exact h2)
                    have HBF := Lib.hid (show cH D L h f = false from by rw [cH, hok]; simp)
                    clear hok
                    go_quiet ((go_at_call 36; exact Calls.quiet_of_same ((rvalidHoist_any _ (h.length + 1) c3 (gI (h ++ [f])) _ ⟨hn5, hm5⟩ (HS5.out.below (by exact bl_dN7 _ _))).mono fun e w' h => ⟨h.1.trans (by rw [HOK.out]), h.2.symm⟩)))
                    all_goals
                      go_wp2_with fail
                      go_roundw
                      case rel => exact ⟨f + 1, by omega, by go_num, ⟨els3, by rw [range_ext, HBF.out, HELS3.out]; simp, HRR3.out.keep (Bl.tr B10.out (bl_dN7 _ _))⟩, Bl.tr HB3.out (Bl.tr B10.out (bl_dN7 _ _))⟩
                      case measure => simp [RowKit.intOf]; omega
                  | true =>
                    have HOK := Lib.hid (show vhB (h.length + 1) (gI (h ++ [f])) = true from by have h2 := hok; unfold okH at h2; rw [List.length_append, List.length_singleton] at h2; exact h2)
                    have HMM := Lib.hid (show dgs (gI (h ++ [f])) (h.length + 1) = mnH (h ++ [f]) from by unfold mnH; rw [List.length_append, List.length_singleton])
                    have HML := Lib.hid (show (mnH (h ++ [f])).length = i + 1 from by rw [← HMM.out, dgs_len]; exact congrArg (· + 1) HHL.out)
                    have HCH := Lib.hid (show cH D L h f = (mnH (h ++ [f]) == lst D (i + 1)) from by rw [cH, HBT.out, hok]; simp; rw [HHL.out])
                    clear hok
                    have hw1 : IntKind.i64.wrap ((i : Int) + 1) = (i : Int) + 1 := IntWalk.i64_in _ (by omega)
                    have hw2 : (0 : Int) ≤ (i : Int) + 1 := by omega
                    have hw3 : (i : Int) + 1 ≤ (c : Int) := by omega
                    have hw4 : ((i : Int) + 1).toNat = i + 1 := by omega
                    go_region_law (first
                      | (go_simp; go_at_call 36; refine (rvalidHoist_any _ (h.length + 1) c3 (gI (h ++ [f])) _ ⟨hn5, hm5⟩ (HS5.out.below (by exact bl_d7 _))).mono ?_; rintro e w11 ⟨rfl, rfl⟩; rw [HOK.out])
                      | (go_simp; go_at_call 38; refine (rmns_any _ (h.length + 1) c3 (gI (h ++ [f])) _ (HS5.out.below (by exact bl_d7 _)) HOK.out).mono ?_; rintro e w11 ⟨v6, rfl, ho6, hb6⟩; rw [HMM.out] at ho6; obtain ⟨-, A6, c6, rfl, -, hm6, hs6⟩ := own_sl7 ho6; have HS6 := Lib.hid hs6; have HB6 := Lib.hid (Bl.tr (bl_d7 w10) hb6); clear ho6 hb6 hs6)
                      | (go_simp; go_at_call 13; refine (sameInts7_any A6 (h.length + 1) c6 (gI (mnH (h ++ [f]))) _ (i + 1) c D _ (by unfold maxLen; omega) (by unfold maxLen; omega) HS6.out ((HA.out.take7 (by omega)).below (Bl.tr HBW.out (Bl.tr B10.out HB6.out)))).mono ?_; rintro e w12 ⟨rfl, N12, rfl⟩; rw [show sIB (h.length + 1) (gI (mnH (h ++ [f]))) (i + 1) D = (mnH (h ++ [f]) == lst D (i + 1)) from by rw [← HHL.out]; exact sIB_lst (by rw [HML.out, HHL.out]) HD.out (by rw [HHL.out]; omega)])
                      | fail)
                    have BWW := Lib.hid (show Bl wr (w11.drewN N12) from Bl.tr B10.out (Bl.tr HB6.out (bl_dN7 _ _)))
                    have zw := BWW.out.size
                    have zw2 : wr.heap.size ≤ w11.heap.size := (Bl.tr B10.out HB6.out).size
                    have B10W := Lib.hid (show Bl w10 (w11.drewN N12) from Bl.tr HB6.out (bl_dN7 _ _))
                    have HXW := Lib.hid (show (w11.drewN N12).ownsRow Wo.heap.size 3 1 (.slice (some ⟨g3, 0, none⟩) (h.length + 1) c3) (h ++ [f]).length (inN (h ++ [f])) from by rw [List.length_append, List.length_singleton]; exact own_base (own_same HX.out (fun g hg => B10W.out.block g (HX.out.lt g hg).2)) (fun g hg => Nat.le_trans zb3 (HX.out.lt g hg).1))
                    have HNE := Lib.hid (show ∀ g, (Value.slice (some ⟨g3, 0, none⟩) (h.length + 1) c3).ownBlock = some g → (Value.slice An els3.length cn).ownBlock ≠ some g from fun g hg e => by
                      have hg : g3 = g := Option.some.inj hg
                      have := (HRR3.out.1.lt g e).2
                      omega)
                    cases hMM : (mnH (h ++ [f]) == lst D (i + 1)) with
                    | false =>
                      have HBF := Lib.hid (show cH D L h f = false from by rw [HCH.out, hMM])
                      clear hMM
                      go_wp2_with fail
                      go_roundw
                      case rel => exact ⟨f + 1, by omega, by go_num, ⟨els3, by rw [range_ext, HBF.out, HELS3.out]; simp, HRR3.out.keep BWW.out⟩, Bl.tr HB3.out BWW.out⟩
                      case measure => simp [RowKit.intOf]; omega
                    | true =>
                      have HBF := Lib.hid (show cH D L h f = true from by rw [HCH.out, hMM])
                      clear hMM
                      go_wp2_with (at_builtin; refine wpList_append_own_at _ rfl _ _ _ rfl Wo.heap.size 22 j0 _ 1 24 Try.underlying24 HJ.out.1 HJ.out.2.1 HJ.out.2.2.1 HJ.out.2.2.2 rfl (by decide) _ _ _ rfl ((HRR3.out.keep BWW.out).1.alloc _) _ 1 1 [.slice (some ⟨g3, 0, none⟩) (h.length + 1) c3] rfl rfl (by first | exact cell_one_new _ _ _ | exact ap_news7 (alloc2_new7 _ _ _)) (by simp [Value.oneCell']) (by unfold maxLen; omega) (by omega) (by (try simp only [World.size_alloc]); omega) ?_; intro v4 w14 hown4 hgrow4 _ hat4; have B14 := Lib.hid (show Bl Wo w14 from Below.grown ((Bl.tr HB3.out BWW.out).trans (by go_grown)) hgrow4 (by (try simp only [World.size_alloc]); omega) (fun j hj => (HRR3.out.1.lt j hj).1)); have HRR4 := Lib.hid (RR.snoc (l := h ++ [f]) (HRR3.out.keep BWW.out) HXW.out HNE.out hgrow4 hown4 hat4); clear hown4 hgrow4 hat4)
                      go_roundw
                      case rel => exact ⟨f + 1, by omega, by go_num, ⟨els3 ++ [(.slice (some ⟨g3, 0, none⟩) (h.length + 1) c3, h ++ [f])], by rw [range_ext, HBF.out]; simp [HELS3.out], HRR4.out⟩, B14.out⟩
                      case measure => simp [RowKit.intOf]; omega
              · obtain rfl : f = 13 := by omega
                go_wp2_with fail
                go_roundw
                case rel => exact ⟨k + 1, by omega, by go_num, ⟨els3, by rw [take_ext hkl2, HH.out]; exact HELS3.out, HRR3.out⟩, HB3.out⟩
                case measure => simp [RowKit.intOf]; omega
          · obtain rfl : k = els.length := by omega
            go_wp2_with fail
            go_roundw
            case rel => exact ⟨i + 1, by omega, by go_num, ⟨els2, by
              rw [HELS2.out, if_neg (by omega), itr_snoc, List.take_of_length_le (by rw [← HE2.out, List.length_map]; omega)], HRR2.out.base zb⟩, Bl.tr HB.out HB2.out⟩
            case measure => simp [RowKit.intOf]; omega
    · obtain rfl : i = n := by omega
      have HE2 := Lib.hid (show els.map Prod.snd = itr D L i [[]] from by rw [HELS.out, if_neg (by omega)])
      go_wp2_with fail
      go_ret
      exact ⟨_, els, rfl, HE2.out, HRR.out, HB.out⟩
end Go.Proofs.Ytdikflklkmfcfaa
