/-
  Package sight: a chart's contradiction.
-/
import Derived.Test.YtchikfegpoonjaaPQ
import Derived.Laws.AppendOwn
namespace Go.Proofs.Ytchikfegpoonjaa
open Go.RowKit Go.Maps Go.Sort
set_option linter.unusedSimpArgs false
set_option linter.unusedVariables false

theorem bl_putS {w W : World} {g N : Nat} {d : Array Int} (h : Bl w W) (hg : w.heap.size ≤ g) : Bl w (putRow (Value.int .i64) (Sort.ahead W N) g 0 d) :=
  ⟨h.os, h.tape, h.output, by simpa [Sort.ahead] using h.size, fun k hk => by
    have hne : ¬ g = k := by omega
    have := h.block k hk
    simp [putRow, mapBlock, Sort.ahead, Array.getElem?_modify, hne, this]⟩
theorem made_zero (n : Nat) : madeCells #[.int .i64 0] n = (filC 0 n n).toArray := by
  rw [made_filC 0 n]
  simp [filC]
theorem int_infoS : (Try.prog.info? 3).map (fun i => (i.zero, i.size, i.bytes)) = some (some (.int .i64 0), 1, 8) := by kernel_rfl
def intS (l : List Int) : List Value := l.map (Value.int .i64)
theorem intS_snoc (l : List Int) (x : Int) : intS (l ++ [x]) = intS l ++ [.int .i64 x] := by simp [intS]
theorem noF_skip {E : Nat → Edg} {b : Nat → Int} {v k : Nat} (h : (E (b (itF (prF E b) k v)).toNat).no = -1) : noF E b v (k + 1) = noF E b v k := by rw [noF, if_pos h]
theorem noF_add {E : Nat → Edg} {b : Nat → Int} {v k : Nat} (h : ¬ (E (b (itF (prF E b) k v)).toNat).no = -1) : noF E b v (k + 1) = noF E b v k ++ [(E (b (itF (prF E b) k v)).toNat).no] := by rw [noF, if_neg h]
/-- Costs that were all nothing, settled. -/
def zrS (s : List Edg) (n : Nat) : Stt × Int := setS (gtE s) s.length n ⟨fun _ => 0, fun _ => -1⟩ (-1)
theorem bdd_zero : Bdd (fun _ => 0) 0 := fun v => .inr ⟨by simp, by simp⟩
theorem itF_comm (f : Nat → Nat) (j k v : Nat) : itF f j (itF f k v) = itF f k (itF f j v) := by rw [← itF_add, ← itF_add, Nat.add_comm]
theorem Cyc.inj {E : Nat → Edg} {m : Nat} {b : Nat → Int} {y p : Nat} (h : Cyc E m b y p) {i j : Nat} (hij : i < j) (hj : j < p) : itF (prF E b) i y ≠ itF (prF E b) j y := fun he => by
  refine h.fst (j - i) (by omega) (by omega) ?_
  have a : itF (prF E b) (j - i) (itF (prF E b) i y) = itF (prF E b) i y := by rw [← itF_add, show j - i + i = j by omega, he]
  have c : itF (prF E b) (p - i) (itF (prF E b) i y) = y := by rw [← itF_add, show p - i + i = p by omega, h.ret]
  calc itF (prF E b) (j - i) y = itF (prF E b) (j - i) (itF (prF E b) (p - i) (itF (prF E b) i y)) := by rw [c]
    _ = itF (prF E b) (p - i) (itF (prF E b) (j - i) (itF (prF E b) i y)) := itF_comm _ _ _ _
    _ = y := by rw [a, c]
theorem Cyc.le {E : Nat → Edg} {m n : Nat} {b : Nat → Int} {y p : Nat} (h : Cyc E m b y p) (hE : ∀ i, i < m → (E i).to < n) : p ≤ n := by
  refine Classical.byContradiction fun q => ?_
  obtain ⟨i, j, hij, hj, he⟩ := pigeon n (fun k => itF (prF E b) k y) (fun k _ => by
    obtain ⟨e, h1, _, h3⟩ := h.has k
    rw [← h3]; exact hE e h1)
  exact h.inj hij (by omega) he
/-- The place of a point on its circle. -/
def rkF (f : Nat → Nat) (y x : Nat) : Nat → Nat
  | 0 => 0
  | p + 1 => if itF f p y = x then p else rkF f y x p
theorem rkF_at {f : Nat → Nat} {y k p : Nat} (hk : k < p) (hi : ∀ j, k < j → j < p → itF f k y ≠ itF f j y) : rkF f y (itF f k y) p = k := by
  induction p with
  | zero => omega
  | succ p ih =>
    rw [rkF]
    by_cases e : k = p
    · rw [if_pos (by rw [e])]; exact e.symm
    · rw [if_neg (fun q => hi p (by omega) (by omega) q.symm)]
      exact ih (by omega) (fun j h1 h2 => hi j h1 (by omega))
theorem Cyc.rk {E : Nat → Edg} {m : Nat} {b : Nat → Int} {y p k : Nat} (h : Cyc E m b y p) (hk : k < p) : rkF (prF E b) y (itF (prF E b) k y) p = k := rkF_at hk (fun j h1 h2 => h.inj h1 h2)
/-- A row of numbers that is owned. -/
theorem own_holds {w : World} {base g n cap : Nat} {l : List Int} (h : w.ownsRow base 3 1 (.slice (some ⟨g, 0, none⟩) n cap) l.length (intS l)) : Holds (Value.int .i64) w g 0 l.toArray ∧ g < w.heap.size ∧ base ≤ g ∧ n = l.length := by
  rcases h.2 with ⟨e, h0⟩ | ⟨g', cap', cur, e, hb, hg, hnc, hcm, hcs, htake⟩
  · cases e
  · obtain ⟨rfl, rfl, rfl⟩ : g = g' ∧ n = l.length ∧ cap = cap' := by simpa using e
    refine ⟨fun j hj => ?_, (Array.getElem?_eq_some_iff.1 hg).1, hb, rfl⟩
    have hj' : j < l.length := by simpa using hj
    have hc := h.cellAt j (by omega)
    rw [Nat.zero_add]
    refine ⟨?_, by simp [World.frozen?, hg]⟩
    rw [hc]
    simp [intS, hj']
theorem own_end {w : World} {base : Nat} {V : Value} {l : List Int} (h : w.ownsRow base 3 1 V l.length (intS l)) (hl : l ≠ []) : ∃ g cap, V = .slice (some ⟨g, 0, none⟩) l.length cap ∧ Holds (Value.int .i64) w g 0 l.toArray ∧ g < w.heap.size ∧ base ≤ g := by
  obtain ⟨A2, cp, rfl⟩ := own_shapeQ h
  rcases h.2 with ⟨e, h0⟩ | ⟨g, cap, cur, e, _⟩
  · exact absurd (List.length_eq_zero_iff.1 h0) hl
  · obtain ⟨rfl, rfl⟩ : A2 = some ⟨g, 0, none⟩ ∧ cp = cap := by simpa using e
    obtain ⟨h1, h2, h3, _⟩ := own_holds h
    exact ⟨g, cp, rfl, h1, h2, h3⟩
theorem rev_cell {W : World} {g N : Nat} {l : List Int} (h : Holds (Value.int .i64) W g 0 l.toArray) {j : Nat} (hj : j < l.length) : (putRow (Value.int .i64) (Sort.ahead W N) g 0 l.reverse.toArray).cell? ⟨g, j, none⟩ = some (.int .i64 (l.reverse.getD j 0)) := by
  have h' : Holds (Value.int .i64) (Sort.ahead W N) g 0 l.toArray := h
  have := cell?_putRow (Value.int .i64) (Sort.ahead W N) g 0 l.toArray l.reverse.toArray h' (by simp) j (by simpa using hj)
  rw [Nat.zero_add] at this
  rw [this]
  have hj' : j < l.reverse.length := by simpa using hj
  simp [hj', List.getD_eq_getElem?_getD]
/-- What conflict answers. -/
def CfP (s : List Edg) (n : Nat) (w : World) (e : Ending) (w' : World) : Prop := Bl w w' ∧ (((zrS s n).2 = -1 ∧ e = .returned (.slice none 0 0)) ∨ ((zrS s n).2 ≠ -1 ∧ ∃ y p g cap, Cyc (gtE s) s.length (zrS s n).1.b y p ∧
  e = .returned (.slice (some ⟨g, 0, none⟩) (noF (gtE s) (zrS s n).1.b y p).length cap) ∧ g < w'.heap.size ∧ w.heap.size ≤ g ∧ (∀ j, j < (noF (gtE s) (zrS s n).1.b y p).length → w'.cell? ⟨g, j, none⟩ = some (.int .i64 ((noF (gtE s) (zrS s n).1.b y p).reverse.getD j 0)))))
set_option maxRecDepth 100000 in
set_option maxHeartbeats 12800000 in
theorem conflict_any (C M cp cs : Nat) (l : List Spt) (s : List Edg) (Ap As : Option Addr) (K : Int) (w : World) (h : Ch w C M l s Ap cp As cs) (hK : StpOk (gtE s) s.length l.length K) (hno : ∀ i, i < s.length → -1 ≤ (gtE s i).no ∧ (gtE s i).no ≤ 100000) (hc : ∀ i, i < s.length → (gtE s i).no = -1 → 0 ≤ (gtE s i).co) :
    Calls Try.prog 21 #[.pointer (some ⟨C, 0, none⟩)] w fun e w' => CfP s l.length w e w' := by
  obtain ⟨i0, hi0, hz0, hz1, hz2⟩ := info_partsS int_infoS
  have HI := Lib.hid (And.intro hi0 (And.intro hz0 (And.intro hz1 hz2)))
  obtain ⟨S, hS⟩ : ∃ S, S = zrS s l.length := ⟨_, rfl⟩
  obtain ⟨m, hm⟩ : ∃ m, m = s.length := ⟨_, rfl⟩
  have hSS : S = setS (gtE s) m l.length ⟨fun _ => 0, fun _ => -1⟩ (-1) := by rw [hS, zrS, hm]
  obtain ⟨n, hn⟩ : ∃ n, n = l.length := ⟨_, rfl⟩
  obtain ⟨E, hE⟩ : ∃ E, E = gtE s := ⟨_, rfl⟩
  have c0 := h.c0
  have lC := ltb c0
  have HH := Lib.hid h
  unfold CfP
  rw [← hS, ← hE, ← hm]
  rw [← hE, ← hn] at hSS
  rw [← hn] at c0
  rw [← hE, ← hm, ← hn] at hK
  rw [← hE, ← hm] at hno hc
  have hn3 := hK.n3
  have HKK := Lib.hid hK
  have HNO := Lib.hid (And.intro hno hc)
  have HM := Lib.hid (And.intro hS (And.intro hm (And.intro hn (And.intro hE hSS))))
  clear h hK hno hc hS hm hn hE hSS hi0 hz0 hz1 hz2
  have hmk : ∀ (W : World), (Instr.makeSlice 24 (.int .i64 (n : Int)) (.int .i64 (n : Int))).run Try.prog W = .ok (.slice (some ⟨W.heap.size, 0, none⟩) n n) (W.alloc (.cells (madeCells #[.int .i64 0] n) 3)) :=
    fun W => run_make_row' _ _ _ 8 Try.underlying24 (by kernel_rfl) rfl .i64 .i64 n (by omega) (by omega) W
  obtain ⟨X, hX⟩ : ∃ X, X = w.alloc (.cells (madeCells #[.int .i64 0] n) 3) := ⟨_, rfl⟩
  have BX : Bl w X := by rw [hX]; go_grown
  have HX := Lib.hid (HH.out.below BX)
  have hRX : Rw X w.heap.size n (fun _ => 0) := rw_of_fil (by rw [hX, made_zero]; exact heap_alloc_new _ _)
  have hgX : w.heap.size < X.heap.size := by rw [hX]; simp
  have hS := settle_any C w.heap.size n n cp Ap As m cs E (fun _ => 0) K X (by rw [HM.out.2.2.1]; exact HX.out.c0) (by rw [HM.out.2.1]; exact HX.out.c2) (by rw [HM.out.2.1, HM.out.2.2.2.1]; exact HX.out.es) hRX hgX HX.out.al (by omega) (fun k hk => by have := HH.out.al k hk; omega) HKK.out.m2 HKK.out.n3 HKK.out.ends bdd_zero HKK.out.cost HKK.out.k0 HKK.out.kb
  rw [← HM.out.2.2.2.2] at hS
  have HS := Lib.hid hS
  have HBX := Lib.hid BX
  clear hS BX hRX hgX
  have r1 : C < w.heap.size + 1 := by omega
  obtain ⟨f, hf⟩ : ∃ f, f = S.2 := ⟨_, rfl⟩
  rw [← hf] at HS ⊢
  have HF := Lib.hid hf
  clear hf
  go_enter Try.func21, Try.ntmps21
  go_wp2_with fail
  rw [← hX]
  refine HS.out.mono ?_
  rintro e1 w2 ⟨bb, nb, rfl, hb1, hb2, hRc, hRb, hx⟩
  have HB2 := Lib.hid (hx.bl HBX.out (Nat.le_refl _) (Nat.le_trans HBX.out.size hb1))
  have HRB := Lib.hid hRb
  have H2 := Lib.hid (HH.out.below HB2.out)
  clear hRc hx hb1 hRb hX hmk r1 HS
  by_cases hff : f = -1
  · have q0 : (f == -1) = true := by simp [hff]
    have HFF := Lib.hid hff
    clear hff
    go_wp2_with fail
    go_ret
    exact ⟨HB2.out, .inl ⟨HFF.out, rfl⟩⟩
  · have q0 : (f == -1) = false := by simp [hff]
    have hn1 : 1 ≤ n := by
      refine Classical.byContradiction fun q => hff ?_
      obtain rfl : n = 0 := by omega
      rw [HF.out, HM.out.2.2.2.2, setS]
    obtain ⟨v, hv, hfv, hhb, p, hcy⟩ := set_cyc (E := E) (m := m) (fun i hi => ⟨(HKK.out.ends i hi).1, (HKK.out.ends i hi).2.1⟩) (fun i hi => (HKK.out.ends i hi).2.2) hn1 (fun _ => 0) (-1) (by rw [← HM.out.2.2.2.2, ← HF.out]; exact hff)
    rw [← HM.out.2.2.2.2] at hfv hhb hcy
    rw [← HF.out] at hfv
    obtain ⟨b, hb⟩ : ∃ b, b = S.1.b := ⟨_, rfl⟩
    rw [← hb] at hhb hcy HRB
    have HBQ := Lib.hid hb
    clear hb
    have HHB := Lib.hid hhb
    have HCY := Lib.hid hcy
    have HFF := Lib.hid hff
    clear hhb hcy hff
    subst hfv
    have c0 : w2.cell? ⟨C, 0, none⟩ = some (.slice Ap n cp) := by rw [HM.out.2.2.1]; exact H2.out.c0
    have lc := ltb c0
    go_wp2_with fail
    go_loopw [4, 26] (fun v4 v26 wr => ∃ k : Nat, k ≤ n ∧ v26 = .int .i64 k ∧ v4 = .int .i64 (itF (prF E b) k v : Nat) ∧ Hid (Bl w2 wr)) (fun _ i _ => n - (intOf i).toNat)
    case atStart => exact ⟨0, Nat.zero_le _, rfl, rfl, Lib.hid (Below.refl _ _)⟩
    case round =>
      clear c0 lc
      obtain ⟨k, hk, rfl, rfl, HBW⟩ := hrel
      by_cases hlt : k < n
      · have hlt' : (k : Int) < (n : Int) := by omega
        obtain ⟨e, he, hbe, hte⟩ := HHB.out k hlt
        obtain ⟨x, hx⟩ : ∃ x, x = itF (prF E b) k v := ⟨_, rfl⟩
        have hxn : x < n := by rw [hx, ← hte]; exact (HKK.out.ends e he).2.1
        have hpx : prF E b x = (E e).fr := by rw [hx, prF, hbe, Int.toNat_natCast]
        have HN := Lib.hid (show itF (prF E b) (k + 1) v = (E e).fr by rw [← hpx, hx]; rfl)
        rw [← hx] at hbe ⊢
        clear hx hte hpx
        have c1 := kcb HBW.out (HRB.out x hxn).1
        rw [hbe] at c1
        have c2 := (H2.out.below HBW.out).c2
        rw [← HM.out.2.1] at c2
        obtain ⟨sb, so, rfl, hsb, hsc⟩ := (H2.out.below HBW.out).es (by rw [← HM.out.2.1]; omega)
        have c3 := (hsc e (by rw [← HM.out.2.1]; exact he)).1
        rw [← HM.out.2.2.2.1] at c3
        obtain ⟨fr, hfr⟩ : ∃ fr, fr = (E e).fr := ⟨_, rfl⟩
        rw [← hfr] at HN c3
        clear hsc hbe hfr
        have l1 := ltb c1
        have l2 := ltb c2
        go_wp2_with fail
        go_quiet (fail)
        go_wp2_with fail
        go_roundw
        case rel => exact ⟨k + 1, by omega, by go_num, by rw [HN.out], Lib.hid (HBW.out.tr (bl_drN _ _))⟩
        case measure => simp [intOf]; omega
      · have hlt' : ¬ (k : Int) < (n : Int) := by omega
        obtain rfl : n = k := by omega
        obtain ⟨y, hy⟩ : ∃ y, y = itF (prF E b) n v := ⟨_, rfl⟩
        have HY := Lib.hid hy
        rw [← hy] at HCY
        go_wp2_with fail
        go_loopw [4, 5] (fun v4 v5 wr => ∃ k : Nat, k < p ∧ v4 = .int .i64 (itF (prF E b) k y : Nat) ∧ Hid (wr.ownsRow w2.heap.size 3 1 v5 (noF E b y k).length (intS (noF E b y k))) ∧ Hid (Bl w2 wr)) (fun v4 _ _ => p - rkF (prF E b) y (intOf v4).toNat p)
        case atStart => exact ⟨0, by have := HCY.out.p1; omega, by rw [hy]; rfl, Lib.hid (World.ownsRow_nil _ _ _ _), HBW⟩
        case round =>
          clear HBW hy
          obtain ⟨k, hk, rfl, HO, HBW⟩ := hrel
          obtain ⟨e, he, hbe, hte⟩ := HCY.out.has k
          obtain ⟨x, hx⟩ : ∃ x, x = itF (prF E b) k y := ⟨_, rfl⟩
          have hxn : x < n := by rw [hx, ← hte]; exact (HKK.out.ends e he).2.1
          have hpx : prF E b x = (E e).fr := by rw [hx, prF, hbe, Int.toNat_natCast]
          have HN := Lib.hid (show itF (prF E b) (k + 1) y = (E e).fr by rw [← hpx, hx]; rfl)
          have HRK := Lib.hid (show rkF (prF E b) y x p = k by rw [hx]; exact HCY.out.rk hk)
          have HE := Lib.hid (show (E (b (itF (prF E b) k y)).toNat) = E e by rw [hbe, Int.toNat_natCast])
          rw [← hx] at hbe ⊢
          clear hx hte hpx
          have c1 := kcb HBW.out (HRB.out x hxn).1
          rw [hbe] at c1
          have c2 := (H2.out.below HBW.out).c2
          rw [← HM.out.2.1] at c2
          obtain ⟨sb, so, hAs, hsb, hsc⟩ := (H2.out.below HBW.out).es (by rw [← HM.out.2.1]; omega)
          obtain ⟨c3, c4, c5, c6⟩ := hsc e (by rw [← HM.out.2.1]; exact he)
          rw [hAs] at c2
          rw [← HM.out.2.2.2.1] at c3 c4 c5 c6
          obtain ⟨ed, hed⟩ : ∃ ed, ed = E e := ⟨_, rfl⟩
          have hno := HNO.out.1 e he
          rw [← hed] at HN HE c3 c4 c5 c6 hno
          have HAS := Lib.hid hAs
          clear hsc hbe hed hAs
          have l1 := ltb c1
          have l2 := ltb c2
          have l3 := ltb c3
          go_wp2_with fail
          go_region_law (fail)
          all_goals
            obtain ⟨Z, hZ⟩ : ∃ Z, Z = (wr.alloc (Obj.cells #[.int .i64 (ed.fr : Int), .int .i64 (ed.to : Int), .int .i64 ed.co, .int .i64 ed.no] 74)).drew := ⟨_, rfl⟩
            have BZ : Bl wr Z := by rw [hZ]; exact Bl.tr (by go_grown) (bl_drS _)
            have a0 : Z.cell? ⟨wr.heap.size, 0, none⟩ = some (.int .i64 (ed.fr : Int)) := by rw [hZ]; exact kcb (bl_drS _) (by go_cell)
            have a3 : Z.cell? ⟨wr.heap.size, 3, none⟩ = some (.int .i64 ed.no) := by rw [hZ]; exact kcb (bl_drS _) (by go_cell)
            have HOZ := Lib.hid (own_blS HO.out BZ)
            have HBZ := Lib.hid (HBW.out.tr BZ)
            have HOL := Lib.hid (fun g hg => (HO.out.lt g hg).2)
            have HLEP := Lib.hid (show (noF E b y p).length ≤ 1000 from by
              have h1 := noF_len E b y p
              have h2 := HCY.out.le (fun i hi => (HKK.out.ends i hi).2.1)
              omega)
            rw [← hZ]
            have zb := HBZ.out.size
            have la := ltb a0
            have HLEN := Lib.hid (show (noF E b y k).length ≤ 1000 from by
              have h1 := noF_len E b y k
              have h2 := HCY.out.le (fun i hi => (HKK.out.ends i hi).2.1)
              omega)
            clear hZ BZ HO HBW c1 c2 c3 c4 c5 c6 l1 l2 l3 hno
            by_cases hp : k + 1 = p
            · have q2 : ((ed.fr : Int) == ((itF (prF E b) n v : Nat) : Int)) = true := by
                have := HCY.out.ret
                rw [← hp, HN.out] at this
                rw [← HY.out]
                simp [this]
              by_cases hc : ed.no = -1
              · have q1 : (ed.no == -1) = true := by simp [hc]
                have HO5 := Lib.hid (show Z.ownsRow w2.heap.size 3 1 u5 (noF E b y p).length (intS (noF E b y p)) from by rw [← hp, noF_skip (by rw [HE.out]; exact hc)]; exact HOZ.out)
                obtain ⟨gg, cap, rfl, hH, hgl, hgb⟩ := own_end HO5.out (HCY.out.some HNO.out.2)
                have HHH := Lib.hid hH
                have HGG := Lib.hid (And.intro hgl hgb)
                have HPP := Lib.hid hp
                clear hH hgl hgb hc hp
                go_wp2_with fail
                refine (Try.slices_Reverse_int gg 0 cap _ _ HHH.out (by have := HLEP.out; omega)).mono ?_
                rintro e5 w5 ⟨rfl, N, rfl⟩
                go_wp2_with fail
                go_ret
                rw [← HBQ.out]
                exact ⟨bl_putS (HB2.out.tr HBZ.out) (Nat.le_trans HB2.out.size HGG.out.2), .inr ⟨HFF.out, y, p, gg, cap, HCY.out, rfl, by simpa [Sort.ahead] using HGG.out.1, Nat.le_trans HB2.out.size HGG.out.2, fun j hj => rev_cell HHH.out hj⟩⟩
              · have q1 : (ed.no == -1) = false := by simp [hc]
                have HCC := Lib.hid hc
                have HPP := Lib.hid hp
                clear hc hp
                go_wp2_with (at_builtin; refine wpList_append_own _ rfl _ _ _ rfl w2.heap.size 3 i0 _ 1 8 Try.underlying24 HI.out.1 HI.out.2.1 HI.out.2.2.1 HI.out.2.2.2 rfl (by decide) _ _ _ rfl (HOZ.out.alloc _) ⟨Z.heap.size, 0, none⟩ 1 1 [.int .i64 ed.no] rfl rfl (cell_one_new _ _ _) (by simp [Value.oneCell']) (by have := HLEN.out; unfold maxLen; omega) (by have := HLEN.out; omega) (by have := HBZ.out.size; (try simp only [World.size_alloc]); omega) ?_; intro v' w3 hown hgrow _; have a03 := World.grownBy.cell hgrow (kcb (show Bl Z (Z.alloc _) by go_grown) a0) (fun e => absurd (HOL.out _ e.symm) (Nat.lt_irrefl _)); have la3 := ltb a03; have HO3 := Lib.hid hown; have HB3 := Lib.hid (show Bl w2 w3 from Below.grown (HBZ.out.trans (by go_grown)) hgrow (by have := HBZ.out.size; (try simp only [World.size_alloc]); omega) (fun j hj => (HOZ.out.lt j hj).1)); clear hown hgrow)
                have HO5 := Lib.hid (show w3.ownsRow w2.heap.size 3 1 v' (noF E b y p).length (intS (noF E b y p)) from by rw [← HPP.out, noF_add (by rw [HE.out]; exact HCC.out), intS_snoc, HE.out, List.length_append]; exact HO3.out)
                obtain ⟨gg, cap, rfl, hH, hgl, hgb⟩ := own_end HO5.out (HCY.out.some HNO.out.2)
                have HHH := Lib.hid hH
                have HGG := Lib.hid (And.intro hgl hgb)
                clear hH hgl hgb
                go_wp2_with fail
                refine (Try.slices_Reverse_int gg 0 cap _ _ HHH.out (by have := HLEP.out; omega)).mono ?_
                rintro e5 w5 ⟨rfl, N, rfl⟩
                go_wp2_with fail
                go_ret
                rw [← HBQ.out]
                exact ⟨bl_putS (HB2.out.tr HB3.out) (Nat.le_trans HB2.out.size HGG.out.2), .inr ⟨HFF.out, y, p, gg, cap, HCY.out, rfl, by simpa [Sort.ahead] using HGG.out.1, Nat.le_trans HB2.out.size HGG.out.2, fun j hj => rev_cell HHH.out hj⟩⟩
            · have hp1 : k + 1 < p := by omega
              have HRK1 := Lib.hid (show rkF (prF E b) y ed.fr p = k + 1 from by rw [← HN.out]; exact HCY.out.rk hp1)
              have q2 : ((ed.fr : Int) == ((itF (prF E b) n v : Nat) : Int)) = false := by
                have := HCY.out.fst (k + 1) (by omega) hp1
                rw [HN.out] at this
                rw [← HY.out]
                simp; omega
              have HPP := Lib.hid (And.intro hp1 hk)
              by_cases hc : ed.no = -1
              · have q1 : (ed.no == -1) = true := by simp [hc]
                have HO5 := Lib.hid (show Z.ownsRow w2.heap.size 3 1 u5 (noF E b y (k + 1)).length (intS (noF E b y (k + 1))) from by rw [noF_skip (by rw [HE.out]; exact hc)]; exact HOZ.out)
                clear hc hp hp1
                go_wp2_with fail
                go_roundw
                case rel => exact ⟨k + 1, HPP.out.1, by rw [HN.out], HO5, HBZ⟩
                case measure => simp only [intOf, Int.toNat_natCast, HRK.out, HRK1.out]; have := HPP.out; omega
              · have q1 : (ed.no == -1) = false := by simp [hc]
                have HCC := Lib.hid hc
                clear hc hp hp1
                go_wp2_with (at_builtin; refine wpList_append_own _ rfl _ _ _ rfl w2.heap.size 3 i0 _ 1 8 Try.underlying24 HI.out.1 HI.out.2.1 HI.out.2.2.1 HI.out.2.2.2 rfl (by decide) _ _ _ rfl (HOZ.out.alloc _) ⟨Z.heap.size, 0, none⟩ 1 1 [.int .i64 ed.no] rfl rfl (cell_one_new _ _ _) (by simp [Value.oneCell']) (by have := HLEN.out; unfold maxLen; omega) (by have := HLEN.out; omega) (by have := HBZ.out.size; (try simp only [World.size_alloc]); omega) ?_; intro v' w3 hown hgrow _; have a03 := World.grownBy.cell hgrow (kcb (show Bl Z (Z.alloc _) by go_grown) a0) (fun e => absurd (HOL.out _ e.symm) (Nat.lt_irrefl _)); have la3 := ltb a03; have HO3 := Lib.hid hown; have HB3 := Lib.hid (show Bl w2 w3 from Below.grown (HBZ.out.trans (by go_grown)) hgrow (by have := HBZ.out.size; (try simp only [World.size_alloc]); omega) (fun j hj => (HOZ.out.lt j hj).1)); clear hown hgrow)
                have HO5 := Lib.hid (show w3.ownsRow w2.heap.size 3 1 v' (noF E b y (k + 1)).length (intS (noF E b y (k + 1))) from by rw [noF_add (by rw [HE.out]; exact HCC.out), intS_snoc, HE.out, List.length_append]; exact HO3.out)
                go_wp2_with fail
                go_roundw
                case rel => exact ⟨k + 1, HPP.out.1, by rw [HN.out], HO5, HB3⟩
                case measure => simp only [intOf, Int.toNat_natCast, HRK.out, HRK1.out]; have := HPP.out; omega
end Go.Proofs.Ytchikfegpoonjaa
