/-
  The reference's Hoist.
-/
import Derived.Test.YtfbkecdcdffbbaaFQ
namespace Go.Proofs.Ytfbkecdcdffbbaa
open Go.RowKit
set_option linter.unusedSimpArgs false
set_option linter.unusedVariables false

theorem okH_len {h : List Nat} {f : Nat} (e : okH (h ++ [f]) = true) : h.length ≤ 3 := by
  have := (vhB_iff.1 e).1.2
  simp at this; omega
theorem usl_le (l : List Nat) : (usl l).length ≤ l.length := by
  have key : ∀ (l : List Nat) (acc : List Nat), (l.foldl stepU acc).length ≤ acc.length + l.length := by
    intro l
    induction l with
    | nil => intro acc; simp
    | cons d l ih =>
      intro acc
      have h1 : (stepU acc d).length ≤ acc.length + 1 := by
        unfold stepU
        split
        · simp
        · split
          · simp
          · split
            · simp
            · split <;> simp
      have := ih (stepU acc d)
      simp only [List.foldl_cons, List.length_cons]
      omega
  have := key l []
  simpa [usl] using this
theorem lst_snoc (D : Nat → Int) (k : Nat) : lst D (k + 1) = lst D k ++ [(D k).toNat] := by simp [lst, List.range_succ]
theorem mn_at {l : List Nat} {j : Nat} (h : okH l = true) (hj : j < l.length) : gI (mnH l) j = ((mnH l).getD j 99 : Nat) := by
  have hl : (mnH l).length = l.length := dgs_len _ _
  unfold gI
  rw [List.getD_eq_getElem?_getD, List.getD_eq_getElem?_getD, List.getElem?_eq_getElem (by omega)]; rfl
theorem ap_news7 {W : World} {b : Nat} {u : Value} {t : TypeId} (h : W.heap[b]? = some (.cells #[u] t (0, 0))) : ∀ (j : Nat) (x : Value), [u][j]? = some x → W.cell? ((⟨b, 0, none⟩ : Addr).add j) = some x := World.news_of_block (cs := #[u]) h
theorem alloc2_new7 (W : World) (o1 o2 : Obj) : ((W.alloc o1).alloc o2).heap[W.heap.size + 1]? = some o2 := by
  have h := heap_alloc_new (W.alloc o1) o2
  rwa [World.size_alloc] at h
/-- The candidates. -/
def cnd (d j : Nat) : Nat := if j = 0 then d else 9 + j
/-- None of the first candidates fits. -/
def NoFit (h : List Nat) (d j : Nat) : Prop := ∀ i, i < j → fitU h d (cnd d i) = false
theorem NoFit.snocN {h : List Nat} {d j f : Nat} (a : NoFit h d j) (e : f = cnd d j) (b : fitU h d f = false) : NoFit h d (j + 1) := fun i hi => by
  by_cases e2 : i = j
  · subst e2; rw [← e]; exact b
  · exact a i (by omega)
theorem step_fit {h : List Nat} {d j : Nat} (hj : j < 4) (hno : ∀ i, i < j → fitU h d (cnd d i) = false) (hf : fitU h d (cnd d j) = true) : stepU h d = h ++ [cnd d j] := by
  unfold stepU
  rcases (show j = 0 ∨ j = 1 ∨ j = 2 ∨ j = 3 by omega) with rfl | rfl | rfl | rfl
  · rw [if_pos (show fitU h d d = true from hf)]; rfl
  · rw [if_neg (by rw [show fitU h d d = false from hno 0 (by omega)]; decide), if_pos (show fitU h d 10 = true from hf)]; rfl
  · rw [if_neg (by rw [show fitU h d d = false from hno 0 (by omega)]; decide), if_neg (by rw [show fitU h d 10 = false from hno 1 (by omega)]; decide), if_pos (show fitU h d 11 = true from hf)]; rfl
  · rw [if_neg (by rw [show fitU h d d = false from hno 0 (by omega)]; decide), if_neg (by rw [show fitU h d 10 = false from hno 1 (by omega)]; decide), if_neg (by rw [show fitU h d 11 = false from hno 2 (by omega)]; decide), if_pos (show fitU h d 12 = true from hf)]; rfl
theorem step_none {h : List Nat} {d : Nat} (hno : ∀ i, i < 4 → fitU h d (cnd d i) = false) : stepU h d = h := by
  unfold stepU
  rw [if_neg (by rw [show fitU h d d = false from hno 0 (by omega)]; decide), if_neg (by rw [show fitU h d 10 = false from hno 1 (by omega)]; decide), if_neg (by rw [show fitU h d 11 = false from hno 2 (by omega)]; decide), if_neg (by rw [show fitU h d 12 = false from hno 3 (by omega)]; decide)]
theorem step_ge (h : List Nat) (d : Nat) : h.length ≤ (stepU h d).length := by
  unfold stepU
  split
  · simp
  · split
    · simp
    · split
      · simp
      · split <;> simp
theorem usl_pos {D : Nat → Int} {k : Nat} (hk : 1 ≤ k) (h0 : 0 ≤ D 0 ∧ D 0 ≤ 9) : 1 ≤ (usl (lst D k)).length := by
  induction k with
  | zero => omega
  | succ k ih =>
    rw [lst_snoc, usl_snoc]
    by_cases e : k = 0
    · subst e
      obtain ⟨d, hd⟩ : ∃ d : Nat, D 0 = d := ⟨(D 0).toNat, by omega⟩
      have hd9 : d ≤ 9 := by omega
      rw [hd, Int.toNat_natCast, show usl (lst D 0) = [] from rfl]
      rcases (show d = 0 ∨ d = 1 ∨ d = 2 ∨ d = 3 ∨ d = 4 ∨ d = 5 ∨ d = 6 ∨ d = 7 ∨ d = 8 ∨ d = 9 by omega) with rfl | rfl | rfl | rfl | rfl | rfl | rfl | rfl | rfl | rfl <;> decide
    · exact Nat.le_trans (ih (by omega)) (step_ge _ _)
set_option maxRecDepth 100000 in
set_option maxHeartbeats 16000000 in
theorem rhoist_yes (A : Option Addr) (n c : Nat) (D : Nat → Int) (w : World) (hn : n ≤ maxLen) (hA : Sl w A n D) (hv : vdB n D = true) :
    Calls Try.prog 20 #[.slice A n c] w fun e w' => ∃ v, e = .returned (.tuple #[v, .int .i64 0]) ∧ w'.ownsRow w.heap.size 3 1 v (usl (lst D n)).length (inN (usl (lst D n))) ∧ Bl w w' := by
  obtain ⟨i0, hi0, hz0, hz1, hz2⟩ := info_parts7 int_info7
  have HI := Lib.hid (And.intro hi0 (And.intro hz0 (And.intro hz1 hz2)))
  clear hi0 hz0 hz1 hz2
  obtain ⟨⟨hn1, hn4⟩, hd⟩ := vdB_iff.1 hv
  have HA := Lib.hid hA
  have HN := Lib.hid hn
  have HV := Lib.hid hv
  have HD := Lib.hid hd
  clear hA hn hv hd
  go_enter Try.func20, Try.ntmps20
  go_wp2_with fail
  refine (rvalidDigits_any A n c D _ HN.out HA.out).mono ?_
  rintro e w1 ⟨rfl, rfl⟩
  rw [HV.out]
  go_wp2_with fail
  go_loopw [4, 15] (fun v i wr => ∃ k : Nat, k ≤ n ∧ i = .int .i64 k ∧ wr.ownsRow w.heap.size 3 1 v (usl (lst D k)).length (inN (usl (lst D k))) ∧ (k = 0 → v = .slice none 0 0) ∧ Bl w wr) (fun _ i _ => n - (RowKit.intOf i).toNat)
  case atStart => exact ⟨0, Nat.zero_le _, rfl, World.ownsRow_nil _ _ _ _, (fun _ => rfl), Below.refl _ _⟩
  case round =>
    obtain ⟨k, hk, rfl, hr, hz, hb⟩ := hrel
    have HZ := Lib.hid hz
    have HR := Lib.hid hr
    have HB := Lib.hid hb
    clear hr hb hz
    have zb := HB.out.size
    by_cases hlt : k < n
    · obtain ⟨b, off, rfl, hbb, hc⟩ := (HA.out.below HB.out) (by omega)
      have c1 := hc k hlt
      clear hc hbb
      obtain ⟨d, hd⟩ : ∃ d : Nat, D k = d := ⟨(D k).toNat, by have := dgTo_at HD.out hlt; omega⟩
      have hd9 : d ≤ 9 := by have := dgTo_at HD.out hlt; omega
      have HSN := Lib.hid (show usl (lst D (k + 1)) = stepU (usl (lst D k)) d by rw [lst_snoc, usl_snoc, hd]; rfl)
      have HUL := Lib.hid (show (usl (lst D k)).length ≤ 3 by have := usl_le (lst D k); rw [lst_len] at this; omega)
      have HP := Lib.hid (show 1 ≤ k → 1 ≤ (usl (lst D k)).length from fun hk => usl_pos hk (dgTo_at HD.out (by omega)))
      have HL0 := Lib.hid (show k = 0 → (usl (lst D k)).length = 0 from fun hk => by subst hk; rfl)
      rw [hd] at c1
      clear hd
      obtain ⟨h, hh⟩ : ∃ h, h = usl (lst D k) := ⟨_, rfl⟩
      rw [← hh] at HR HSN HUL HP HL0
      clear hh
      have hl3 := HUL.out
      by_cases hk0 : k = 0
      · subst hk0
        obtain rfl := HZ.out rfl
        have hh0 : h = [] := List.eq_nil_of_length_eq_zero (HL0.out rfl)
        subst hh0
        have c1' : wr.cell? ⟨b, off, none⟩ = some (.int .i64 (d : Int)) := c1
        clear c1
        go_wp2_with fail
        obtain ⟨Wo, hWo⟩ : ∃ Wo, Wo = wr := ⟨_, rfl⟩
        subst hWo
        obtain ⟨W0, hW0⟩ : ∃ W0, W0 = Wo.alloc (.cells #[.int .i64 (d : Int), .int .i64 10, .int .i64 11, .int .i64 12] 3) := ⟨_, rfl⟩
        have CC := Lib.hid (show ∀ j, j < 4 → W0.cell? ⟨Wo.heap.size, j, none⟩ = some (.int .i64 ((cnd d j : Nat) : Int)) from fun j hj => by
          rw [hW0]
          rcases (show j = 0 ∨ j = 1 ∨ j = 2 ∨ j = 3 by omega) with rfl | rfl | rfl | rfl <;> (unfold cnd; go_cell))
        have B0 : Bl Wo W0 := by rw [hW0]; go_grown
        have B00 := Lib.hid (HB.out.trans (B0.mono zb))
        have zW0 : W0.heap.size = Wo.heap.size + 1 := by rw [hW0]; simp
        rw [← hW0]
        clear hW0
        obtain ⟨P, hP⟩ : ∃ P, P = Wo.heap.size := ⟨_, rfl⟩
        rw [← hP] at CC zW0 ⊢
        have BR0 := Lib.hid B0
        have HRW := Lib.hid (own_same HR.out (fun g hg => B0.block g (HR.out.lt g hg).2))
        have zb2 : w.heap.size ≤ P := by omega
        clear hP B0
        go_loopw [4, 22] (fun v4 i wi => ∃ j : Nat, j ≤ 4 ∧ i = .int .i64 j ∧ v4 = .slice none 0 0 ∧ NoFit [] d j ∧ Bl W0 wi) (fun _ i _ => 4 - (RowKit.intOf i).toNat)
        case atStart => exact ⟨0, Nat.zero_le _, rfl, rfl, (fun i hi => absurd hi (by omega)), Below.refl _ _⟩
        case round =>
          obtain ⟨j, hj, rfl, rfl, hno, hbi⟩ := hrel
          have HNO := Lib.hid hno
          have HBI := Lib.hid hbi
          have zbi := hbi.size
          clear hno hbi
          by_cases hlj : j < 4
          · have cj := (HBI.out.cell (p := ⟨P, j, none⟩) (by show P < _; omega)).trans (CC.out j hlj)
            obtain ⟨f, hf⟩ : ∃ f, f = cnd d j := ⟨_, rfl⟩
            have hf12 : f ≤ 12 := by rw [hf]; unfold cnd; split <;> omega
            rw [← hf] at cj
            have HJ := Lib.hid hf
            clear hf
            have HO0 := Lib.hid (lit_nil7 wr)
            go_wp2_with (first | (at_builtin; refine wpList_append_own _ rfl _ _ _ rfl wr.heap.size 3 i0 _ 1 8 Try.underlying22 HI.out.1 HI.out.2.1 HI.out.2.2.1 HI.out.2.2.2 rfl (by decide) _ _ _ rfl (HO0.out.alloc _) _ 1 1 [.int .i64 (f : Int)] rfl rfl (by first | exact cell_one_new _ _ _ | exact ap_news7 (alloc2_new7 _ _ _)) (by simp [Value.oneCell']) (by unfold maxLen; omega) (by omega) (by (try simp only [World.size_alloc]); omega) ?_; intro v3 w10 hown3 hgrow3 _; obtain ⟨g3, c3, rfl⟩ := ownsRow_succ hown3; have B10 := Lib.hid (show Bl wr w10 from Below.grown ((show Bl wr (wr.alloc (.cells #[] 3)) from by go_grown).trans (by go_grown)) hgrow3 (by (try simp only [World.size_alloc]); omega) (fun j hj => (HO0.out.lt j hj).1)); have HO10 := Lib.hid hown3; clear hown3 hgrow3))
            have HX := Lib.hid (show w10.ownsRow wr.heap.size 3 1 (.slice (some ⟨g3, 0, none⟩) 1 c3) 1 (inN ([] ++ [f])) from by have h2 := HO10.out; (try simp only [Nat.zero_add, List.nil_append, List.length_nil] at h2); rw [show inN ([] ++ [f]) = inN [] ++ [.int .i64 (f : Int)] by simp [inN]]; exact h2)
            obtain ⟨-, A5, c5, e5, hn5, hm5, hs5⟩ := own_sl7 HX.out
            injection e5 with e51 _ e52
            subst e51 e52
            have HS5 := Lib.hid hs5
            clear hs5
            cases hok : okH ([] ++ [f]) with
            | false =>
              have HOK := Lib.hid (show vhB 1 (gI ([] ++ [f])) = false from by have h2 := hok; unfold okH at h2; rw [List.nil_append, List.length_singleton] at h2; exact h2)
              have HFN := Lib.hid (show fitU [] d f = false from by rw [fitU, hok]; rfl)
              clear hok
              refine (rvalidHoist_any _ 1 c3 (gI ([] ++ [f])) _ ⟨hn5, hm5⟩ HS5.out).mono ?_
              rintro e w11 ⟨rfl, rfl⟩
              rw [HOK.out]
              go_wp2_with fail
              go_roundw
              case rel => exact ⟨j + 1, by omega, by go_num, rfl, HNO.out.snocN HJ.out HFN.out, HBI.out.trans (B10.out.mono zbi)⟩
              case measure => simp [RowKit.intOf]; omega
            | true =>
              have HOK := Lib.hid (show vhB 1 (gI ([] ++ [f])) = true from by have h2 := hok; unfold okH at h2; rw [List.nil_append, List.length_singleton] at h2; exact h2)
              have HMG := Lib.hid (show gI (mnH ([] ++ [f])) 0 = ((mnH ([] ++ [f])).getD 0 99 : Nat) from mn_at hok (by simp))
              have HFE := Lib.hid (show fitU [] d f = ((mnH ([] ++ [f])).getD 0 99 == d) from by rw [fitU, hok]; rfl)
              clear hok
              refine (rvalidHoist_any _ 1 c3 (gI ([] ++ [f])) _ ⟨hn5, hm5⟩ HS5.out).mono ?_
              rintro e w11 ⟨rfl, rfl⟩
              rw [HOK.out]
              go_wp2_with fail
              refine (rmns_any _ 1 c3 (gI ([] ++ [f])) _ HS5.out HOK.out).mono ?_
              rintro e w11 ⟨v6, rfl, ho6, hb6⟩
              obtain ⟨hl6, A6, c6, rfl, -, hm6, hs6⟩ := own_sl7 ho6
              obtain ⟨b6, off6, rfl, -, hc6⟩ := hs6 (by omega)
              have c7 := hc6 0 (by omega)
              rw [Nat.add_zero] at c7
              have HB6 := Lib.hid hb6
              have HMM := Lib.hid (show dgs (gI ([] ++ [f])) 1 = mnH ([] ++ [f]) from by unfold mnH; rw [List.nil_append, List.length_singleton])
              rw [HMM.out, HMG.out] at c7
              clear ho6 hb6 hl6 hc6 hs6
              obtain ⟨x, hx⟩ : ∃ x, x = (mnH ([] ++ [f])).getD 0 99 := ⟨_, rfl⟩
              rw [← hx] at c7 HFE
              clear hx HMG
              have B11 := Lib.hid (HBI.out.trans ((Bl.tr B10.out HB6.out).mono zbi))
              have HX11 := Lib.hid (own_same HX.out (fun g hg => HB6.out.block g (HX.out.lt g hg).2))
              have i1 : ((1 : Int) - 1).toNat = 0 := by omega
              by_cases he : x = d
              · have he2 : ((x : Int) == (d : Int)) = true := by simp [he]
                have HFY := Lib.hid (show fitU [] d f = true from by rw [HFE.out, he]; simp)
                clear he HFE
                go_wp2_with fail
                go_roundw
                case rel => exact ⟨0 + 1, by omega, by first | go_num | rfl, by
                  rw [HSN.out, step_fit hlj HNO.out (by rw [← HJ.out]; exact HFY.out), ← HJ.out, List.nil_append, List.length_singleton]
                  exact own_base HX11.out (fun g hg => by have := (HX11.out.lt g hg).1; omega), (fun h0 => by omega), B00.out.trans (B11.out.mono (by omega))⟩
                case measure => simp [RowKit.intOf]; omega
              · have he2 : ((x : Int) == (d : Int)) = false := beq_eq_false_iff_ne.2 (by omega)
                have HFN := Lib.hid (show fitU [] d f = false from by rw [HFE.out]; simpa using he)
                clear he HFE
                go_wp2_with fail
                go_roundw
                case rel => exact ⟨j + 1, by omega, by go_num, rfl, HNO.out.snocN HJ.out HFN.out, B11.out⟩
                case measure => simp [RowKit.intOf]; omega
          · obtain rfl : j = 4 := by omega
            go_wp2_with fail
            go_roundw
            case rel => exact ⟨0 + 1, by omega, by first | go_num | rfl, by rw [HSN.out, step_none HNO.out]; exact own_same HRW.out (fun g hg => HBI.out.block g (HRW.out.lt g hg).2), (fun h0 => by omega), B00.out.trans (HBI.out.mono (by omega))⟩
            case measure => simp [RowKit.intOf]; omega
      · have h1 := HP.out (by omega)
        obtain ⟨-, A2, cap2, rfl, hcap2, hmax2, hs2⟩ := own_sl7 HR.out
        obtain ⟨b2, off2, rfl, -, -⟩ := hs2 (by omega)
        have HS2 := Lib.hid hs2
        clear hs2
        unfold maxLen at hmax2
        go_wp2_with fail
        obtain ⟨Wo, hWo⟩ : ∃ Wo, Wo = wr := ⟨_, rfl⟩
        subst hWo
        obtain ⟨W0, hW0⟩ : ∃ W0, W0 = Wo.alloc (.cells #[.int .i64 (d : Int), .int .i64 10, .int .i64 11, .int .i64 12] 3) := ⟨_, rfl⟩
        have CC := Lib.hid (show ∀ j, j < 4 → W0.cell? ⟨Wo.heap.size, j, none⟩ = some (.int .i64 ((cnd d j : Nat) : Int)) from fun j hj => by
          rw [hW0]
          rcases (show j = 0 ∨ j = 1 ∨ j = 2 ∨ j = 3 by omega) with rfl | rfl | rfl | rfl <;> (unfold cnd; go_cell))
        have B0 : Bl Wo W0 := by rw [hW0]; go_grown
        have B00 := Lib.hid (HB.out.trans (B0.mono zb))
        have zW0 : W0.heap.size = Wo.heap.size + 1 := by rw [hW0]; simp
        rw [← hW0]
        clear hW0
        obtain ⟨P, hP⟩ : ∃ P, P = Wo.heap.size := ⟨_, rfl⟩
        rw [← hP] at CC zW0 ⊢
        have BR0 := Lib.hid B0
        have HRW := Lib.hid (own_same HR.out (fun g hg => B0.block g (HR.out.lt g hg).2))
        have zb2 : w.heap.size ≤ P := by omega
        clear hP B0
        go_loopw [4, 22] (fun v4 i wi => ∃ j : Nat, j ≤ 4 ∧ i = .int .i64 j ∧ v4 = .slice (some ⟨b2, off2, none⟩) h.length cap2 ∧ NoFit h d j ∧ Bl W0 wi) (fun _ i _ => 4 - (RowKit.intOf i).toNat)
        case atStart => exact ⟨0, Nat.zero_le _, rfl, rfl, (fun i hi => absurd hi (by omega)), Below.refl _ _⟩
        case round =>
          obtain ⟨j, hj, rfl, rfl, hno, hbi⟩ := hrel
          have HNO := Lib.hid hno
          have HBI := Lib.hid hbi
          have zbi := hbi.size
          clear hno hbi
          by_cases hlj : j < 4
          · have cj := (HBI.out.cell (p := ⟨P, j, none⟩) (by show P < _; omega)).trans (CC.out j hlj)
            obtain ⟨f, hf⟩ : ∃ f, f = cnd d j := ⟨_, rfl⟩
            have hf12 : f ≤ 12 := by rw [hf]; unfold cnd; split <;> omega
            rw [← hf] at cj
            have HJ := Lib.hid hf
            clear hf
            have HO0 := Lib.hid (lit_nil7 wr)
            have HSH := Lib.hid (show Sl wr (some ⟨b2, off2, none⟩) h.length (gI h) from HS2.out.below (Bl.tr BR0.out HBI.out))
            go_wp2_with (first | (at_builtin; refine wpList_append_lies _ rfl _ _ _ rfl wr.heap.size 3 i0 _ 1 8 Try.underlying22 HI.out.1 HI.out.2.1 HI.out.2.2.1 HI.out.2.2.2 rfl (by omega) _ 0 [] rfl HO0.out ⟨b2, off2, none⟩ h.length cap2 (inN h) rfl (by rw [inN_len]; omega) (in_news7 rfl (HSH.out.below (by go_grown))) (inN_one _) (by omega) (by unfold maxLen; omega) (by omega) (by (try simp only [World.size_alloc]); omega) _ rfl ?_; intro gg cp w9 hown1 hgrow9 hat hlt9; have hown2 : w9.ownsRow wr.heap.size 3 1 (.slice (some ⟨gg, 0, none⟩) h.length cp) h.length (inN h) := (by have h := hown1; simp only [Nat.zero_add, List.nil_append] at h; exact h); have HO9 := Lib.hid hown2; have B9 := Lib.hid (show Bl wr w9 from Below.grown (by go_grown) hgrow9 (by (try simp only [World.size_alloc]); omega) (fun j hj => by have hj : wr.heap.size = j := Option.some.inj hj; omega)); have z9 := B9.out.size; (try simp only [Nat.zero_add]); clear hown1 hown2 hgrow9 hat) | (at_builtin; refine wpList_append_own _ rfl _ _ _ rfl wr.heap.size 3 i0 _ 1 8 Try.underlying22 HI.out.1 HI.out.2.1 HI.out.2.2.1 HI.out.2.2.2 rfl (by decide) _ _ _ rfl (HO9.out.alloc _) _ 1 1 [.int .i64 (f : Int)] rfl rfl (by first | exact cell_one_new _ _ _ | exact ap_news7 (alloc2_new7 _ _ _)) (by simp [Value.oneCell']) (by unfold maxLen; omega) (by omega) (by (try simp only [World.size_alloc]); omega) ?_; intro v3 w10 hown3 hgrow3 _; obtain ⟨g3, c3, rfl⟩ := ownsRow_succ hown3; have B10 := Lib.hid (show Bl wr w10 from Below.grown (B9.out.trans (by go_grown)) hgrow3 (by (try simp only [World.size_alloc]); omega) (fun j hj => (HO9.out.lt j hj).1)); have HO10 := Lib.hid hown3; clear hown3 hgrow3))
            have HX := Lib.hid (show w10.ownsRow wr.heap.size 3 1 (.slice (some ⟨g3, 0, none⟩) (h.length + 1) c3) (h.length + 1) (inN (h ++ [f])) from by have h2 := HO10.out; (try simp only [Nat.zero_add, List.nil_append, List.length_nil] at h2); rw [show inN (h ++ [f]) = inN h ++ [.int .i64 (f : Int)] by simp [inN]]; exact h2)
            obtain ⟨-, A5, c5, e5, hn5, hm5, hs5⟩ := own_sl7 HX.out
            injection e5 with e51 _ e52
            subst e51 e52
            have HS5 := Lib.hid hs5
            clear hs5
            cases hok : okH (h ++ [f]) with
            | false =>
              have HOK := Lib.hid (show vhB (h.length + 1) (gI (h ++ [f])) = false from by have h2 := hok; unfold okH at h2; rw [List.length_append, List.length_singleton] at h2; exact h2)
              have HFN := Lib.hid (show fitU h d f = false from by rw [fitU, hok]; rfl)
              clear hok
              refine (rvalidHoist_any _ (h.length + 1) c3 (gI (h ++ [f])) _ ⟨hn5, hm5⟩ HS5.out).mono ?_
              rintro e w11 ⟨rfl, rfl⟩
              rw [HOK.out]
              go_wp2_with fail
              go_roundw
              case rel => exact ⟨j + 1, by omega, by go_num, rfl, HNO.out.snocN HJ.out HFN.out, HBI.out.trans (B10.out.mono zbi)⟩
              case measure => simp [RowKit.intOf]; omega
            | true =>
              have HOK := Lib.hid (show vhB (h.length + 1) (gI (h ++ [f])) = true from by have h2 := hok; unfold okH at h2; rw [List.length_append, List.length_singleton] at h2; exact h2)
              have HMG := Lib.hid (show gI (mnH (h ++ [f])) h.length = ((mnH (h ++ [f])).getD h.length 99 : Nat) from mn_at hok (by simp))
              have HFE := Lib.hid (show fitU h d f = ((mnH (h ++ [f])).getD h.length 99 == d) from by rw [fitU, hok]; rfl)
              clear hok
              refine (rvalidHoist_any _ (h.length + 1) c3 (gI (h ++ [f])) _ ⟨hn5, hm5⟩ HS5.out).mono ?_
              rintro e w11 ⟨rfl, rfl⟩
              rw [HOK.out]
              go_wp2_with fail
              refine (rmns_any _ (h.length + 1) c3 (gI (h ++ [f])) _ HS5.out HOK.out).mono ?_
              rintro e w11 ⟨v6, rfl, ho6, hb6⟩
              obtain ⟨hl6, A6, c6, rfl, -, hm6, hs6⟩ := own_sl7 ho6
              obtain ⟨b6, off6, rfl, -, hc6⟩ := hs6 (by omega)
              have c7 := hc6 h.length (by omega)
              have HB6 := Lib.hid hb6
              have HMM := Lib.hid (show dgs (gI (h ++ [f])) (h.length + 1) = mnH (h ++ [f]) from by unfold mnH; rw [List.length_append, List.length_singleton])
              rw [HMM.out, HMG.out] at c7
              clear ho6 hb6 hl6 hc6 hs6
              obtain ⟨x, hx⟩ : ∃ x, x = (mnH (h ++ [f])).getD h.length 99 := ⟨_, rfl⟩
              rw [← hx] at c7 HFE
              clear hx HMG
              have B11 := Lib.hid (HBI.out.trans ((Bl.tr B10.out HB6.out).mono zbi))
              have HX11 := Lib.hid (own_same HX.out (fun g hg => HB6.out.block g (HX.out.lt g hg).2))
              have i1 : ((h.length : Int) + 1 - 1).toNat = h.length := by omega
              by_cases he : x = d
              · have he2 : ((x : Int) == (d : Int)) = true := by simp [he]
                have HFY := Lib.hid (show fitU h d f = true from by rw [HFE.out, he]; simp)
                clear he HFE
                go_wp2_with fail
                go_roundw
                case rel => exact ⟨k + 1, by omega, by go_num, by
                  rw [HSN.out, step_fit hlj HNO.out (by rw [← HJ.out]; exact HFY.out), ← HJ.out, List.length_append, List.length_singleton]
                  exact own_base HX11.out (fun g hg => by have := (HX11.out.lt g hg).1; omega), (fun h0 => by omega), B00.out.trans (B11.out.mono (by omega))⟩
                case measure => simp [RowKit.intOf]; omega
              · have he2 : ((x : Int) == (d : Int)) = false := beq_eq_false_iff_ne.2 (by omega)
                have HFN := Lib.hid (show fitU h d f = false from by rw [HFE.out]; simpa using he)
                clear he HFE
                go_wp2_with fail
                go_roundw
                case rel => exact ⟨j + 1, by omega, by go_num, rfl, HNO.out.snocN HJ.out HFN.out, B11.out⟩
                case measure => simp [RowKit.intOf]; omega
          · obtain rfl : j = 4 := by omega
            go_wp2_with fail
            go_roundw
            case rel => exact ⟨k + 1, by omega, by go_num, by rw [HSN.out, step_none HNO.out]; exact own_same HRW.out (fun g hg => HBI.out.block g (HRW.out.lt g hg).2), (fun h0 => by omega), B00.out.trans (HBI.out.mono (by omega))⟩
            case measure => simp [RowKit.intOf]; omega
    · obtain rfl : k = n := by omega
      go_wp2_with fail
      go_ret2
      exact ⟨_, rfl, HR.out, HB.out⟩
end Go.Proofs.Ytfbkecdcdffbbaa
