/-
  Package sight: whether a net contradicts itself.
-/
import Derived.Test.YtchikfegpoonjaaPS
import Derived.Test.YtchikfegpoonjaaPEA
namespace Go.Proofs.Ytchikfegpoonjaa
open Go.RowKit Go.Maps
set_option linter.unusedSimpArgs false
set_option linter.unusedVariables false

theorem vn_ne {R : Nat → Int} {n m : Nat} {S : Nat → Sgt} (h : VN R n S m) : ∀ k, k < m → (S k).ca ≠ (S k).cb := fun k hk => (sgB_iff.1 (h.sg k hk)).2.2.2.1
/-- A chart of a valid net, built. -/
structure Chd (w : World) (C : Nat) (R : Nat → Int) (S : Nat → Sgt) (m : Nat) (q : List Spt) : Prop where
  ch : ∃ M Ap cp As cs, Ch w C M (ptsC S m q) (stpC R S m q) Ap cp As cs
  ok : Chart R S m (gtP (ptsC S m q)) (ptsC S m q).length (gtE (stpC R S m q)) (stpC R S m q).length
  sk : StpOk (gtE (stpC R S m q)) (stpC R S m q).length (ptsC S m q).length 1000000000
  m3 : m ≤ 30
theorem Chd.below {w w' : World} {C : Nat} {R : Nat → Int} {S : Nat → Sgt} {m : Nat} {q : List Spt} (h : Chd w C R S m q) (hb : Bl w w') : Chd w' C R S m q := by
  obtain ⟨M, Ap, cp, As, cs, hc⟩ := h.ch
  exact ⟨⟨M, Ap, cp, As, cs, hc.below hb⟩, h.ok, h.sk, h.m3⟩
theorem chart_any (A : Option Addr) (n c : Nat) (R : Nat → Int) (B : Option Addr) (m d : Nat) (S : Nat → Sgt) (Aq : Option Addr) (cq : Nat) (q : List Spt) (w : World) (hA : Sl w A n R) (hB : Sgl w B m S) (hQ : Ptl w Aq q.length (gtP q)) (hv : VN R n S m) (hq : ∀ p, p ∈ q → PtB n p) (hl : q.length ≤ 8) :
    Calls Try.prog 20 #[encN A n c B m d, .slice Aq q.length cq] w fun e w' => ∃ C, e = .returned (.pointer (some ⟨C, 0, none⟩)) ∧ Chd w' C R S m q ∧ Bl w w' := by
  refine (chartOf_any A n c R B m d S Aq cq q w hA hB hQ hv hq hl).mono ?_
  rintro e w' ⟨C, M, vp, vs, he, hb, hbl, _⟩
  obtain ⟨Ap, cp, As, cs, hc⟩ := hb.ready
  obtain ⟨h1, h2, _⟩ := stp_ok hv (vn_ne hv) hq hl
  exact ⟨C, he, ⟨⟨M, Ap, cp, As, cs, hc⟩, h1, h2, hv.m30⟩, hbl⟩
theorem conf_any (C : Nat) (R : Nat → Int) (S : Nat → Sgt) (m : Nat) (q : List Spt) (w : World) (h : Chd w C R S m q) :
    Calls Try.prog 21 #[.pointer (some ⟨C, 0, none⟩)] w fun e w' => Bl w w' ∧ ((NoC R S m ∧ e = .returned (.slice none 0 0)) ∨ (¬ NoC R S m ∧ ∃ g k cap, e = .returned (.slice (some ⟨g, 0, none⟩) k cap))) := by
  obtain ⟨M, Ap, cp, As, cs, hc⟩ := h.ch
  refine (conflict_any C M cp cs _ _ Ap As 1000000000 w hc h.sk (fun i hi => ?_) (fun i hi e => ?_)).mono ?_
  · obtain ⟨_, _, g⟩ := h.ok.edge i hi
    have := h.m3
    rcases g with ⟨k, hk, _, _, _, e⟩ | ⟨_, _, e⟩ <;> rw [e] <;> omega
  · obtain ⟨h1, _, g⟩ := h.ok.edge i hi
    rcases g with ⟨k, hk, _, _, _, e'⟩ | ⟨_, e', _⟩
    · rw [e'] at e; omega
    · rw [e']; exact crb_nonneg (h.ok.pos _ h1)
  · rintro e w' ⟨hb, ⟨h1, h2⟩ | ⟨h1, y, p, g, cap, _, h2, _⟩⟩
    · exact ⟨hb, .inl ⟨(zr_iff h.ok h.sk).1 h1, h2⟩⟩
    · exact ⟨hb, .inr ⟨fun hn => h1 ((zr_iff h.ok h.sk).2 hn), g, _, cap, h2⟩⟩
/-- Whether the net agrees with itself. -/
noncomputable def noB (R : Nat → Int) (S : Nat → Sgt) (m : Nat) : Bool := @decide (NoC R S m) (Classical.propDecidable _)
theorem noB_true {R : Nat → Int} {S : Nat → Sgt} {m : Nat} (h : NoC R S m) : noB R S m = true := by simp [noB, h]
theorem noB_false {R : Nat → Int} {S : Nat → Sgt} {m : Nat} (h : ¬ NoC R S m) : noB R S m = false := by simp [noB, h]
theorem nil_noS (b off n c : Nat) (w : World) : Sem.run Try.prog (binOp .eql 24 (.slice (some ⟨b, off, none⟩) n c) (.slice none 0 0)) w = .ok (.bool false) w := by kernel_rfl
theorem nil_yesS (w : World) : Sem.run Try.prog (binOp .eql 24 (.slice none 0 0) (.slice none 0 0)) w = .ok (.bool true) w := by kernel_rfl
theorem nil_noS' (b off n c : Nat) (w : World) : Sem.run Try.prog (binOp .neq 24 (.slice (some ⟨b, off, none⟩) n c) (.slice none 0 0)) w = .ok (.bool true) w := by kernel_rfl
theorem nil_yesS' (w : World) : Sem.run Try.prog (binOp .neq 24 (.slice none 0 0) (.slice none 0 0)) w = .ok (.bool false) w := by kernel_rfl
set_option maxRecDepth 100000 in
set_option maxHeartbeats 3200000 in
theorem consistent_any (A : Option Addr) (n c : Nat) (R : Nat → Int) (B : Option Addr) (m d : Nat) (S : Nat → Sgt) (w : World) (hA : Sl w A n R) (hB : Sgl w B m S) (hn : n ≤ maxLen) (hm : m ≤ maxLen) :
    Calls Try.prog 7 #[encN A n c B m d] w fun e w' => e = .returned (if vnB R n S m then .tuple #[.bool (noB R S m), .int .i64 0] else .tuple #[.bool false, .int .i64 1]) ∧ Bl w w' := by
  have HV := Lib.hid (fun (W : World) (hW : Bl w W) => validN_any A n c R B m d S W (hA.below hW) (hB.below hW) hn hm)
  have HA := Lib.hid hA
  have HB := Lib.hid hB
  clear hA hB hn hm
  cases hv : vnB R n S m with
  | false =>
    rw [hv] at HV
    rw [if_neg (by decide)]
    clear hv
    go_enter Try.func7, Try.ntmps7
    go_wp2_with fail
    refine (HV.out _ (by go_grown)).mono ?_
    rintro e1 w1 ⟨rfl, hb1⟩
    have HB1 := Lib.hid (Bl.tr (show Bl w _ by go_grown) hb1)
    clear hb1
    go_wp2_with fail
    go_ret2
    exact ⟨rfl, HB1.out⟩
  | true =>
    have HVN := Lib.hid (vn_iff.1 hv)
    rw [hv] at HV
    rw [if_pos rfl]
    clear hv
    have HC := Lib.hid (fun (W : World) (hW : Bl w W) => chart_any A n c R B m d S none 0 [] W (HA.out.below hW) (HB.out.below hW) (fun h => absurd h (by simp)) HVN.out (fun p hp => absurd hp (by simp)) (by simp))
    go_enter Try.func7, Try.ntmps7
    go_wp2_with fail
    refine (HV.out _ (by go_grown)).mono ?_
    rintro e1 w1 ⟨rfl, hb1⟩
    have B1 := Bl.tr (show Bl w (w.alloc (Obj.cells #[.slice A n c, .slice B m d] 27)) by go_grown) hb1
    have x0 : w1.cell? ⟨w.heap.size, 0, none⟩ = some (.slice A n c) := kcb hb1 (by go_cell)
    have x1 : w1.cell? ⟨w.heap.size, 1, none⟩ = some (.slice B m d) := kcb hb1 (by go_cell)
    have HB1 := Lib.hid B1
    have lx := ltb x0
    clear hb1 B1
    go_wp2_with fail
    refine (HC.out w1 HB1.out).mono ?_
    rintro e2 w2 ⟨C, rfl, hc, hb2⟩
    have HCH := Lib.hid hc
    have HB2 := Lib.hid (HB1.out.tr hb2)
    clear hc hb2 x0 x1 lx
    go_wp2_with fail
    refine (conf_any C R S m [] w2 HCH.out).mono ?_
    rintro e3 w3 ⟨hb3, ⟨hn, rfl⟩ | ⟨hn, g, k, cap, rfl⟩⟩
    · have HN := Lib.hid (noB_true hn)
      have HB3 := Lib.hid (HB2.out.tr hb3)
      clear hn hb3
      have hnil := nil_yesS w3
      go_wp2_with fail
      go_ret2
      exact ⟨by rw [HN.out]; rfl, HB3.out⟩
    · have HN := Lib.hid (noB_false hn)
      have HB3 := Lib.hid (HB2.out.tr hb3)
      clear hn hb3
      have hnil := nil_noS g 0 k cap w3
      go_wp2_with fail
      go_ret2
      exact ⟨by rw [HN.out]; rfl, HB3.out⟩
end Go.Proofs.Ytchikfegpoonjaa
