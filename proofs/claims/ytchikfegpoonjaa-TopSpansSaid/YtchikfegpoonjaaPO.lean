/-
  Package sight: costs are settled.
-/
import Derived.Test.YtchikfegpoonjaaPN
namespace Go.Proofs.Ytchikfegpoonjaa
open Go.RowKit
set_option linter.unusedSimpArgs false
set_option linter.unusedVariables false

theorem setS_stop {E : Nat → Edg} {m r : Nat} {st : Stt} {f : Int} (h : (pasS E st m).2 = -1) : setS E m (r + 1) st f = pasS E st m := by rw [setS, if_pos h]
theorem setS_next {E : Nat → Edg} {m r : Nat} {st : Stt} {f : Int} (h : ¬ (pasS E st m).2 = -1) : setS E m (r + 1) st f = setS E m r (pasS E st m).1 (pasS E st m).2 := by rw [setS, if_neg h]
theorem bnd_ok {k n j m : Nat} {K T : Int} (hk : k ≤ n) (hj : j < m) (h0 : 0 ≤ K) (hT : n * (m * K) + m * K ≤ T) : 0 ≤ (k : Int) * (m * K) + j * K ∧ (k : Int) * (m * K) + j * K + K ≤ T := by
  have hm : 0 ≤ (m : Int) * K := Int.mul_nonneg (by omega) h0
  have h1 : 0 ≤ (k : Int) * (m * K) := Int.mul_nonneg (by omega) hm
  have h2 : 0 ≤ (j : Int) * K := Int.mul_nonneg (by omega) h0
  have h3 : (k : Int) * (m * K) ≤ n * (m * K) := Int.mul_le_mul_of_nonneg_right (by omega) hm
  have h4 : ((j : Int) + 1) * K ≤ m * K := Int.mul_le_mul_of_nonneg_right (by omega) h0
  rw [Int.add_mul, Int.one_mul] at h4
  omega
theorem Ex2.fresh {p q b o : Nat} {X Y : World} {v : Value} (h : Ex2 p q X Y) (hb : X.heap.size ≤ b) : Ex2 p q X (Y.setCell ⟨b, o, none⟩ v) :=
  ⟨h.os, h.tape, h.output, Nat.le_trans h.size (size_setS Y _ v), fun k hk a c => (Below.heap_setCell _ _ _ k (fun e => by simp only at e; omega)).trans (h.block k hk a c)⟩
theorem pas_psh {E : Nat → Edg} {st : Stt} {j : Nat} : pshS E j (pasS E st j).1 = (pasS E st (j + 1)).1 := by
  cases h : okP (E j) (pasS E st j).1.c with
  | true => rw [pshS_yes h, pasS_yes h]
  | false => rw [pshS_no h, pasS_no h]
theorem settle_res (tmps : Array Value) (W : World) (p1 : Nat) (v : Value) (f : Int) (h4 : tmps.getD 4 undef = .pointer (some ⟨p1, 0, none⟩)) (h5 : tmps.getD 5 undef = .int .i64 f) (c0 : W.cell? ⟨p1, 0, none⟩ = some v) :
    (results Try.f33 tmps).run Try.prog W = .ok (.tuple #[v, .int .i64 f]) W := by
  have h4' : tmps[4]?.getD undef = .pointer (some ⟨p1, 0, none⟩) := by simpa using h4
  have h5' : tmps[5]?.getD undef = .int .i64 f := by simpa using h5
  simp [results, Try.results33, go_sem, h4', h5', c0]
  try rfl
theorem Ex2.fz {p q : Nat} {X Y : World} {b : Nat} (h : Ex2 p q X Y) (h1 : b ≠ p) (h2 : b ≠ q) (hl : b < X.heap.size) (hf : X.frozen? ⟨b, 0, none⟩ = false) : Y.frozen? ⟨b, 0, none⟩ = false := by
  rw [World.frozen?, h.block b hl h1 h2]; exact hf
set_option maxRecDepth 100000 in
set_option maxHeartbeats 6400000 in
theorem settle_any (C bc n nc cp : Nat) (Ap As : Option Addr) (m cs : Nat) (E : Nat → Edg) (c0 : Nat → Int) (K : Int) (w : World) (h0 : w.cell? ⟨C, 0, none⟩ = some (.slice Ap n cp)) (h2 : w.cell? ⟨C, 2, none⟩ = some (.slice As m cs)) (hE : Edl w As m E) (hR : Rw w bc n c0) (hlc : bc < w.heap.size)
    (hAl : ∀ k, InK As k → k < w.heap.size) (hC : bc ≠ C) (hA : ∀ k, InK As k → k ≠ bc) (hm : m ≤ 20000) (hn : n ≤ 1000) (hF : ∀ i, i < m → (E i).fr < n ∧ (E i).to < n ∧ (E i).fr ≠ (E i).to) (hB : Bdd c0 0) (hK : ∀ i, i < m → -K ≤ (E i).co ∧ (E i).co ≤ K) (hK0 : 0 ≤ K) (hBK : n * (m * K) + m * K ≤ 3000000000000000000) :
    Calls Try.prog 33 #[.pointer (some ⟨C, 0, none⟩), .slice (some ⟨bc, 0, none⟩) n nc] w fun e w' => ∃ bb nb, e = .returned (.tuple #[.slice (some ⟨bb, 0, none⟩) n nb, .int .i64 (setS E m n ⟨c0, fun _ => -1⟩ (-1)).2]) ∧ w.heap.size ≤ bb ∧ bb < w'.heap.size ∧
      Rw w' bc n (setS E m n ⟨c0, fun _ => -1⟩ (-1)).1.c ∧ Rw w' bb n (setS E m n ⟨c0, fun _ => -1⟩ (-1)).1.b ∧ Ex2 bc bb w w' := by
  have HRep := Lib.hid (fun (b c : Nat) (W : World) (hx : W.cell? ⟨b, 0, none⟩ = some (.int .i64 (-1))) => repeat_any b c n (-1) W hx hn)
  have lC := ltb h0
  have r0 : C < w.heap.size + 1 := by omega
  have r1 : C < w.heap.size + 1 + 1 := by omega
  have r2 : C < w.heap.size + 1 + 1 + 1 := by omega
  have r3 : C < w.heap.size + 1 + 1 + 1 + 1 := by omega
  have HH := Lib.hid (And.intro hE (And.intro hR (And.intro hC (And.intro hA (And.intro hF (And.intro hB hK))))))
  have HEx := Lib.hid (Ex2.of_bl (p := bc) (q := bc) (Below.refl w.heap.size w))
  clear hE hR hC hA hF hB hK
  obtain ⟨S, hS⟩ : ∃ S, S = setS E m n ⟨c0, fun _ => -1⟩ (-1) := ⟨_, rfl⟩
  rw [← hS]
  have HS := Lib.hid hS
  clear hS
  go_enter Try.func33, Try.ntmps33
  go_wp2_with fail
  refine (HRep.out _ _ _ (by go_cell)).mono ?_
  rintro e1 w1 ⟨g, cap, rfl, hg1, hg2, hgr, hgb⟩
  simp only [World.size_alloc] at hg1
  obtain ⟨X, hX⟩ : ∃ X, X = ((((w.alloc (Obj.cells #[Value.pointer (some { block := C, off := 0 })] 53)).alloc
              (Obj.cells #[Value.slice (some { block := bc, off := 0 }) n nc] 24)).alloc
          (Obj.cells #[Value.slice none 0 0] 24)).alloc
      (Obj.cells #[Value.int IntKind.i64 (-1)] 3)) := ⟨_, rfl⟩
  have BX : Bl w X := by rw [hX]; go_grown
  have x1 : X.cell? ⟨w.heap.size, 0, none⟩ = some (.pointer (some ⟨C, 0, none⟩)) := by rw [hX]; go_cell
  have x2 : X.cell? ⟨w.heap.size + 1, 0, none⟩ = some (.slice (some ⟨bc, 0, none⟩) n nc) := by rw [hX]; go_cell
  have x3 : X.cell? ⟨w.heap.size + 1 + 1, 0, none⟩ = some (.slice none 0 0) := by rw [hX]; go_cell
  have x3f : X.frozen? ⟨w.heap.size + 1 + 1, 0, none⟩ = false := by rw [hX]; go_cell
  rw [← hX] at hgb
  clear hX
  have B1 := BX.tr hgb
  have b1 := kcb hgb x1
  have b2 := kcb hgb x2
  have b3 := kcb hgb x3
  have b3f := fzb hgb x3f (ltb x3)
  have lb3 := ltb b3
  have p0 := kcb B1 h0
  obtain ⟨t1, ht1⟩ : ∃ t1, t1 = w.heap.size := ⟨_, rfl⟩
  have HA2 := Lib.hid (show PsA w.heap.size (w.heap.size + 1) (w.heap.size + 1 + 1) C bc g As from ⟨⟨by omega, by omega⟩, ⟨by omega, by omega⟩, ⟨by omega, by omega⟩, ⟨HH.out.2.2.1, by omega⟩, by omega, fun k hk => ⟨HH.out.2.2.2.1 k hk, by have := hAl k hk; omega⟩⟩)
  obtain ⟨Y, hY⟩ : ∃ Y, Y = w1.setCell ⟨w.heap.size + 1 + 1, 0, none⟩ (.slice (some ⟨g, 0, none⟩) n cap) := ⟨_, rfl⟩
  have HY := Lib.hid (show PsF w.heap.size (w.heap.size + 1) (w.heap.size + 1 + 1) C bc g n nc cap As m cs E ⟨c0, fun _ => -1⟩ Y from by
    rw [hY]
    refine ⟨cell_setO b1 (by omega), cell_setO b2 (by omega), by go_cell, cell_setO (kcb B1 h2) (by omega), fun hm => ?_, (HH.out.2.1.below B1).other (by omega), hgr.other (by omega)⟩
    obtain ⟨b, off, e, hlt, hc⟩ := HH.out.1 hm
    have hne : b ≠ w.heap.size + 1 + 1 := by omega
    exact ⟨b, off, e, by simpa using Nat.lt_of_lt_of_le hlt B1.size, fun j hj => ⟨cell_setO (kcb B1 (hc j hj).1) hne, cell_setO (kcb B1 (hc j hj).2.1) hne, cell_setO (kcb B1 (hc j hj).2.2.1) hne, cell_setO (kcb B1 (hc j hj).2.2.2) hne⟩⟩)
  have HYE := Lib.hid (show Ex2 bc g w Y by
    rw [hY]
    exact Ex2.of_bl (bl_set B1 (by omega)))
  have HYF := Lib.hid (show Y.frozen? ⟨w.heap.size + 1 + 1, 0, none⟩ = false ∧ g < Y.heap.size from by rw [hY]; exact ⟨by simpa using b3f, Nat.lt_of_lt_of_le hg2 (size_setS _ _ _)⟩)
  have y0 : Y.cell? ⟨C, 0, none⟩ = some (.slice Ap n cp) := by rw [hY]; exact cell_setO p0 (by omega)
  have y1 : Y.cell? ⟨w.heap.size, 0, none⟩ = some (.pointer (some ⟨C, 0, none⟩)) := HY.out.b1
  have lp0 := ltb p0
  have lb1 := ltb b1
  have ne1 : C ≠ w.heap.size + 1 + 1 := by omega
  have ne2 : w.heap.size ≠ w.heap.size + 1 + 1 := by omega
  clear x1 x2 x3 x3f b2 h0 h2 hgr hgb BX B1 r0 r1 r2 r3 HEx y0 y1 ht1 t1
  have HHg := Lib.hid (And.intro hg1 (And.intro hg2 hAl))
  go_wp2_with fail
  rw [← hY]
  clear hY ne1 ne2 lp0 lb1 b3 b3f lb3 p0 b1 hAl
  obtain ⟨st0, hst0⟩ : ∃ st0 : Stt, st0 = ⟨c0, fun _ => -1⟩ := ⟨_, rfl⟩
  have HB0 := Lib.hid (show Bdd st0.c (((0 : Nat) : Int) * (m * K)) from by rw [hst0]; simpa using HH.out.2.2.2.2.2.1)
  rw [← hst0] at HS HY
  clear hst0
  go_loopw [5, 21] (fun v5 v21 wr => ∃ (k : Nat) (st : Stt) (f : Int), k ≤ n ∧ v21 = .int .i64 k ∧ v5 = .int .i64 f ∧ Hid (PsF w.heap.size (w.heap.size + 1) (w.heap.size + 1 + 1) C bc g n nc cap As m cs E st wr) ∧ Hid (Ex2 bc g w wr) ∧ Hid (wr.frozen? ⟨w.heap.size + 1 + 1, 0, none⟩ = false ∧ g < wr.heap.size) ∧ Hid (S = setS E m (n - k) st f) ∧ Hid (Bdd st.c ((k : Int) * (m * K)))) (fun _ i _ => n - (intOf i).toNat)
  case atStart => exact ⟨0, st0, -1, by omega, rfl, rfl, HY, HYE, HYF, HS, HB0⟩
  case round =>
    clear HY HYE HYF HS HB0 st0
    obtain ⟨k, st, f, hk, rfl, rfl, HP, HE, HF, HSk, HB⟩ := hrel
    by_cases hlt : k < n
    · have hlt' : (k : Int) < (n : Int) := by omega
      have q1 := HP.out.b1
      have q2 := HP.out.c2
      have l1 := ltb q1
      have l2 := ltb q2
      have HLC := Lib.hid lC
      go_wp2_with fail
      clear q1 q2 l1 l2
      go_loopw [5, 28] (fun v5 v28 wi => ∃ (j : Nat), j ≤ m ∧ v28 = .int .i64 j ∧ v5 = .int .i64 (pasS E st j).2 ∧ Hid (PsF w.heap.size (w.heap.size + 1) (w.heap.size + 1 + 1) C bc g n nc cap As m cs E (pasS E st j).1 wi) ∧ Hid (Ex2 bc g w wi) ∧ Hid (wi.frozen? ⟨w.heap.size + 1 + 1, 0, none⟩ = false ∧ g < wi.heap.size)) (fun _ i _ => m - (intOf i).toNat)
      case atStart => exact ⟨0, by omega, rfl, rfl, HP, HE, HF⟩
      case round =>
        clear HP HE HF
        obtain ⟨j, hj, rfl, rfl, HP, HE, HF⟩ := hrel
        by_cases hjm : j < m
        · have hjm' : (j : Int) < (m : Int) := by omega
          obtain ⟨sj, hsj⟩ : ∃ sj, sj = pasS E st j := ⟨_, rfl⟩
          have HJ := Lib.hid hsj
          rw [← hsj] at HP ⊢
          clear hsj
          have HQ := Lib.hid (fun W (hW : PsF w.heap.size (w.heap.size + 1) (w.heap.size + 1 + 1) C bc g n nc cap As m cs E sj.1 W) => push_any w.heap.size (w.heap.size + 1) (w.heap.size + 1 + 1) C bc g n nc cap As m cs E sj.1 j _ K W hW HA2.out hjm (by omega) hn ⟨(HH.out.2.2.2.2.1 j hjm).1, (HH.out.2.2.2.2.1 j hjm).2.1⟩ (HH.out.2.2.2.2.1 j hjm).2.2 (by rw [HJ.out]; exact HB.out.pass HH.out.2.2.2.2.2.2 hK0 hj) (HH.out.2.2.2.2.2.2 j hjm) (Int.le_trans (bnd_ok (Nat.le_of_lt hlt) hjm hK0 hBK).2 (by omega)) hK0 (bnd_ok (Nat.le_of_lt hlt) hjm hK0 hBK).1)
          have HL3 := Lib.hid (ltb HP.out.b3)
          go_wp2_with fail
          refine (HQ.out _ HP.out).mono ?_
          rintro e1 w2 ⟨rfl, hp, hx⟩
          have HP2 := Lib.hid (show PsF w.heap.size (w.heap.size + 1) (w.heap.size + 1 + 1) C bc g n nc cap As m cs E (pasS E st (j + 1)).1 w2 from by rw [← pas_psh, ← HJ.out]; exact hp)
          have HE2 := Lib.hid (HE.out.tr hx)
          have HF2 := Lib.hid (And.intro (hx.fz HA2.out.n3.1.symm HA2.out.n3.2.symm HL3.out HF.out.1) (Nat.lt_of_lt_of_le HF.out.2 hx.size))
          clear hp hx HP HE HF HQ
          cases ho : okP (E j) sj.1.c with
          | true =>
            have HN := Lib.hid (show (pasS E st (j + 1)).2 = ((E j).to : Int) from by rw [pasS_yes (by rw [← HJ.out]; exact ho)])
            obtain ⟨sb, so, rfl, hsb, hsc⟩ := HP2.out.es (by omega)
            have e1 := (hsc j hjm).2.1
            have q1 := HP2.out.b1
            have q2 := HP2.out.c2
            have l1 := ltb q1
            have l2 := ltb q2
            clear hsc ho
            go_wp2_with fail
            go_roundw
            case rel => exact ⟨j + 1, by omega, by go_num, by rw [HN.out], HP2, HE2, HF2⟩
            case measure => simp [intOf]; omega
          | false =>
            have HN := Lib.hid (show (pasS E st (j + 1)).2 = sj.2 from by rw [pasS_no (by rw [← HJ.out]; exact ho), HJ.out])
            clear ho
            go_wp2_with fail
            go_roundw
            case rel => exact ⟨j + 1, by omega, by go_num, by rw [HN.out], HP2, HE2, HF2⟩
            case measure => simp [intOf]; omega
        · have hjm' : ¬ (j : Int) < (m : Int) := by omega
          obtain rfl : m = j := by omega
          obtain ⟨r, hr⟩ : ∃ r, n - k = r + 1 := ⟨n - k - 1, by omega⟩
          have HR := Lib.hid hr
          obtain ⟨fl, hfl⟩ : ∃ fl, fl = (pasS E st m).2 := ⟨_, rfl⟩
          rw [← hfl]
          by_cases hf : fl = -1
          · have hfb : (fl == -1) = true := by simp [hf]
            have HSS := Lib.hid (show S = ((pasS E st m).1, fl) from by rw [HSk.out, HR.out, setS_stop (by rw [← hfl]; exact hf), hfl])
            clear hr hf hfl
            have q3 := HP.out.b3
            have l3 := ltb q3
            have f3 := HF.out.1
            go_wp2_with fail
            refine bodyPost_ret (settle_res _ _ _ _ _ rfl rfl (by go_cell)) rfl ⟨g, ⟨cap, by rw [HSS.out]⟩, by have := HHg.out.1; omega, Nat.lt_of_lt_of_le HF.out.2 (size_setS _ _ _), ?_, ?_, ?_⟩
            · rw [HSS.out]; exact HP.out.rc.other HA2.out.n3.1
            · rw [HSS.out]; exact HP.out.rb.other HA2.out.n3.2
            · exact HE.out.fresh (by omega)
          · have hfb : (fl == -1) = false := by simp [hf]
            have HSS := Lib.hid (show S = setS E m (n - (k + 1)) (pasS E st m).1 fl from by rw [HSk.out, HR.out, setS_next (by rw [← hfl]; exact hf), show n - (k + 1) = r by omega, hfl])
            have HBB := Lib.hid (show Bdd (pasS E st m).1.c (((k + 1 : Nat) : Int) * (m * K)) from by
              rw [Int.natCast_add, Int.add_mul]
              simpa using HB.out.pass HH.out.2.2.2.2.2.2 hK0 (Nat.le_refl m))
            clear hr hf hfl
            go_wp2_with fail
            refine ⟨⟨k + 1, (pasS E st m).1, fl, by omega, by go_num, rfl, HP, HE, HF, HSS, HBB⟩, ?_⟩
            simp [intOf]; omega
    · have hlt' : ¬ (k : Int) < (n : Int) := by omega
      obtain rfl : k = n := by omega
      have q3 := HP.out.b3
      have l3 := ltb q3
      have f3 := HF.out.1
      have HSS := Lib.hid (show S = (st, f) from by rw [HSk.out, Nat.sub_self, setS])
      go_wp2_with fail
      refine bodyPost_ret (settle_res _ _ _ _ _ rfl rfl (by go_cell)) rfl ⟨g, ⟨cap, by rw [HSS.out]⟩, by have := HHg.out.1; omega, Nat.lt_of_lt_of_le HF.out.2 (size_setS _ _ _), ?_, ?_, ?_⟩
      · rw [HSS.out]; exact HP.out.rc.other HA2.out.n3.1
      · rw [HSS.out]; exact HP.out.rb.other HA2.out.n3.2
      · exact HE.out.fresh (by omega)
end Go.Proofs.Ytchikfegpoonjaa
