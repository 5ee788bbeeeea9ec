/-
  Leaps of the reference.
-/
import Derived.Test.YtflajochohbokaaRX
namespace Go.Proofs.Ytflajochohbokaa
open Go.RowKit
set_option linter.unusedSimpArgs false
set_option linter.unusedVariables false

set_option maxRecDepth 100000 in
set_option maxHeartbeats 6400000 in
theorem rleaps_any (s : ByteArray) (A : Option Addr) (n c : Nat) (E : Nat → Int) (most : Int) (w : World) (hs : s.size ≤ maxLen) (hA : Sl w A n E) (hn : n ≤ c) (hc : c ≤ maxLen) :
    Calls Try.prog 42 #[encB s A n c, .int .i64 most] w (LvPost s n E most w) := by
  obtain ⟨i0, hi0, hz0, hz1, hz2⟩ := info_parts6 int_info
  have HI := Lib.hid (And.intro hi0 (And.intro hz0 (And.intro hz1 hz2)))
  clear hi0 hz0 hz1 hz2
  have HA := Lib.hid hA
  have HS := Lib.hid hs
  have HC := Lib.hid hc
  have HN := Lib.hid (show n ≤ maxLen by omega)
  have HNC := Lib.hid hn
  clear hA hs
  unfold maxLen at hc
  by_cases hv : vbB s n E = true
  rotate_left
  · have HV := Lib.hid (show vbB s n E = false by simpa using hv)
    clear hv
    go_enter Try.func42, Try.ntmps42
    go_wp2_with fail
    refine (rvalidBox_any s A n c E _ HS.out HN.out (HA.out.below (by go_grown))).mono ?_
    rintro q1 w1 ⟨rfl, hb⟩
    have x0 := kcb hb (b := w.heap.size) (o := 0) (v := .string s) (by first | assumption | (refine cellUp ?_; assumption) | go_cell)
    have x1 := kcb hb (b := w.heap.size) (o := 1) (v := .slice A n c) (by first | assumption | (refine cellUp ?_; assumption) | go_cell)
    have B1 : Bl w w1 := Below.trans (by go_grown) (hb.mono (by (try simp only [World.size_alloc, World.size_setCell, World.size_drew]); omega))
    have l1 := ltb x1
    have zz1 := B1.size
    clear hb
    rw [HV.out]
    go_wp2_with fail
    go_ret2
    exact ⟨B1, .inl ⟨HV.out, rfl⟩⟩
  · have HV := Lib.hid hv
    obtain ⟨_, n2, n4, hE⟩ := vbB_iff.1 hv
    have HE := Lib.hid hE
    clear hv hE
    by_cases hm : most < 0
    · skip
      go_enter Try.func42, Try.ntmps42
      go_wp2_with fail
      refine (rvalidBox_any s A n c E _ HS.out HN.out (HA.out.below (by go_grown))).mono ?_
      rintro q1 w1 ⟨rfl, hb⟩
      have x0 := kcb hb (b := w.heap.size) (o := 0) (v := .string s) (by first | assumption | (refine cellUp ?_; assumption) | go_cell)
      have x1 := kcb hb (b := w.heap.size) (o := 1) (v := .slice A n c) (by first | assumption | (refine cellUp ?_; assumption) | go_cell)
      have B1 : Bl w w1 := Below.trans (by go_grown) (hb.mono (by (try simp only [World.size_alloc, World.size_setCell, World.size_drew]); omega))
      have l1 := ltb x1
      have zz1 := B1.size
      clear hb
      rw [HV.out]
      go_wp2_with fail
      go_ret2
      exact ⟨B1, .inr (.inl ⟨HV.out, hm, rfl⟩)⟩
    · have hm' : 0 ≤ most := by omega
      clear hm
      go_enter Try.func42, Try.ntmps42
      go_wp2_with fail
      refine (rvalidBox_any s A n c E _ HS.out HN.out (HA.out.below (by go_grown))).mono ?_
      rintro q1 w1 ⟨rfl, hb⟩
      have x0 := kcb hb (b := w.heap.size) (o := 0) (v := .string s) (by first | assumption | (refine cellUp ?_; assumption) | go_cell)
      have x1 := kcb hb (b := w.heap.size) (o := 1) (v := .slice A n c) (by first | assumption | (refine cellUp ?_; assumption) | go_cell)
      have B1 : Bl w w1 := Below.trans (by go_grown) (hb.mono (by (try simp only [World.size_alloc, World.size_setCell, World.size_drew]); omega))
      have l1 := ltb x1
      have zz1 := B1.size
      clear hb
      rw [HV.out]
      go_wp2_with fail
      refine (rates1_any s A n c E _ (HA.out.below B1) (by omega) n4 HE.out).mono ?_
      rintro q2 w2 ⟨hb, A1, c1, rfl, k1, k1', hA1⟩
      have B2 := B1.tr hb
      have zz2 := B2.size
      clear hb
      obtain ⟨p, hp⟩ : ∃ p, p = n - 1 := ⟨_, rfl⟩
      rw [← hp] at k1 hA1 ⊢
      have HP := Lib.hid hp
      have p4 : p ≤ 399 ∧ 1 ≤ p := by omega
      obtain ⟨p4, p1⟩ := p4
      have HA1 := Lib.hid hA1
      clear hA1 hp k1'
      have c1b : p ≤ 2 ^ 63 - 1 := by omega
      have NV : World.ownsRow w2 w2.heap.size 3 1 (.slice none 0 0) 0 [] := World.ownsRow_nil _ _ _ _
      go_wp2_with fail
      go_loopw [6, 8] (fun v i wr => ∃ k j : Nat, Hid (j = k + 1) ∧ k ≤ p ∧ j ≤ p ∧ i = .int .i64 j ∧ Hid (wr.ownsRow w2.heap.size 3 1 v (lpL (stF (stF E)) most k).length ((lpL (stF (stF E)) most k).map (Value.int .i64))) ∧ Below w2.heap.size w2 wr) (fun _ i _ => p - (RowKit.intOf i).toNat)
      case atStart => exact ⟨0, 1, Lib.hid rfl, by omega, by omega, rfl, Lib.hid NV, Below.refl _ _⟩
      case round =>
        obtain ⟨k, j, HJ, hk, hj, rfl, HO, hB⟩ := hrel
        have zB := hB.size
        by_cases hlt : j < p
        · obtain ⟨b, off, rfl, hbb, hcc⟩ := HA1.out (by omega)
          have hjk := HJ.out
          have bj := rt_bd (d := 1) (n := n) (.inl rfl) HE.out (j := j) (by rw [Nat.div_one, ← HP.out]; exact hlt)
          have bk := rt_bd (d := 1) (n := n) (.inl rfl) HE.out (j := k) (by rw [Nat.div_one, ← HP.out]; omega)
          obtain ⟨x, hx⟩ : ∃ x, x = rtF E 1 j := ⟨_, rfl⟩
          obtain ⟨y, hy⟩ : ∃ y, y = rtF E 1 k := ⟨_, rfl⟩
          have c0 := (hB.cell (p := ⟨b, off + j, none⟩) hbb).trans (hcc j hlt)
          have c2 := (hB.cell (p := ⟨b, off + k, none⟩) hbb).trans (hcc k (by omega))
          rw [← hx] at c0 bj
          rw [← hy] at c2 bk
          obtain ⟨z, hz⟩ : ∃ z, z = x - y := ⟨_, rfl⟩
          have zb : -400000000 ≤ z ∧ z ≤ 400000000 := by omega
          obtain ⟨zb1, zb2⟩ := zb
          have kp : k < p := by omega
          have HG := Lib.hid (show stF (stF E) k = z by rw [st_one E]; show rtF E 1 (k + 1) - rtF E 1 k = z; rw [← hjk, ← hx, ← hy, hz])
          have HL := Lib.hid (show lpL (stF (stF E)) most (k + 1) = if most < (z.natAbs : Int) then lpL (stF (stF E)) most k ++ [(j : Int)] else lpL (stF (stF E)) most k by rw [lpL, HG.out, show (j : Int) = (k : Int) + 1 by omega])
          have e1 : IntKind.i64.wrap ((j : Int) - 1) = (k : Int) := by rw [IntWalk.i64_in _ (by omega)]; omega
          have e1' : wrap64 ((j : Int) - 1) = (k : Int) := by rw [IntWalk.wrap64_in _ (by omega)]; omega
          have e2 : IntKind.i64.wrap (x - y) = z := by rw [IntWalk.i64_in _ (by omega), hz]
          have e2' : wrap64 (x - y) = z := by rw [IntWalk.wrap64_in _ (by omega), hz]
          have hlen := lpL_len (stF (stF E)) most k
          clear hx hy hz bj bk hcc hjk
          by_cases q : most < (z.natAbs : Int)
          · have HL := Lib.hid (HL.out.trans (if_pos q))
            go_wp2_with fail
            go_region_law (first | (go_simp; go_at_call 68; refine (absR_any _ _ (by omega) (by omega)).mono ?_; rintro e9 v9 ⟨rfl, rfl⟩))
            all_goals
              obtain ⟨Z, hZ⟩ : ∃ Z, Z = wr.drew := ⟨_, rfl⟩
              rw [← hZ]
              have HOZ := Lib.hid (show Z.ownsRow w2.heap.size 3 1 _ (lpL (stF (stF E)) most k).length ((lpL (stF (stF E)) most k).map (Value.int .i64)) by rw [hZ]; exact HO.out.drew)
              have hBZ : Below w2.heap.size w2 Z := by rw [hZ]; exact hB.drew
              have zZ := hBZ.size
              clear hZ
              have hnew := Lib.hid (show (Z.alloc (.cells #[.int .i64 (j : Int)] 3)).heap[Z.heap.size]? = some (.cells #[.int .i64 (j : Int)] 3 (0, 0)) from heap_alloc_new Z _)
              go_wp2_with (at_builtin; refine wpList_append_lies _ rfl _ _ _ rfl w2.heap.size 3 i0 _ 1 8 Try.underlying22 HI.out.1 HI.out.2.1 HI.out.2.2.1 HI.out.2.2.2 rfl (by omega) _ (lpL (stF (stF E)) most k).length ((lpL (stF (stF E)) most k).map (Value.int .i64)) rfl (HOZ.out.alloc _) ⟨Z.heap.size, 0, none⟩ 1 1 [.int .i64 (j : Int)] rfl rfl (World.news_of_block hnew.out) (by simp [Value.oneCell']) (by omega) (by unfold maxLen; omega) (by omega) (by (try simp only [World.size_alloc]); omega) _ rfl ?_; intro gg cap w9 hown1 hgrow hat hlt9)
              have HO9 := Lib.hid (show w9.ownsRow w2.heap.size 3 1 (.slice (some ⟨gg, 0, none⟩) ((lpL (stF (stF E)) most k).length + 1) cap) (lpL (stF (stF E)) most (k + 1)).length ((lpL (stF (stF E)) most (k + 1)).map (Value.int .i64)) by
                rw [HL.out, List.length_append, List.length_singleton, List.map_append, List.map_singleton]; exact hown1)
              have hl := HOZ.out.lt
              have X9 : Below w2.heap.size Z w9 := Below.grown (w := Z.alloc (.cells #[.int .i64 (j : Int)] 3)) (by go_grown) hgrow (by (try simp only [World.size_alloc]); omega) (fun j hj => (hl j hj).1)
              go_roundw
              case rel => exact ⟨k + 1, j + 1, Lib.hid (by rw [HJ.out]), by omega, by omega, by go_num, HO9, Below.trans hBZ X9⟩
              case measure => simp [RowKit.intOf]; omega
          · have HL := Lib.hid (HL.out.trans (if_neg q))
            have q' : (z.natAbs : Int) ≤ most := by omega
            clear q
            go_wp2_with fail
            go_region_law (first | (go_simp; go_at_call 68; refine (absR_any _ _ (by omega) (by omega)).mono ?_; rintro e9 v9 ⟨rfl, rfl⟩))
            all_goals
              go_wp2_with fail
              go_roundw
              case rel => exact ⟨k + 1, j + 1, Lib.hid (by rw [HJ.out]), by omega, by omega, by go_num, by rw [HL.out]; exact Lib.hid (HO.out.drew), hB.drew⟩
              case measure => simp [RowKit.intOf]; omega
        · have HK := Lib.hid (show n - 1 - 1 = k by have := HJ.out; have := HP.out; omega)
          go_wp2_with fail
          go_ret2
          exact ⟨Below.trans B2 (hB.mono (by omega)), .inr (.inr ⟨HV.out, hm', _, w2.heap.size, rfl, by rw [HK.out]; exact HO.out⟩)⟩
end Go.Proofs.Ytflajochohbokaa
