/-
  Ahead of the reference.
-/
import Derived.Test.YtflajochohbokaaRN
import Derived.Test.YtflajochohbokaaRB
namespace Go.Proofs.Ytflajochohbokaa
open Go.RowKit
set_option linter.unusedSimpArgs false
set_option linter.unusedVariables false

theorem rates1_any (s : ByteArray) (A : Option Addr) (n c : Nat) (E : Nat → Int) (w : World) (hA : Sl w A n E) (h1 : 1 ≤ n) (h4 : n ≤ 400) (hE : dyTo E n = true) :
    Calls Try.prog 57 #[encB s A n c, .int .i64 1] w fun e w' => Bl w w' ∧ ∃ A1 c1, e = .returned (.slice A1 (n - 1) c1) ∧ n - 1 ≤ c1 ∧ c1 ≤ maxLen ∧ Sl w' A1 (n - 1) (rtF E 1) := by
  refine (rates_any s A n c 1 E w hA h1 h4 (.inl rfl) hE).mono ?_
  rintro e w1 ⟨hb, v, rfl, ho⟩
  rw [Nat.div_one] at ho
  obtain ⟨A1, c1, rfl, k1, k2, h⟩ := sl_of_own ho
  exact ⟨hb, A1, c1, rfl, k1, k2, h⟩
theorem rates7_any (s : ByteArray) (A : Option Addr) (n c : Nat) (E : Nat → Int) (w : World) (hA : Sl w A n E) (h1 : 1 ≤ n) (h4 : n ≤ 400) (hE : dyTo E n = true) :
    Calls Try.prog 57 #[encB s A n c, .int .i64 7] w fun e w' => Bl w w' ∧ ∃ A1 c1, e = .returned (.slice A1 ((n - 1) / 7) c1) ∧ (n - 1) / 7 ≤ c1 ∧ c1 ≤ maxLen ∧ Sl w' A1 ((n - 1) / 7) (rtF E 7) := by
  refine (rates_any s A n c 7 E w hA h1 h4 (.inr rfl) hE).mono ?_
  rintro e w1 ⟨hb, v, rfl, ho⟩
  obtain ⟨A1, c1, rfl, k1, k2, h⟩ := sl_of_own ho
  exact ⟨hb, A1, c1, rfl, k1, k2, h⟩

set_option maxRecDepth 100000 in
set_option maxHeartbeats 3200000 in
theorem rahead_any (s : ByteArray) (A : Option Addr) (n c : Nat) (E : Nat → Int) (last days : Int) (w : World) (hs : s.size ≤ maxLen) (hA : Sl w A n E) (hn : n ≤ c) (hc : c ≤ maxLen) :
    Calls Try.prog 40 #[encB s A n c, .int .i64 last, .int .i64 days] w fun e w' => e = .returned (ahR s n E last days) ∧ Bl w w' := by
  have HA := Lib.hid hA
  have HS := Lib.hid hs
  have HC := Lib.hid hc
  have HN := Lib.hid (show n ≤ maxLen by omega)
  have HNC := Lib.hid hn
  clear hA hs
  unfold maxLen at hc
  by_cases hv : vbB s n E = true
  rotate_left
  · have HV := Lib.hid (show vbB s n E = false by simpa using hv)
    have HR := Lib.hid (ahR_bad (last := last) (days := days) HV.out)
    clear hv
    go_enter Try.func40, Try.ntmps40
    go_wp2_with fail
    refine (rvalidBox_any s A n c E _ HS.out HN.out (HA.out.below (by go_grown))).mono ?_
    rintro q1 w1 ⟨rfl, hb⟩
    have x0 := kcb hb (b := w.heap.size) (o := 0) (v := .string s) (by first | assumption | (refine cellUp ?_; assumption) | go_cell)
    have x1 := kcb hb (b := w.heap.size) (o := 1) (v := .slice A n c) (by first | assumption | (refine cellUp ?_; assumption) | go_cell)
    have r0 := kcb hb (b := w.heap.size + 1) (o := 0) (v := .int .i64 0) (by first | assumption | (refine cellUp ?_; assumption) | go_cell)
    have r1 := kcb hb (b := w.heap.size + 1) (o := 1) (v := .int .i64 0) (by first | assumption | (refine cellUp ?_; assumption) | go_cell)
    have f0 := fzb hb (b := w.heap.size + 1) (o := 0) (by (try simp only [frozen?_alloc_cells, World.frozen?_setCell, World.frozen?_drew]); first | assumption | exact fz_new (by (try simp only [World.size_alloc, World.size_setCell, World.size_drew]); omega)) (by (try simp only [World.size_alloc, World.size_setCell, World.size_drew]); omega)
    have f1 := fzb hb (b := w.heap.size + 1) (o := 1) (by (try simp only [frozen?_alloc_cells, World.frozen?_setCell, World.frozen?_drew]); first | assumption | exact fz_new (by (try simp only [World.size_alloc, World.size_setCell, World.size_drew]); omega)) (by (try simp only [World.size_alloc, World.size_setCell, World.size_drew]); omega)
    have B1 : Bl w w1 := Below.trans (by go_grown) (hb.mono (by (try simp only [World.size_alloc, World.size_setCell, World.size_drew]); omega))
    have l1 := ltb r1
    have l1_1 := ltb x1
    have zz1 := B1.size
    clear hb
    rw [HV.out]
    go_wp2_with fail
    (try simp only [Exit.inBlock, Exit.then])
    refine bodyPost_ret (v := ahR s n E last days) (by rw [HR.out]; simp [results, Try.results40, go_sem, spV, r0, r1]) rfl ⟨rfl, Below.trans B1 (by go_grown)⟩
  · have HV := Lib.hid hv
    obtain ⟨_, n2, n4, hE⟩ := vbB_iff.1 hv
    have HE := Lib.hid hE
    clear hv hE
    by_cases q1 : last < 1
    · have HR := Lib.hid (ahR_rng HV.out (last := last) (days := days) (.inl q1))
      go_enter Try.func40, Try.ntmps40
      go_wp2_with fail
      refine (rvalidBox_any s A n c E _ HS.out HN.out (HA.out.below (by go_grown))).mono ?_
      rintro q1 w1 ⟨rfl, hb⟩
      have x0 := kcb hb (b := w.heap.size) (o := 0) (v := .string s) (by first | assumption | (refine cellUp ?_; assumption) | go_cell)
      have x1 := kcb hb (b := w.heap.size) (o := 1) (v := .slice A n c) (by first | assumption | (refine cellUp ?_; assumption) | go_cell)
      have r0 := kcb hb (b := w.heap.size + 1) (o := 0) (v := .int .i64 0) (by first | assumption | (refine cellUp ?_; assumption) | go_cell)
      have r1 := kcb hb (b := w.heap.size + 1) (o := 1) (v := .int .i64 0) (by first | assumption | (refine cellUp ?_; assumption) | go_cell)
      have f0 := fzb hb (b := w.heap.size + 1) (o := 0) (by (try simp only [frozen?_alloc_cells, World.frozen?_setCell, World.frozen?_drew]); first | assumption | exact fz_new (by (try simp only [World.size_alloc, World.size_setCell, World.size_drew]); omega)) (by (try simp only [World.size_alloc, World.size_setCell, World.size_drew]); omega)
      have f1 := fzb hb (b := w.heap.size + 1) (o := 1) (by (try simp only [frozen?_alloc_cells, World.frozen?_setCell, World.frozen?_drew]); first | assumption | exact fz_new (by (try simp only [World.size_alloc, World.size_setCell, World.size_drew]); omega)) (by (try simp only [World.size_alloc, World.size_setCell, World.size_drew]); omega)
      have B1 : Bl w w1 := Below.trans (by go_grown) (hb.mono (by (try simp only [World.size_alloc, World.size_setCell, World.size_drew]); omega))
      have l1 := ltb r1
      have l1_1 := ltb x1
      have zz1 := B1.size
      clear hb
      rw [HV.out]
      go_wp2_with fail
      (try simp only [Exit.inBlock, Exit.then])
      refine bodyPost_ret (v := ahR s n E last days) (by rw [HR.out]; simp [results, Try.results40, go_sem, spV, r0, r1]) rfl ⟨rfl, Below.trans B1 (by go_grown)⟩
    · have q1' : 1 ≤ last := by omega
      clear q1
      by_cases q2 : days < 1
      · have HR := Lib.hid (ahR_rng HV.out (last := last) (days := days) (.inr (.inl q2)))
        go_enter Try.func40, Try.ntmps40
        go_wp2_with fail
        refine (rvalidBox_any s A n c E _ HS.out HN.out (HA.out.below (by go_grown))).mono ?_
        rintro q1 w1 ⟨rfl, hb⟩
        have x0 := kcb hb (b := w.heap.size) (o := 0) (v := .string s) (by first | assumption | (refine cellUp ?_; assumption) | go_cell)
        have x1 := kcb hb (b := w.heap.size) (o := 1) (v := .slice A n c) (by first | assumption | (refine cellUp ?_; assumption) | go_cell)
        have r0 := kcb hb (b := w.heap.size + 1) (o := 0) (v := .int .i64 0) (by first | assumption | (refine cellUp ?_; assumption) | go_cell)
        have r1 := kcb hb (b := w.heap.size + 1) (o := 1) (v := .int .i64 0) (by first | assumption | (refine cellUp ?_; assumption) | go_cell)
        have f0 := fzb hb (b := w.heap.size + 1) (o := 0) (by (try simp only [frozen?_alloc_cells, World.frozen?_setCell, World.frozen?_drew]); first | assumption | exact fz_new (by (try simp only [World.size_alloc, World.size_setCell, World.size_drew]); omega)) (by (try simp only [World.size_alloc, World.size_setCell, World.size_drew]); omega)
        have f1 := fzb hb (b := w.heap.size + 1) (o := 1) (by (try simp only [frozen?_alloc_cells, World.frozen?_setCell, World.frozen?_drew]); first | assumption | exact fz_new (by (try simp only [World.size_alloc, World.size_setCell, World.size_drew]); omega)) (by (try simp only [World.size_alloc, World.size_setCell, World.size_drew]); omega)
        have B1 : Bl w w1 := Below.trans (by go_grown) (hb.mono (by (try simp only [World.size_alloc, World.size_setCell, World.size_drew]); omega))
        have l1 := ltb r1
        have l1_1 := ltb x1
        have zz1 := B1.size
        clear hb
        rw [HV.out]
        go_wp2_with fail
        (try simp only [Exit.inBlock, Exit.then])
        refine bodyPost_ret (v := ahR s n E last days) (by rw [HR.out]; simp [results, Try.results40, go_sem, spV, r0, r1]) rfl ⟨rfl, Below.trans B1 (by go_grown)⟩
      · have q2' : 1 ≤ days := by omega
        clear q2
        by_cases q3 : 400 < days
        · have HR := Lib.hid (ahR_rng HV.out (last := last) (days := days) (.inr (.inr q3)))
          go_enter Try.func40, Try.ntmps40
          go_wp2_with fail
          refine (rvalidBox_any s A n c E _ HS.out HN.out (HA.out.below (by go_grown))).mono ?_
          rintro q1 w1 ⟨rfl, hb⟩
          have x0 := kcb hb (b := w.heap.size) (o := 0) (v := .string s) (by first | assumption | (refine cellUp ?_; assumption) | go_cell)
          have x1 := kcb hb (b := w.heap.size) (o := 1) (v := .slice A n c) (by first | assumption | (refine cellUp ?_; assumption) | go_cell)
          have r0 := kcb hb (b := w.heap.size + 1) (o := 0) (v := .int .i64 0) (by first | assumption | (refine cellUp ?_; assumption) | go_cell)
          have r1 := kcb hb (b := w.heap.size + 1) (o := 1) (v := .int .i64 0) (by first | assumption | (refine cellUp ?_; assumption) | go_cell)
          have f0 := fzb hb (b := w.heap.size + 1) (o := 0) (by (try simp only [frozen?_alloc_cells, World.frozen?_setCell, World.frozen?_drew]); first | assumption | exact fz_new (by (try simp only [World.size_alloc, World.size_setCell, World.size_drew]); omega)) (by (try simp only [World.size_alloc, World.size_setCell, World.size_drew]); omega)
          have f1 := fzb hb (b := w.heap.size + 1) (o := 1) (by (try simp only [frozen?_alloc_cells, World.frozen?_setCell, World.frozen?_drew]); first | assumption | exact fz_new (by (try simp only [World.size_alloc, World.size_setCell, World.size_drew]); omega)) (by (try simp only [World.size_alloc, World.size_setCell, World.size_drew]); omega)
          have B1 : Bl w w1 := Below.trans (by go_grown) (hb.mono (by (try simp only [World.size_alloc, World.size_setCell, World.size_drew]); omega))
          have l1 := ltb r1
          have l1_1 := ltb x1
          have zz1 := B1.size
          clear hb
          rw [HV.out]
          go_wp2_with fail
          (try simp only [Exit.inBlock, Exit.then])
          refine bodyPost_ret (v := ahR s n E last days) (by rw [HR.out]; simp [results, Try.results40, go_sem, spV, r0, r1]) rfl ⟨rfl, Below.trans B1 (by go_grown)⟩
        · have q3' : days ≤ 400 := by omega
          clear q3
          go_enter Try.func40, Try.ntmps40
          go_wp2_with fail
          refine (rvalidBox_any s A n c E _ HS.out HN.out (HA.out.below (by go_grown))).mono ?_
          rintro q1 w1 ⟨rfl, hb⟩
          have x0 := kcb hb (b := w.heap.size) (o := 0) (v := .string s) (by first | assumption | (refine cellUp ?_; assumption) | go_cell)
          have x1 := kcb hb (b := w.heap.size) (o := 1) (v := .slice A n c) (by first | assumption | (refine cellUp ?_; assumption) | go_cell)
          have r0 := kcb hb (b := w.heap.size + 1) (o := 0) (v := .int .i64 0) (by first | assumption | (refine cellUp ?_; assumption) | go_cell)
          have r1 := kcb hb (b := w.heap.size + 1) (o := 1) (v := .int .i64 0) (by first | assumption | (refine cellUp ?_; assumption) | go_cell)
          have f0 := fzb hb (b := w.heap.size + 1) (o := 0) (by (try simp only [frozen?_alloc_cells, World.frozen?_setCell, World.frozen?_drew]); first | assumption | exact fz_new (by (try simp only [World.size_alloc, World.size_setCell, World.size_drew]); omega)) (by (try simp only [World.size_alloc, World.size_setCell, World.size_drew]); omega)
          have f1 := fzb hb (b := w.heap.size + 1) (o := 1) (by (try simp only [frozen?_alloc_cells, World.frozen?_setCell, World.frozen?_drew]); first | assumption | exact fz_new (by (try simp only [World.size_alloc, World.size_setCell, World.size_drew]); omega)) (by (try simp only [World.size_alloc, World.size_setCell, World.size_drew]); omega)
          have B1 : Bl w w1 := Below.trans (by go_grown) (hb.mono (by (try simp only [World.size_alloc, World.size_setCell, World.size_drew]); omega))
          have l1 := ltb r1
          have l1_1 := ltb x1
          have zz1 := B1.size
          clear hb
          rw [HV.out]
          go_wp2_with fail
          refine (rates1_any s A n c E _ (HA.out.below B1) (by omega) n4 HE.out).mono ?_
          rintro q2 w2 ⟨hb, A1, c1, rfl, k1, k1', hA1⟩
          have x0 := kcb hb (b := w.heap.size) (o := 0) (v := .string s) (by first | assumption | (refine cellUp ?_; assumption) | go_cell)
          have x1 := kcb hb (b := w.heap.size) (o := 1) (v := .slice A n c) (by first | assumption | (refine cellUp ?_; assumption) | go_cell)
          have r0 := kcb hb (b := w.heap.size + 1) (o := 0) (v := .int .i64 0) (by first | assumption | (refine cellUp ?_; assumption) | go_cell)
          have r1 := kcb hb (b := w.heap.size + 1) (o := 1) (v := .int .i64 0) (by first | assumption | (refine cellUp ?_; assumption) | go_cell)
          have f0 := fzb hb (b := w.heap.size + 1) (o := 0) (by (try simp only [frozen?_alloc_cells, World.frozen?_setCell, World.frozen?_drew]); first | assumption | exact fz_new (by (try simp only [World.size_alloc, World.size_setCell, World.size_drew]); omega)) (by (try simp only [World.size_alloc, World.size_setCell, World.size_drew]); omega)
          have f1 := fzb hb (b := w.heap.size + 1) (o := 1) (by (try simp only [frozen?_alloc_cells, World.frozen?_setCell, World.frozen?_drew]); first | assumption | exact fz_new (by (try simp only [World.size_alloc, World.size_setCell, World.size_drew]); omega)) (by (try simp only [World.size_alloc, World.size_setCell, World.size_drew]); omega)
          have B2 := B1.tr hb
          have l2 := ltb r0
          have zz2 := B2.size
          clear hb
          obtain ⟨p, hp⟩ : ∃ p, p = n - 1 := ⟨_, rfl⟩
          rw [← hp] at k1 hA1 ⊢
          by_cases q4 : (p : Int) < last
          · skip
            have HR := Lib.hid (ahR_non HV.out (last := last) (days := days) (by omega) (by omega))
            go_wp2_with fail
            (try simp only [Exit.inBlock, Exit.then])
            refine bodyPost_ret (v := ahR s n E last days) (by rw [HR.out]; simp [results, Try.results40, go_sem, spV, r0, r1]) rfl ⟨rfl, Below.trans B2 (by go_grown)⟩
          · skip
            have q4' : last ≤ (p : Int) := by omega
            clear q4
            obtain ⟨L, rfl⟩ : ∃ L : Nat, last = (L : Int) := ⟨last.toNat, by omega⟩
            have L1 : 1 ≤ L := by omega
            have Lp : L ≤ p := by omega
            have Ln : L ≤ n - 1 := by omega
            have HR := Lib.hid (ahR_ok HV.out (L := L) (days := days) ⟨L1, q2', q3'⟩ Ln n2)
            obtain ⟨⟨v1, v2, v3⟩, v4, v5⟩ := ah_vS HE.out L1 Ln n2 ⟨q2', q3'⟩
            obtain ⟨K, hK⟩ : ∃ K, K = n - 1 - L := ⟨_, rfl⟩
            have kk : p - K = L := by omega
            have kp : K ≤ p := by omega
            have HD := Lib.hid (al_eq (E := E) (n := n) (L := L) (K := K) hK)
            obtain ⟨b1, off1, rfl, hb1, hc1⟩ := hA1 (by omega)
            have HT := Lib.hid (show Sl w2 (some ⟨b1, off1 + K, none⟩) L (fun j => rtF E 1 (j + K)) by rw [← kk]; exact hA1.tail _ (by omega))
            have eK : IntKind.i64.wrap ((p : Int) - (L : Int)) = (K : Int) := by rw [IntWalk.i64_in _ (by omega)]; omega
            have eK' : wrap64 ((p : Int) - (L : Int)) = (K : Int) := by rw [IntWalk.wrap64_in _ (by omega)]; omega
            obtain ⟨b, off, rfl, hb0, hc0⟩ := HA.out (by omega)
            obtain ⟨u, hu⟩ : ∃ u, u = E (n - 1) := ⟨_, rfl⟩
            have cu := (B2.cell (p := ⟨b, off + (n - 1), none⟩) hb0).trans (hc0 (n - 1) (by omega))
            rw [← hu] at cu v4 v5 HR
            have tN : ((n : Int) - 1).toNat = n - 1 := by omega
            have K1 := Lib.hid k1'
            have c1b : c1 ≤ 2 ^ 63 - 1 := by have := K1.out; unfold maxLen at this; exact this
            obtain ⟨a, ha⟩ : ∃ a, a = alF E n L := ⟨_, rfl⟩
            obtain ⟨g, hg⟩ : ∃ g, g = agF E n L := ⟨_, rfl⟩
            rw [← ha, ← hg] at HR HD
            rw [← ha] at v1 v2
            rw [← hg] at v2 v3
            obtain ⟨P, hP⟩ : ∃ P, P = days * a := ⟨_, rfl⟩
            obtain ⟨Q, hQ⟩ : ∃ Q, Q = days * g := ⟨_, rfl⟩
            rw [← hP] at HR v1 v2
            rw [← hQ] at HR v2 v3
            have p1 : IntKind.i64.wrap (days * a) = P := by rw [IntWalk.i64_in _ (by omega), hP]
            have p1' : wrap64 (days * a) = P := by rw [IntWalk.wrap64_in _ (by omega), hP]
            have p2 : IntKind.i64.wrap (days * g) = Q := by rw [IntWalk.i64_in _ (by omega), hQ]
            have p2' : wrap64 (days * g) = Q := by rw [IntWalk.wrap64_in _ (by omega), hQ]
            have p3 : IntKind.i64.wrap (u + P) = u + P := IntWalk.i64_in _ (by omega)
            have p4 : IntKind.i64.wrap (u + Q) = u + Q := IntWalk.i64_in _ (by omega)
            have ck : c1 - K ≤ 2 ^ 63 - 1 := by omega
            have cne : ¬ c1 = K := by omega
            clear hA1 hc1 hc0 hu k1' hp hK ha hg hP hQ
            go_wp2_with fail
            go_region_law (first | (go_simp; go_at_call 43; refine (least_any (some ⟨b1, off1 + K, none⟩) L (c1 - K) (fun j => rtF E 1 (j + K)) _ (HT.out.below (by go_grown)) L1 (by unfold maxLen; omega)).mono ?_; rintro e9 v9 ⟨rfl, rfl⟩; rw [HD.out.1]) | (go_simp; go_at_call 44; refine (greatest_any (some ⟨b1, off1 + K, none⟩) L (c1 - K) (fun j => rtF E 1 (j + K)) _ (HT.out.below (by go_grown)) L1 (by unfold maxLen; omega)).mono ?_; rintro e9 v9 ⟨rfl, rfl⟩; rw [HD.out.2]))
            all_goals
              obtain ⟨Y, hY⟩ : ∃ Y, Y = (w2.alloc (.cells #[.int .i64 (u + P), .int .i64 (u + Q)] 58)).drew := ⟨_, rfl⟩
              have BY : Bl w2 Y := by rw [hY]; go_grown
              have s0 : Y.cell? ⟨w2.heap.size, 0, none⟩ = some (.int .i64 (u + P)) := by rw [hY]; go_cell
              have s1 : Y.cell? ⟨w2.heap.size, 1, none⟩ = some (.int .i64 (u + Q)) := by rw [hY]; go_cell
              rw [← hY]
              clear hY
              have r0 := kcb BY r0
              have r1 := kcb BY r1
              have f0 := fzb BY f0 (by omega)
              have f1 := fzb BY f1 (by omega)
              have lr2 := ltb r0
              have ls2 := ltb s0
              have BZ := B2.tr BY
              have w1' : -1000000000000 ≤ u + P := by omega
              have w2' : u + Q ≤ 1000000000000 := by omega
              go_wp2_with fail
              (try simp only [Exit.inBlock, Exit.then])
              refine bodyPost_ret (v := ahR s n E L days) (by rw [HR.out]; simp [results, Try.results40, go_sem, spV, r0, r1]) rfl ⟨rfl, Below.trans BZ (by go_grown)⟩
end Go.Proofs.Ytflajochohbokaa
