/-
  Contracts of the reference of package ball: Run, Verdict, Off.
-/
import Derived.Test.YtaebclepdobbaaaBJ
namespace Go.Proofs.Ytaebclepdobbaaa
open Go.RowKit Go.Shelf
set_option linter.unusedSimpArgs false
set_option linter.unusedVariables false

theorem nxt_run {M : Mst} (hM : VM M) (E : Nat → Evt) (k : Nat) (e : Evt) : nxtF M (runF M E k).1 e = stp M (runF M E k).1 e := if_pos ⟨hM, runF_vs M E k⟩
theorem stp_zero {M : Mst} {s : Bal} {e : Evt} (h : (stp M s e).2 ≠ 0) : (stp M s e).1 = Bal.zero := by
  unfold stp at h ⊢
  split
  · rename_i h1
    rw [if_pos h1] at h
    split
    · rename_i h2; rw [if_pos h2] at h; exact absurd rfl h
    · rfl
  · rfl

set_option maxRecDepth 100000 in
set_option maxHeartbeats 1600000 in
theorem rrun_any (M : Mst) (A : Option Addr) (n c : Nat) (E : Nat → Evt) (w : World) (hA : El w A n E) (hn : n ≤ maxLen) :
    Calls Try.prog 26 #[encM M, .slice A n c] w fun e w' => e = .returned (.tuple #[encB (runR M E n).1, .int .i64 (runR M E n).2.1, .int .i64 (runR M E n).2.2]) ∧ Bl w w' := by
  have HA := Lib.hid hA
  clear hA
  unfold maxLen at hn
  by_cases hM : VM M
  · have HVM := Lib.hid (show decide (VM M) = true from decide_eq_true hM)
    have HM := Lib.hid hM
    by_cases h100 : 100 < n
    · have HR := Lib.hid (show runR M E n = (Bal.zero, 0, 7) by unfold runR; rw [if_pos hM, if_pos h100])
      clear hM
      go_enter Try.func26, Try.ntmps26
      go_wp2_with fail
      refine (rvalidMast_any M _).mono ?_
      rintro q1 w1 ⟨rfl, hb⟩
      have m0 := kcb hb (b := w.heap.size) (o := 0) (v := .int .i64 M.no) (by go_cell)
      have m1 := kcb hb (b := w.heap.size) (o := 1) (v := .int .i64 M.hf) (by go_cell)
      have m2 := kcb hb (b := w.heap.size) (o := 2) (v := .int .i64 M.fu) (by go_cell)
      have m3 := kcb hb (b := w.heap.size) (o := 3) (v := .int .i64 M.la) (by go_cell)
      have m4 := kcb hb (b := w.heap.size) (o := 4) (v := .int .i64 M.ag) (by go_cell)
      have m5 := kcb hb (b := w.heap.size) (o := 5) (v := .int .i64 M.wi) (by go_cell)
      have c0 := kcb hb (b := w.heap.size + 1) (o := 0) (v := .int .i64 0) (by go_cell)
      have c1 := kcb hb (b := w.heap.size + 1) (o := 1) (v := .int .i64 0) (by go_cell)
      have c2 := kcb hb (b := w.heap.size + 1) (o := 2) (v := .bool false) (by go_cell)
      have c3 := kcb hb (b := w.heap.size + 1) (o := 3) (v := .int .i64 0) (by go_cell)
      have z0 := fzb hb (b := w.heap.size + 1) (o := 0) (by (try simp only [frozen?_alloc_cells, World.frozen?_setCell]); first | assumption | exact fz_new (by (try simp only [World.size_alloc, World.size_setCell]); omega)) (by (try simp only [World.size_alloc, World.size_setCell]); omega)
      have z1 := fzb hb (b := w.heap.size + 1) (o := 1) (by (try simp only [frozen?_alloc_cells, World.frozen?_setCell]); first | assumption | exact fz_new (by (try simp only [World.size_alloc, World.size_setCell]); omega)) (by (try simp only [World.size_alloc, World.size_setCell]); omega)
      have z2 := fzb hb (b := w.heap.size + 1) (o := 2) (by (try simp only [frozen?_alloc_cells, World.frozen?_setCell]); first | assumption | exact fz_new (by (try simp only [World.size_alloc, World.size_setCell]); omega)) (by (try simp only [World.size_alloc, World.size_setCell]); omega)
      have z3 := fzb hb (b := w.heap.size + 1) (o := 3) (by (try simp only [frozen?_alloc_cells, World.frozen?_setCell]); first | assumption | exact fz_new (by (try simp only [World.size_alloc, World.size_setCell]); omega)) (by (try simp only [World.size_alloc, World.size_setCell]); omega)
      have B1 : Bl w w1 := Below.trans (by go_grown) (hb.mono (by (try simp only [World.size_alloc, World.size_setCell]); omega))
      have l1 := ltb c3
      have zz1 := B1.size
      clear hb
      rw [HVM.out]
      go_wp2_with fail
      exact bodyPost_ret (v := .tuple #[.agg #[.int .i64 0, .int .i64 0, .bool false, .int .i64 0], .int .i64 0, .int .i64 7]) (by simp [results, Try.results26, go_sem, c0, c1, c2, c3, z0, z1, z2, z3]) rfl ⟨by rw [HR.out], by go_grown⟩
    · have HR := Lib.hid (show runR M E n = ((runF M E n).1, (((runF M E n).2.1 : Nat) : Int), (runF M E n).2.2) by unfold runR; rw [if_pos hM, if_neg h100])
      clear hM
      go_enter Try.func26, Try.ntmps26
      go_wp2_with fail
      refine (rvalidMast_any M _).mono ?_
      rintro q1 w1 ⟨rfl, hb⟩
      have m0 := kcb hb (b := w.heap.size) (o := 0) (v := .int .i64 M.no) (by go_cell)
      have m1 := kcb hb (b := w.heap.size) (o := 1) (v := .int .i64 M.hf) (by go_cell)
      have m2 := kcb hb (b := w.heap.size) (o := 2) (v := .int .i64 M.fu) (by go_cell)
      have m3 := kcb hb (b := w.heap.size) (o := 3) (v := .int .i64 M.la) (by go_cell)
      have m4 := kcb hb (b := w.heap.size) (o := 4) (v := .int .i64 M.ag) (by go_cell)
      have m5 := kcb hb (b := w.heap.size) (o := 5) (v := .int .i64 M.wi) (by go_cell)
      have c0 := kcb hb (b := w.heap.size + 1) (o := 0) (v := .int .i64 0) (by go_cell)
      have c1 := kcb hb (b := w.heap.size + 1) (o := 1) (v := .int .i64 0) (by go_cell)
      have c2 := kcb hb (b := w.heap.size + 1) (o := 2) (v := .bool false) (by go_cell)
      have c3 := kcb hb (b := w.heap.size + 1) (o := 3) (v := .int .i64 0) (by go_cell)
      have z0 := fzb hb (b := w.heap.size + 1) (o := 0) (by (try simp only [frozen?_alloc_cells, World.frozen?_setCell]); first | assumption | exact fz_new (by (try simp only [World.size_alloc, World.size_setCell]); omega)) (by (try simp only [World.size_alloc, World.size_setCell]); omega)
      have z1 := fzb hb (b := w.heap.size + 1) (o := 1) (by (try simp only [frozen?_alloc_cells, World.frozen?_setCell]); first | assumption | exact fz_new (by (try simp only [World.size_alloc, World.size_setCell]); omega)) (by (try simp only [World.size_alloc, World.size_setCell]); omega)
      have z2 := fzb hb (b := w.heap.size + 1) (o := 2) (by (try simp only [frozen?_alloc_cells, World.frozen?_setCell]); first | assumption | exact fz_new (by (try simp only [World.size_alloc, World.size_setCell]); omega)) (by (try simp only [World.size_alloc, World.size_setCell]); omega)
      have z3 := fzb hb (b := w.heap.size + 1) (o := 3) (by (try simp only [frozen?_alloc_cells, World.frozen?_setCell]); first | assumption | exact fz_new (by (try simp only [World.size_alloc, World.size_setCell]); omega)) (by (try simp only [World.size_alloc, World.size_setCell]); omega)
      have B1 : Bl w w1 := Below.trans (by go_grown) (hb.mono (by (try simp only [World.size_alloc, World.size_setCell]); omega))
      have l1 := ltb c3
      have zz1 := B1.size
      clear hb
      rw [HVM.out]
      go_wp2_with fail
      obtain ⟨V, hV⟩ : ∃ V, V = w1.alloc (.cells #[.int .i64 0, .int .i64 0, .bool false, .int .i64 0] 34) := ⟨_, rfl⟩
      have BV : Bl w V := by rw [hV]; go_grown
      have B1V : Bl w1 V := by rw [hV]; go_grown
      obtain ⟨q, hq⟩ : ∃ q, q = w1.heap.size := ⟨_, rfl⟩
      have VQ : SBox V q Bal.zero := by rw [hV, hq]; exact ⟨by go_cell, by go_cell, by go_cell, by go_cell, by simp, by simp, by simp, by simp⟩
      have VR : SBox V (w.heap.size + 1) Bal.zero := SBox.low ⟨c0, c1, c2, c3, z0, z1, z2, z3⟩ B1V (ltb c0)
      have VMM : MastAt V w.heap.size M := (show MastAt w1 w.heap.size M from ⟨m0, m1, m2, m3, m4, m5⟩).below B1V
      rw [← hV, ← hq]
      have hqw : w.heap.size + 1 < q := by have := ltb c0; omega
      clear hV hq B1 B1V c0 c1 c2 c3 z0 z1 z2 z3 m0 m1 m2 m3 m4 m5
      go_loopw [23] (fun i wr => ∃ k : Nat, k ≤ n ∧ i = .int .i64 k ∧ Hid ((runF M E k).2.2 = 0) ∧ Hid (SBox wr q (runF M E k).1) ∧ Hid (SBox wr (w.heap.size + 1) Bal.zero) ∧ Hid (MastAt wr w.heap.size M) ∧ Bl w wr) (fun i _ => n - (RowKit.intOf i).toNat)
      case atStart => exact ⟨0, Nat.zero_le _, rfl, rfl, VQ, VR, VMM, BV⟩
      case round =>
        obtain ⟨k, hk, rfl, hok, hSQ, hSR, hMM, hB⟩ := hrel
        by_cases hlt : k < n
        · obtain ⟨b', off, rfl, hbb, hcc⟩ := (HA.out.below hB) (by omega)
          obtain ⟨y0, y1, y2⟩ := hcc k hlt
          clear hcc
          obtain ⟨y, hy⟩ : ∃ y, y = E k := ⟨_, rfl⟩
          rw [← hy] at y0 y1 y2
          obtain ⟨s, hs⟩ : ∃ s, s = (runF M E k).1 := ⟨_, rfl⟩
          obtain ⟨r, er, hr⟩ : ∃ r er, nxtF M s y = (r, er) := ⟨_, _, rfl⟩
          have hr' : stp M s y = (r, er) := by rw [hs] at hr ⊢; rw [← nxt_run HM.out E k y]; exact hr
          have HS := Lib.hid (show runF M E (k + 1) = if er = 0 then (r, k + 1, 0) else (Bal.zero, k, er) by rw [runF_next hok.out, ← hs, ← hy, hr'])
          have HN := Lib.hid hr
          rw [← hs] at hSQ
          clear hr hr' hs hy
          obtain ⟨s0, s1, s2, s3, f0, f1, f2, f3⟩ := hSQ.out
          obtain ⟨r0, r1, r2, r3, g0, g1, g2, g3⟩ := hSR.out
          obtain ⟨m0, m1, m2, m3, m4, m5⟩ := hMM.out
          have lq := ltb s0
          have lr := ltb r0
          have lm := ltb m0
          go_wp2_with fail
          refine (refNext_any M s y _).mono ?_
          rintro e2 w2 ⟨rfl, hb⟩
          rw [HN.out]
          have X2 : Bl wr w2 := Below.trans (by go_grown) (hb.mono (by (try simp only [World.size_alloc]); omega))
          clear hb
          have SQ2 := hSQ.out.low X2 lq
          have SR2 := hSR.out.low X2 lr
          have MM2 := Lib.hid (hMM.out.below X2)
          have B2 : Bl w w2 := hB.tr X2
          have HQ2 := Lib.hid SQ2
          have HR2 := Lib.hid SR2
          clear s0 s1 s2 s3 f0 f1 f2 f3 r0 r1 r2 r3 g0 g1 g2 g3 m0 m1 m2 m3 m4 m5 y0 y1 y2
          obtain ⟨s0, s1, s2, s3, f0, f1, f2, f3⟩ := SQ2
          obtain ⟨r0, r1, r2, r3, g0, g1, g2, g3⟩ := SR2
          have lq2 := ltb s0
          have lr2 := ltb r0
          by_cases hz : er = 0
          · subst hz
            have E1 := Lib.hid (show runF M E (k + 1) = (r, k + 1, 0) by rw [HS.out, if_pos rfl])
            clear HS
            go_wp2_with fail
            obtain ⟨U, hU⟩ : ∃ U, U = (((((w2.setCell ⟨q, 0, none⟩ (.int .i64 r.pl)).setCell ⟨q, 1, none⟩ (.int .i64 r.wi)).setCell ⟨q, 2, none⟩ (.bool r.fl)).setCell ⟨q, 3, none⟩ (.int .i64 r.t)).alloc (.cells #[.int .i64 r.pl, .int .i64 r.wi, .bool r.fl, .int .i64 r.t] 34)) := ⟨_, rfl⟩
            have XA : Bl ((((w2.setCell ⟨q, 0, none⟩ (.int .i64 r.pl)).setCell ⟨q, 1, none⟩ (.int .i64 r.wi)).setCell ⟨q, 2, none⟩ (.bool r.fl)).setCell ⟨q, 3, none⟩ (.int .i64 r.t)) U := by rw [hU]; exact (Below.refl _ _).alloc (Nat.le_refl _) _
            rw [← hU]
            clear hU
            go_roundw
            case rel =>
              refine ⟨k + 1, by omega, by go_num, by rw [E1.out]; exact rfl, ?_, ?_, ?_, ?_⟩
              · rw [E1.out]; exact (HQ2.out.put r).low XA (by simpa using lq2)
              · exact (HR2.out.put4 (by omega) r).low XA (by simpa using lr2)
              · have T := MM2.out
                have oth : ∀ (Z : World) (i j : Nat) (u : Value), (Z.setCell ⟨q, i, none⟩ u).cell? ⟨w.heap.size, j, none⟩ = Z.cell? ⟨w.heap.size, j, none⟩ := fun Z i j u => World.cell?_setCell_other _ _ _ _ (by intro e; injection e with e; omega)
                exact MastAt.below ⟨by rw [oth, oth, oth, oth]; exact T.c0, by rw [oth, oth, oth, oth]; exact T.c1, by rw [oth, oth, oth, oth]; exact T.c2, by rw [oth, oth, oth, oth]; exact T.c3, by rw [oth, oth, oth, oth]; exact T.c4, by rw [oth, oth, oth, oth]; exact T.c5⟩ XA
              · exact Bl.tr (below_put4 B2 r (by omega)) XA
            case measure => simp [RowKit.intOf]; omega
          · have hz2 : (er != 0) = true := by simp [hz]
            have HF := Lib.hid (show runR M E n = (Bal.zero, (k : Int), er) by
              have e1 : runF M E (k + 1) = (Bal.zero, k, er) := by rw [HS.out, if_neg hz]
              rw [HR.out, runF_stop (k := k + 1) (by rw [e1]; exact hz) n (by omega), e1])
            clear HS
            go_wp2_with fail
            exact bodyPost_ret (v := .tuple #[.agg #[.int .i64 0, .int .i64 0, .bool false, .int .i64 0], .int .i64 k, .int .i64 er]) (by simp [results, Try.results26, go_sem, r0, r1, r2, r3, g0, g1, g2, g3, lr2]) rfl ⟨by rw [HF.out], by go_grown⟩
        · obtain rfl : n = k := by omega
          have HF := Lib.hid (show runR M E n = ((runF M E n).1, (n : Int), 0) by rw [HR.out, hok.out, runF_len hok.out])
          obtain ⟨s, hs⟩ : ∃ s, s = (runF M E n).1 := ⟨_, rfl⟩
          rw [← hs] at hSQ HF
          obtain ⟨s0, s1, s2, s3, f0, f1, f2, f3⟩ := hSQ.out
          obtain ⟨r0, r1, r2, r3, g0, g1, g2, g3⟩ := hSR.out
          have lq := ltb s0
          have lr := ltb r0
          clear hs
          go_wp2_with fail
          exact bodyPost_ret (v := .tuple #[.agg #[.int .i64 s.pl, .int .i64 s.wi, .bool s.fl, .int .i64 s.t], .int .i64 n, .int .i64 0]) (by simp [results, Try.results26, go_sem, r0, r1, r2, r3, g0, g1, g2, g3]) rfl ⟨by rw [HF.out], by go_grown⟩
  · have HVM := Lib.hid (show decide (VM M) = false from decide_eq_false hM)
    have HR := Lib.hid (show runR M E n = (Bal.zero, 0, 1) by unfold runR; rw [if_neg hM])
    clear hM
    go_enter Try.func26, Try.ntmps26
    go_wp2_with fail
    refine (rvalidMast_any M _).mono ?_
    rintro q1 w1 ⟨rfl, hb⟩
    have m0 := kcb hb (b := w.heap.size) (o := 0) (v := .int .i64 M.no) (by go_cell)
    have m1 := kcb hb (b := w.heap.size) (o := 1) (v := .int .i64 M.hf) (by go_cell)
    have m2 := kcb hb (b := w.heap.size) (o := 2) (v := .int .i64 M.fu) (by go_cell)
    have m3 := kcb hb (b := w.heap.size) (o := 3) (v := .int .i64 M.la) (by go_cell)
    have m4 := kcb hb (b := w.heap.size) (o := 4) (v := .int .i64 M.ag) (by go_cell)
    have m5 := kcb hb (b := w.heap.size) (o := 5) (v := .int .i64 M.wi) (by go_cell)
    have c0 := kcb hb (b := w.heap.size + 1) (o := 0) (v := .int .i64 0) (by go_cell)
    have c1 := kcb hb (b := w.heap.size + 1) (o := 1) (v := .int .i64 0) (by go_cell)
    have c2 := kcb hb (b := w.heap.size + 1) (o := 2) (v := .bool false) (by go_cell)
    have c3 := kcb hb (b := w.heap.size + 1) (o := 3) (v := .int .i64 0) (by go_cell)
    have z0 := fzb hb (b := w.heap.size + 1) (o := 0) (by (try simp only [frozen?_alloc_cells, World.frozen?_setCell]); first | assumption | exact fz_new (by (try simp only [World.size_alloc, World.size_setCell]); omega)) (by (try simp only [World.size_alloc, World.size_setCell]); omega)
    have z1 := fzb hb (b := w.heap.size + 1) (o := 1) (by (try simp only [frozen?_alloc_cells, World.frozen?_setCell]); first | assumption | exact fz_new (by (try simp only [World.size_alloc, World.size_setCell]); omega)) (by (try simp only [World.size_alloc, World.size_setCell]); omega)
    have z2 := fzb hb (b := w.heap.size + 1) (o := 2) (by (try simp only [frozen?_alloc_cells, World.frozen?_setCell]); first | assumption | exact fz_new (by (try simp only [World.size_alloc, World.size_setCell]); omega)) (by (try simp only [World.size_alloc, World.size_setCell]); omega)
    have z3 := fzb hb (b := w.heap.size + 1) (o := 3) (by (try simp only [frozen?_alloc_cells, World.frozen?_setCell]); first | assumption | exact fz_new (by (try simp only [World.size_alloc, World.size_setCell]); omega)) (by (try simp only [World.size_alloc, World.size_setCell]); omega)
    have B1 : Bl w w1 := Below.trans (by go_grown) (hb.mono (by (try simp only [World.size_alloc, World.size_setCell]); omega))
    have l1 := ltb c3
    have zz1 := B1.size
    clear hb
    rw [HVM.out]
    go_wp2_with fail
    exact bodyPost_ret (v := .tuple #[.agg #[.int .i64 0, .int .i64 0, .bool false, .int .i64 0], .int .i64 0, .int .i64 1]) (by simp [results, Try.results26, go_sem, c0, c1, c2, c3, z0, z1, z2, z3]) rfl ⟨by rw [HR.out], by go_grown⟩
end Go.Proofs.Ytaebclepdobbaaa
