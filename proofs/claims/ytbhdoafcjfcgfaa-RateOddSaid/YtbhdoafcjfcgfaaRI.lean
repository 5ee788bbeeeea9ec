/-
  Trial of package rate.
-/
import Derived.Test.YtbhdoafcjfcgfaaRH
namespace Go.Proofs.Ytbhdoafcjfcgfaa
open Go.RowKit
set_option linter.unusedSimpArgs false
set_option linter.unusedVariables false

def trV (s : ByteArray) (E : Nat → Int) (m : Nat) : Value := .agg #[.string s, .int .i64 (mnF (rtF E 7) m), .int .i64 (mxF (rtF E 7) m), .int .i64 (lpF (stF (rtF E 7)) (m - 1)), .int .i64 (mxF (rtF E 7) m - mnF (rtF E 7) m + 2 * lpF (stF (rtF E 7)) (m - 1))]
def trZ : Value := .agg #[.string ⟨#[]⟩, .int .i64 0, .int .i64 0, .int .i64 0, .int .i64 0]
/-- What Trial returns. -/
def trR (s : ByteArray) (n : Nat) (E : Nat → Int) : Value :=
  if vbB s n E = false then .tuple #[trZ, .int .i64 1] else if (n - 1) / 7 < 2 then .tuple #[trZ, .int .i64 8] else .tuple #[trV s E ((n - 1) / 7), .int .i64 0]
theorem trR_bad {s : ByteArray} {n : Nat} {E : Nat → Int} (h : vbB s n E = false) : trR s n E = .tuple #[trZ, .int .i64 1] := by rw [trR, if_pos h]
theorem trR_few {s : ByteArray} {n : Nat} {E : Nat → Int} (h : vbB s n E = true) (h2 : (n - 1) / 7 < 2) : trR s n E = .tuple #[trZ, .int .i64 8] := by rw [trR, if_neg (by rw [h]; decide), if_pos h2]
theorem trR_ok {s : ByteArray} {n : Nat} {E : Nat → Int} (h : vbB s n E = true) (h2 : 2 ≤ (n - 1) / 7) : trR s n E = .tuple #[trV s E ((n - 1) / 7), .int .i64 0] := by rw [trR, if_neg (by rw [h]; decide), if_neg (by omega)]
theorem trV_eq {s : ByteArray} {E : Nat → Int} {m : Nat} {a b l : Int} (ha : mnF (rtF E 7) m = a) (hb : mxF (rtF E 7) m = b) (hl : lpF (stF (rtF E 7)) (m - 1) = l) :
    trV s E m = .agg #[.string s, .int .i64 a, .int .i64 b, .int .i64 l, .int .i64 (b - a + 2 * l)] := by rw [trV, ha, hb, hl]
theorem enF_pos {f : Nat → Int} {k : Nat} (h : 1 ≤ k) : enF f k = (mnF f k, mxF f k) := by rw [enF, if_neg (by omega)]

set_option maxRecDepth 100000 in
set_option maxHeartbeats 6400000 in
theorem trial_any (s : ByteArray) (A : Option Addr) (n c : Nat) (E : Nat → Int) (w : World) (hs : s.size ≤ maxLen) (hA : Sl w A n E) (hn : n ≤ c) (hc : c ≤ maxLen) :
    Calls Try.prog 20 #[encB s A n c] w fun e w' => e = .returned (trR s n E) ∧ Bl w w' := by
  have HA := Lib.hid hA
  have HS := Lib.hid hs
  have HC := Lib.hid hc
  have HN := Lib.hid (show n ≤ maxLen by omega)
  have HNC := Lib.hid hn
  clear hA hs
  unfold maxLen at hc
  go_enter Try.func20, Try.ntmps20
  go_wp2_with fail
  refine (weekly_any s A n c E _ HS.out (HA.out.below (by go_grown)) HNC.out HC.out).mono ?_
  rintro q1 w1 ⟨hb, ⟨hv, he⟩ | ⟨hv, hm, he⟩ | ⟨hv, hm, A1, c1, he, k1, k1', hA1⟩⟩
  · unfold LstNo at he
    subst he
    have HR := Lib.hid (trR_bad hv)
    clear hv
    have x0 := kcb hb (b := w.heap.size) (o := 0) (v := .string s) (by first | assumption | (refine cellUp ?_; assumption) | go_cell)
    have x1 := kcb hb (b := w.heap.size) (o := 1) (v := .slice A n c) (by first | assumption | (refine cellUp ?_; assumption) | go_cell)
    have y0 := kcb hb (b := w.heap.size + 1) (o := 0) (v := .string ⟨#[]⟩) (by first | assumption | (refine cellUp ?_; assumption) | go_cell)
    have y1 := kcb hb (b := w.heap.size + 1) (o := 1) (v := .int .i64 0) (by first | assumption | (refine cellUp ?_; assumption) | go_cell)
    have y2 := kcb hb (b := w.heap.size + 1) (o := 2) (v := .int .i64 0) (by first | assumption | (refine cellUp ?_; assumption) | go_cell)
    have y3 := kcb hb (b := w.heap.size + 1) (o := 3) (v := .int .i64 0) (by first | assumption | (refine cellUp ?_; assumption) | go_cell)
    have y4 := kcb hb (b := w.heap.size + 1) (o := 4) (v := .int .i64 0) (by first | assumption | (refine cellUp ?_; assumption) | go_cell)
    have f0 := fzb hb (b := w.heap.size + 1) (o := 0) (by (try simp only [frozen?_alloc_cells, World.frozen?_setCell]); first | assumption | exact fz_new (by (try simp only [World.size_alloc, World.size_setCell]); omega)) (by (try simp only [World.size_alloc, World.size_setCell]); omega)
    have f1 := fzb hb (b := w.heap.size + 1) (o := 1) (by (try simp only [frozen?_alloc_cells, World.frozen?_setCell]); first | assumption | exact fz_new (by (try simp only [World.size_alloc, World.size_setCell]); omega)) (by (try simp only [World.size_alloc, World.size_setCell]); omega)
    have f2 := fzb hb (b := w.heap.size + 1) (o := 2) (by (try simp only [frozen?_alloc_cells, World.frozen?_setCell]); first | assumption | exact fz_new (by (try simp only [World.size_alloc, World.size_setCell]); omega)) (by (try simp only [World.size_alloc, World.size_setCell]); omega)
    have f3 := fzb hb (b := w.heap.size + 1) (o := 3) (by (try simp only [frozen?_alloc_cells, World.frozen?_setCell]); first | assumption | exact fz_new (by (try simp only [World.size_alloc, World.size_setCell]); omega)) (by (try simp only [World.size_alloc, World.size_setCell]); omega)
    have f4 := fzb hb (b := w.heap.size + 1) (o := 4) (by (try simp only [frozen?_alloc_cells, World.frozen?_setCell]); first | assumption | exact fz_new (by (try simp only [World.size_alloc, World.size_setCell]); omega)) (by (try simp only [World.size_alloc, World.size_setCell]); omega)
    have B1 : Bl w w1 := Below.trans (by go_grown) (hb.mono (by (try simp only [World.size_alloc, World.size_setCell]); omega))
    have l1 := ltb y0
    have l1_1 := ltb x0
    have zz1 := B1.size
    clear hb
    go_wp2_with fail
    (try simp only [Exit.inBlock, Exit.then])
    refine bodyPost_ret (v := trR s n E) (by rw [HR.out]; simp [results, Try.results20, go_sem, trZ, y0, y1, y2, y3, y4]) rfl ⟨rfl, Below.trans B1 (by go_grown)⟩
  · unfold LstNo at he
    subst he
    have HR := Lib.hid (trR_few hv (by omega))
    clear hv hm
    have x0 := kcb hb (b := w.heap.size) (o := 0) (v := .string s) (by first | assumption | (refine cellUp ?_; assumption) | go_cell)
    have x1 := kcb hb (b := w.heap.size) (o := 1) (v := .slice A n c) (by first | assumption | (refine cellUp ?_; assumption) | go_cell)
    have y0 := kcb hb (b := w.heap.size + 1) (o := 0) (v := .string ⟨#[]⟩) (by first | assumption | (refine cellUp ?_; assumption) | go_cell)
    have y1 := kcb hb (b := w.heap.size + 1) (o := 1) (v := .int .i64 0) (by first | assumption | (refine cellUp ?_; assumption) | go_cell)
    have y2 := kcb hb (b := w.heap.size + 1) (o := 2) (v := .int .i64 0) (by first | assumption | (refine cellUp ?_; assumption) | go_cell)
    have y3 := kcb hb (b := w.heap.size + 1) (o := 3) (v := .int .i64 0) (by first | assumption | (refine cellUp ?_; assumption) | go_cell)
    have y4 := kcb hb (b := w.heap.size + 1) (o := 4) (v := .int .i64 0) (by first | assumption | (refine cellUp ?_; assumption) | go_cell)
    have f0 := fzb hb (b := w.heap.size + 1) (o := 0) (by (try simp only [frozen?_alloc_cells, World.frozen?_setCell]); first | assumption | exact fz_new (by (try simp only [World.size_alloc, World.size_setCell]); omega)) (by (try simp only [World.size_alloc, World.size_setCell]); omega)
    have f1 := fzb hb (b := w.heap.size + 1) (o := 1) (by (try simp only [frozen?_alloc_cells, World.frozen?_setCell]); first | assumption | exact fz_new (by (try simp only [World.size_alloc, World.size_setCell]); omega)) (by (try simp only [World.size_alloc, World.size_setCell]); omega)
    have f2 := fzb hb (b := w.heap.size + 1) (o := 2) (by (try simp only [frozen?_alloc_cells, World.frozen?_setCell]); first | assumption | exact fz_new (by (try simp only [World.size_alloc, World.size_setCell]); omega)) (by (try simp only [World.size_alloc, World.size_setCell]); omega)
    have f3 := fzb hb (b := w.heap.size + 1) (o := 3) (by (try simp only [frozen?_alloc_cells, World.frozen?_setCell]); first | assumption | exact fz_new (by (try simp only [World.size_alloc, World.size_setCell]); omega)) (by (try simp only [World.size_alloc, World.size_setCell]); omega)
    have f4 := fzb hb (b := w.heap.size + 1) (o := 4) (by (try simp only [frozen?_alloc_cells, World.frozen?_setCell]); first | assumption | exact fz_new (by (try simp only [World.size_alloc, World.size_setCell]); omega)) (by (try simp only [World.size_alloc, World.size_setCell]); omega)
    have B1 : Bl w w1 := Below.trans (by go_grown) (hb.mono (by (try simp only [World.size_alloc, World.size_setCell]); omega))
    have l1 := ltb y0
    have l1_1 := ltb x0
    have zz1 := B1.size
    clear hb
    go_wp2_with fail
    (try simp only [Exit.inBlock, Exit.then])
    refine bodyPost_ret (v := trR s n E) (by rw [HR.out]; simp [results, Try.results20, go_sem, trZ, y0, y1, y2, y3, y4]) rfl ⟨rfl, Below.trans B1 (by go_grown)⟩
  · subst he
    obtain ⟨_, n2, n4, hE⟩ := vbB_iff.1 hv
    have HE := Lib.hid hE
    have HV := Lib.hid hv
    clear hv hE
    have x0 := kcb hb (b := w.heap.size) (o := 0) (v := .string s) (by first | assumption | (refine cellUp ?_; assumption) | go_cell)
    have x1 := kcb hb (b := w.heap.size) (o := 1) (v := .slice A n c) (by first | assumption | (refine cellUp ?_; assumption) | go_cell)
    have y0 := kcb hb (b := w.heap.size + 1) (o := 0) (v := .string ⟨#[]⟩) (by first | assumption | (refine cellUp ?_; assumption) | go_cell)
    have y1 := kcb hb (b := w.heap.size + 1) (o := 1) (v := .int .i64 0) (by first | assumption | (refine cellUp ?_; assumption) | go_cell)
    have y2 := kcb hb (b := w.heap.size + 1) (o := 2) (v := .int .i64 0) (by first | assumption | (refine cellUp ?_; assumption) | go_cell)
    have y3 := kcb hb (b := w.heap.size + 1) (o := 3) (v := .int .i64 0) (by first | assumption | (refine cellUp ?_; assumption) | go_cell)
    have y4 := kcb hb (b := w.heap.size + 1) (o := 4) (v := .int .i64 0) (by first | assumption | (refine cellUp ?_; assumption) | go_cell)
    have f0 := fzb hb (b := w.heap.size + 1) (o := 0) (by (try simp only [frozen?_alloc_cells, World.frozen?_setCell]); first | assumption | exact fz_new (by (try simp only [World.size_alloc, World.size_setCell]); omega)) (by (try simp only [World.size_alloc, World.size_setCell]); omega)
    have f1 := fzb hb (b := w.heap.size + 1) (o := 1) (by (try simp only [frozen?_alloc_cells, World.frozen?_setCell]); first | assumption | exact fz_new (by (try simp only [World.size_alloc, World.size_setCell]); omega)) (by (try simp only [World.size_alloc, World.size_setCell]); omega)
    have f2 := fzb hb (b := w.heap.size + 1) (o := 2) (by (try simp only [frozen?_alloc_cells, World.frozen?_setCell]); first | assumption | exact fz_new (by (try simp only [World.size_alloc, World.size_setCell]); omega)) (by (try simp only [World.size_alloc, World.size_setCell]); omega)
    have f3 := fzb hb (b := w.heap.size + 1) (o := 3) (by (try simp only [frozen?_alloc_cells, World.frozen?_setCell]); first | assumption | exact fz_new (by (try simp only [World.size_alloc, World.size_setCell]); omega)) (by (try simp only [World.size_alloc, World.size_setCell]); omega)
    have f4 := fzb hb (b := w.heap.size + 1) (o := 4) (by (try simp only [frozen?_alloc_cells, World.frozen?_setCell]); first | assumption | exact fz_new (by (try simp only [World.size_alloc, World.size_setCell]); omega)) (by (try simp only [World.size_alloc, World.size_setCell]); omega)
    have B1 : Bl w w1 := Below.trans (by go_grown) (hb.mono (by (try simp only [World.size_alloc, World.size_setCell]); omega))
    have l1 := ltb y0
    have l1_1 := ltb x0
    have zz1 := B1.size
    clear hb
    obtain ⟨m, hq⟩ : ∃ m, m = (n - 1) / 7 := ⟨_, rfl⟩
    have mb : m ≤ 57 := by omega
    rw [← hq] at hm k1 hA1 ⊢
    have HBD := Lib.hid (show bdI (rtF E 7) m by rw [hq]; exact rt_bdI (.inr rfl) HE.out)
    have HST := Lib.hid (show bdI (stF (rtF E 7)) (m - 1) by rw [hq]; exact rt_stI (.inr rfl) HE.out)
    have HB1 := Lib.hid (fun j (hj : j < m) => (show -172800000 ≤ rtF E 7 j ∧ rtF E 7 j ≤ 172800000 by rw [hq] at hj; exact rt_bd (.inr rfl) HE.out hj))
    have HB2 := Lib.hid (fun j (hj : j < m - 1) => (show -345600000 ≤ stF (rtF E 7) j ∧ stF (rtF E 7) j ≤ 345600000 by rw [hq] at hj; exact rt_st (.inr rfl) HE.out hj))
    have HF := Lib.hid (fun h2 : m < 2 => trR_few HV.out (by rw [← hq]; exact h2))
    have HG := Lib.hid (fun h2 : 2 ≤ m => (show trR s n E = .tuple #[trV s E m, .int .i64 0] by rw [trR_ok HV.out (by rw [← hq]; exact h2), ← hq]))
    clear hq
    by_cases h2 : m < 2
    · have HR := Lib.hid (HF.out h2)
      go_wp2_with fail
      (try simp only [Exit.inBlock, Exit.then])
      refine bodyPost_ret (v := trR s n E) (by rw [HR.out]; simp [results, Try.results20, go_sem, trZ, y0, y1, y2, y3, y4]) rfl ⟨rfl, Below.trans B1 (by go_grown)⟩
    · have h2' : 2 ≤ m := by omega
      clear h2
      have HR := Lib.hid (HG.out h2')
      have K1 := Lib.hid k1'
      have HSl := Lib.hid hA1
      clear hA1 k1'
      have c1b : c1 ≤ 2 ^ 63 - 1 := by have := K1.out; unfold maxLen at this; exact this
      have mb1 := mn_bd (f := rtF E 7) (k := m) (by omega) HB1.out
      have mb2 := mn_bd (f := stF (rtF E 7)) (k := m - 1) (by omega) HB2.out
      have mle := mn_le_mx (rtF E 7) m
      have mle2 := mn_le_mx (stF (rtF E 7)) (m - 1)
      have lpe := lp_eq (g := stF (rtF E 7)) (k := m - 1) (by omega)
      have lpb := lp_bd (g := stF (rtF E 7)) (k := m - 1) (B := 345600000) (by omega) HB2.out
      have HE1 := Lib.hid (enF_pos (f := rtF E 7) (k := m) (by omega))
      have HE2 := Lib.hid (enF_pos (f := stF (rtF E 7)) (k := m - 1) (by omega))
      obtain ⟨a, ha⟩ : ∃ a, mnF (rtF E 7) m = a := ⟨_, rfl⟩
      obtain ⟨b, hb'⟩ : ∃ b, mxF (rtF E 7) m = b := ⟨_, rfl⟩
      obtain ⟨d, hd⟩ : ∃ d, mnF (stF (rtF E 7)) (m - 1) = d := ⟨_, rfl⟩
      obtain ⟨u, hu⟩ : ∃ u, mxF (stF (rtF E 7)) (m - 1) = u := ⟨_, rfl⟩
      obtain ⟨l, hl⟩ : ∃ l, lpF (stF (rtF E 7)) (m - 1) = l := ⟨_, rfl⟩
      have HT := Lib.hid (trV_eq (s := s) ha hb' hl)
      rw [ha, hb'] at HE1 mb1 mle
      rw [hd, hu] at HE2 mb2 mle2 lpe
      rw [hl] at lpe lpb
      clear ha hb' hd hu hl
      obtain ⟨mb1, mb1'⟩ := mb1
      obtain ⟨mb2, mb2'⟩ := mb2
      obtain ⟨lpb, lpb'⟩ := lpb
      go_wp2_with fail
      refine (valuesI_any A1 m c1 (rtF E 7) _ HSl.out (by have := K1.out; omega) HBD.out).mono ?_
      rintro q2 w2 ⟨hb, gf, lb, rfl, hit⟩
      have x0 := kcb hb (b := w.heap.size) (o := 0) (v := .string s) (by first | assumption | (refine cellUp ?_; assumption) | go_cell)
      have x1 := kcb hb (b := w.heap.size) (o := 1) (v := .slice A n c) (by first | assumption | (refine cellUp ?_; assumption) | go_cell)
      have y0 := kcb hb (b := w.heap.size + 1) (o := 0) (v := .string ⟨#[]⟩) (by first | assumption | (refine cellUp ?_; assumption) | go_cell)
      have y1 := kcb hb (b := w.heap.size + 1) (o := 1) (v := .int .i64 0) (by first | assumption | (refine cellUp ?_; assumption) | go_cell)
      have y2 := kcb hb (b := w.heap.size + 1) (o := 2) (v := .int .i64 0) (by first | assumption | (refine cellUp ?_; assumption) | go_cell)
      have y3 := kcb hb (b := w.heap.size + 1) (o := 3) (v := .int .i64 0) (by first | assumption | (refine cellUp ?_; assumption) | go_cell)
      have y4 := kcb hb (b := w.heap.size + 1) (o := 4) (v := .int .i64 0) (by first | assumption | (refine cellUp ?_; assumption) | go_cell)
      have f0 := fzb hb (b := w.heap.size + 1) (o := 0) (by (try simp only [frozen?_alloc_cells, World.frozen?_setCell]); first | assumption | exact fz_new (by (try simp only [World.size_alloc, World.size_setCell]); omega)) (by (try simp only [World.size_alloc, World.size_setCell]); omega)
      have f1 := fzb hb (b := w.heap.size + 1) (o := 1) (by (try simp only [frozen?_alloc_cells, World.frozen?_setCell]); first | assumption | exact fz_new (by (try simp only [World.size_alloc, World.size_setCell]); omega)) (by (try simp only [World.size_alloc, World.size_setCell]); omega)
      have f2 := fzb hb (b := w.heap.size + 1) (o := 2) (by (try simp only [frozen?_alloc_cells, World.frozen?_setCell]); first | assumption | exact fz_new (by (try simp only [World.size_alloc, World.size_setCell]); omega)) (by (try simp only [World.size_alloc, World.size_setCell]); omega)
      have f3 := fzb hb (b := w.heap.size + 1) (o := 3) (by (try simp only [frozen?_alloc_cells, World.frozen?_setCell]); first | assumption | exact fz_new (by (try simp only [World.size_alloc, World.size_setCell]); omega)) (by (try simp only [World.size_alloc, World.size_setCell]); omega)
      have f4 := fzb hb (b := w.heap.size + 1) (o := 4) (by (try simp only [frozen?_alloc_cells, World.frozen?_setCell]); first | assumption | exact fz_new (by (try simp only [World.size_alloc, World.size_setCell]); omega)) (by (try simp only [World.size_alloc, World.size_setCell]); omega)
      have B2 : Bl w w2 := Below.trans (by go_grown) (hb.mono (by (try simp only [World.size_alloc, World.size_setCell]); omega))
      have l2 := ltb y4
      have l2_1 := ltb x1
      have zz2 := B2.size
      have hbk := hb
      clear hb
      have HS2 := Lib.hid (HSl.out.below hbk)
      clear hbk
      go_wp2_with fail
      refine (ends_any _ hit).mono ?_
      rintro q3 w3 ⟨rfl, hb⟩
      have HS3 := Lib.hid (HS2.out.below hb)
      have x0 := kcb hb (b := w.heap.size) (o := 0) (v := .string s) (by first | assumption | (refine cellUp ?_; assumption) | go_cell)
      have x1 := kcb hb (b := w.heap.size) (o := 1) (v := .slice A n c) (by first | assumption | (refine cellUp ?_; assumption) | go_cell)
      have y0 := kcb hb (b := w.heap.size + 1) (o := 0) (v := .string ⟨#[]⟩) (by first | assumption | (refine cellUp ?_; assumption) | go_cell)
      have y1 := kcb hb (b := w.heap.size + 1) (o := 1) (v := .int .i64 0) (by first | assumption | (refine cellUp ?_; assumption) | go_cell)
      have y2 := kcb hb (b := w.heap.size + 1) (o := 2) (v := .int .i64 0) (by first | assumption | (refine cellUp ?_; assumption) | go_cell)
      have y3 := kcb hb (b := w.heap.size + 1) (o := 3) (v := .int .i64 0) (by first | assumption | (refine cellUp ?_; assumption) | go_cell)
      have y4 := kcb hb (b := w.heap.size + 1) (o := 4) (v := .int .i64 0) (by first | assumption | (refine cellUp ?_; assumption) | go_cell)
      have f0 := fzb hb (b := w.heap.size + 1) (o := 0) (by (try simp only [frozen?_alloc_cells, World.frozen?_setCell]); first | assumption | exact fz_new (by (try simp only [World.size_alloc, World.size_setCell]); omega)) (by (try simp only [World.size_alloc, World.size_setCell]); omega)
      have f1 := fzb hb (b := w.heap.size + 1) (o := 1) (by (try simp only [frozen?_alloc_cells, World.frozen?_setCell]); first | assumption | exact fz_new (by (try simp only [World.size_alloc, World.size_setCell]); omega)) (by (try simp only [World.size_alloc, World.size_setCell]); omega)
      have f2 := fzb hb (b := w.heap.size + 1) (o := 2) (by (try simp only [frozen?_alloc_cells, World.frozen?_setCell]); first | assumption | exact fz_new (by (try simp only [World.size_alloc, World.size_setCell]); omega)) (by (try simp only [World.size_alloc, World.size_setCell]); omega)
      have f3 := fzb hb (b := w.heap.size + 1) (o := 3) (by (try simp only [frozen?_alloc_cells, World.frozen?_setCell]); first | assumption | exact fz_new (by (try simp only [World.size_alloc, World.size_setCell]); omega)) (by (try simp only [World.size_alloc, World.size_setCell]); omega)
      have f4 := fzb hb (b := w.heap.size + 1) (o := 4) (by (try simp only [frozen?_alloc_cells, World.frozen?_setCell]); first | assumption | exact fz_new (by (try simp only [World.size_alloc, World.size_setCell]); omega)) (by (try simp only [World.size_alloc, World.size_setCell]); omega)
      have B3 : Bl w w3 := Below.trans (by go_grown) (hb.mono (by (try simp only [World.size_alloc, World.size_setCell]); omega))
      have l3 := ltb y4
      have l3_1 := ltb x1
      have zz3 := B3.size
      clear hb
      rw [HE1.out]
      go_wp2_with fail
      refine (steps_any A1 m c1 (rtF E 7) _ HS3.out (by omega) k1 K1.out HST.out).mono ?_
      rintro q4 w4 ⟨hb, gf', lb', rfl, hit'⟩
      have x0 := kcb hb (b := w.heap.size) (o := 0) (v := .string s) (by first | assumption | (refine cellUp ?_; assumption) | go_cell)
      have x1 := kcb hb (b := w.heap.size) (o := 1) (v := .slice A n c) (by first | assumption | (refine cellUp ?_; assumption) | go_cell)
      have y0 := kcb hb (b := w.heap.size + 1) (o := 0) (v := .string ⟨#[]⟩) (by first | assumption | (refine cellUp ?_; assumption) | go_cell)
      have y1 := kcb hb (b := w.heap.size + 1) (o := 1) (v := .int .i64 0) (by first | assumption | (refine cellUp ?_; assumption) | go_cell)
      have y2 := kcb hb (b := w.heap.size + 1) (o := 2) (v := .int .i64 0) (by first | assumption | (refine cellUp ?_; assumption) | go_cell)
      have y3 := kcb hb (b := w.heap.size + 1) (o := 3) (v := .int .i64 0) (by first | assumption | (refine cellUp ?_; assumption) | go_cell)
      have y4 := kcb hb (b := w.heap.size + 1) (o := 4) (v := .int .i64 0) (by first | assumption | (refine cellUp ?_; assumption) | go_cell)
      have f0 := fzb hb (b := w.heap.size + 1) (o := 0) (by (try simp only [frozen?_alloc_cells, World.frozen?_setCell]); first | assumption | exact fz_new (by (try simp only [World.size_alloc, World.size_setCell]); omega)) (by (try simp only [World.size_alloc, World.size_setCell]); omega)
      have f1 := fzb hb (b := w.heap.size + 1) (o := 1) (by (try simp only [frozen?_alloc_cells, World.frozen?_setCell]); first | assumption | exact fz_new (by (try simp only [World.size_alloc, World.size_setCell]); omega)) (by (try simp only [World.size_alloc, World.size_setCell]); omega)
      have f2 := fzb hb (b := w.heap.size + 1) (o := 2) (by (try simp only [frozen?_alloc_cells, World.frozen?_setCell]); first | assumption | exact fz_new (by (try simp only [World.size_alloc, World.size_setCell]); omega)) (by (try simp only [World.size_alloc, World.size_setCell]); omega)
      have f3 := fzb hb (b := w.heap.size + 1) (o := 3) (by (try simp only [frozen?_alloc_cells, World.frozen?_setCell]); first | assumption | exact fz_new (by (try simp only [World.size_alloc, World.size_setCell]); omega)) (by (try simp only [World.size_alloc, World.size_setCell]); omega)
      have f4 := fzb hb (b := w.heap.size + 1) (o := 4) (by (try simp only [frozen?_alloc_cells, World.frozen?_setCell]); first | assumption | exact fz_new (by (try simp only [World.size_alloc, World.size_setCell]); omega)) (by (try simp only [World.size_alloc, World.size_setCell]); omega)
      have B4 : Bl w w4 := Below.trans (by go_grown) (hb.mono (by (try simp only [World.size_alloc, World.size_setCell]); omega))
      have l4 := ltb y4
      have l4_1 := ltb x1
      have zz4 := B4.size
      clear hb
      go_wp2_with fail
      refine (ends_any _ hit').mono ?_
      rintro q5 w5 ⟨rfl, hb⟩
      have x0 := kcb hb (b := w.heap.size) (o := 0) (v := .string s) (by first | assumption | (refine cellUp ?_; assumption) | go_cell)
      have x1 := kcb hb (b := w.heap.size) (o := 1) (v := .slice A n c) (by first | assumption | (refine cellUp ?_; assumption) | go_cell)
      have y0 := kcb hb (b := w.heap.size + 1) (o := 0) (v := .string ⟨#[]⟩) (by first | assumption | (refine cellUp ?_; assumption) | go_cell)
      have y1 := kcb hb (b := w.heap.size + 1) (o := 1) (v := .int .i64 0) (by first | assumption | (refine cellUp ?_; assumption) | go_cell)
      have y2 := kcb hb (b := w.heap.size + 1) (o := 2) (v := .int .i64 0) (by first | assumption | (refine cellUp ?_; assumption) | go_cell)
      have y3 := kcb hb (b := w.heap.size + 1) (o := 3) (v := .int .i64 0) (by first | assumption | (refine cellUp ?_; assumption) | go_cell)
      have y4 := kcb hb (b := w.heap.size + 1) (o := 4) (v := .int .i64 0) (by first | assumption | (refine cellUp ?_; assumption) | go_cell)
      have f0 := fzb hb (b := w.heap.size + 1) (o := 0) (by (try simp only [frozen?_alloc_cells, World.frozen?_setCell]); first | assumption | exact fz_new (by (try simp only [World.size_alloc, World.size_setCell]); omega)) (by (try simp only [World.size_alloc, World.size_setCell]); omega)
      have f1 := fzb hb (b := w.heap.size + 1) (o := 1) (by (try simp only [frozen?_alloc_cells, World.frozen?_setCell]); first | assumption | exact fz_new (by (try simp only [World.size_alloc, World.size_setCell]); omega)) (by (try simp only [World.size_alloc, World.size_setCell]); omega)
      have f2 := fzb hb (b := w.heap.size + 1) (o := 2) (by (try simp only [frozen?_alloc_cells, World.frozen?_setCell]); first | assumption | exact fz_new (by (try simp only [World.size_alloc, World.size_setCell]); omega)) (by (try simp only [World.size_alloc, World.size_setCell]); omega)
      have f3 := fzb hb (b := w.heap.size + 1) (o := 3) (by (try simp only [frozen?_alloc_cells, World.frozen?_setCell]); first | assumption | exact fz_new (by (try simp only [World.size_alloc, World.size_setCell]); omega)) (by (try simp only [World.size_alloc, World.size_setCell]); omega)
      have f4 := fzb hb (b := w.heap.size + 1) (o := 4) (by (try simp only [frozen?_alloc_cells, World.frozen?_setCell]); first | assumption | exact fz_new (by (try simp only [World.size_alloc, World.size_setCell]); omega)) (by (try simp only [World.size_alloc, World.size_setCell]); omega)
      have B5 : Bl w w5 := Below.trans (by go_grown) (hb.mono (by (try simp only [World.size_alloc, World.size_setCell]); omega))
      have l5 := ltb y4
      have l5_1 := ltb x1
      have zz5 := B5.size
      clear hb
      rw [HE2.out]
      go_wp2_with fail
      refine (sizeR_any _ _ (by omega) (by omega)).mono ?_
      rintro e6 w6 ⟨rfl, rfl⟩
      go_wp2_with fail
      refine (sizeR_any _ _ (by omega) (by omega)).mono ?_
      rintro e6 w6 ⟨rfl, rfl⟩
      go_wp2_with fail
      (try simp only [Exit.inBlock, Exit.then])
      refine bodyPost_ret (v := trR s n E) (by rw [HR.out, HT.out]; simp [results, Try.results20, go_sem, y0, y1, y2, y3, y4]) rfl ⟨rfl, Below.trans B5 (by go_grown)⟩
end Go.Proofs.Ytbhdoafcjfcgfaa
