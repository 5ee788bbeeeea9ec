/-
  Contracts of package transit and of its reference: wired transits, the reference's.
-/
import Derived.Test.YtlpbmcnojkhdcaaTI
import Derived.Deep.OwnRows
import Derived.Deep.AppendLies
import Derived.Deep.RegionHeld3
import Derived.Deep.RegionLaw
namespace Go.Proofs.Ytlpbmcnojkhdcaa
open Go.RowKit
set_option linter.unusedSimpArgs false
set_option linter.unusedVariables false

def Blk (w : World) (g : Nat) (t : TypeId) (cs : Array Value) : Prop := w.heap[g]? = some (.cells cs t (0, 0))
section
variable {w w1 : World} {g : Nat} {t : TypeId} {cs : Array Value}
theorem Blk.lt (h : Blk w g t cs) : g < w.heap.size := by
  rcases Nat.lt_or_ge g w.heap.size with hlt | hge
  · exact hlt
  · unfold Blk at h; rw [Array.getElem?_eq_none hge] at h; cases h
theorem Blk.cell (h : Blk w g t cs) (i : Nat) : w.cell? ⟨g, i, none⟩ = cs[i]? := cell_of_row w g i cs t (0, 0) h
theorem Blk.frozen (h : Blk w g t cs) (i : Nat) : w.frozen? ⟨g, i, none⟩ = false := by
  unfold Blk at h
  simp [World.frozen?, h]
theorem Blk.new (w : World) (t : TypeId) (cs : Array Value) : Blk (w.alloc (.cells cs t)) w.heap.size t cs := heap_alloc_new w _
theorem Blk.below {B : Nat} (h : Blk w g t cs) (hb : Below B w w1) (hg : g < B) : Blk w1 g t cs := (hb.block g hg).trans h
end
theorem int_info3 : (Try.prog.info? 3).map (fun i => (i.zero, i.size, i.bytes)) = some (some (.int .i64 0), 1, 8) := by kernel_rfl
/-- What the loop has made so far. -/
def Acc (w2 : World) (T : Nat) (s : ByteArray) (a h l : Int) (t : Nat → Int) (k : Nat) (v : Value) (w : World) : Prop :=
  Bl w2 w ∧ Blk w T 28 #[.string s, .int .i64 a, .int .i64 h, .int .i64 l, v] ∧ w.ownsRow (T + 1) 3 1 v k ((List.range k).map fun j => .int .i64 (t j))
theorem sl_of_own {w : World} {base : Nat} {e : TypeId} {g n cap : Nat} {t : Nat → Int} (h : w.ownsRow base e 1 (.slice (some ⟨g, 0, none⟩) n cap) n ((List.range n).map fun j => .int .i64 (t j))) : Sl w (some ⟨g, 0, none⟩) n t := fun hn => by
  obtain ⟨g', cap', hv, hg, hlt⟩ := h.form hn
  obtain rfl : g = g' := by injection hv with hv; injection hv with hv; injection hv
  refine ⟨g, 0, rfl, hlt, fun j hj => ?_⟩
  rw [Nat.zero_add, h.cellAt j (by omega)]
  simp [hj]
theorem acc_start (w2 : World) (T : Nat) (s : ByteArray) (a h l : Int) (t : Nat → Int) (hT : T = w2.heap.size) :
    Acc w2 T s a h l t 0 (.slice none 0 0) (w2.alloc (.cells #[.string s, .int .i64 a, .int .i64 h, .int .i64 l, .slice none 0 0] 28)) := by
  subst hT
  exact ⟨by go_grown, Blk.new _ _ _, by simp, .inl ⟨rfl, rfl⟩⟩
theorem acc_mid {w2 : World} {T : Nat} {s : ByteArray} {a h l : Int} {t : Nat → Int} {k : Nat} {v : Value} {w w9 : World} {o : Obj} (h2 : w2.heap.size ≤ T) (H : Acc w2 T s a h l t k v w) (hg : ((w.alloc o).drew).grownBy w9 v.ownBlock) :
    Bl w2 w9 ∧ Blk w9 T 28 #[.string s, .int .i64 a, .int .i64 h, .int .i64 l, v] := by
  obtain ⟨h1, hb, ho⟩ := H
  have hl := ho.lt
  have hT := hb.lt
  have hz := h1.size
  have hb1 : Blk ((w.alloc o).drew) T 28 #[.string s, .int .i64 a, .int .i64 h, .int .i64 l, v] := (Below.heap_alloc w o T hT).trans hb
  refine ⟨Below.grown (w := (w.alloc o).drew) ((h1.alloc hz o).drew) hg (by simp; omega) (fun j hj => by have := (hl j hj).1; omega), ?_⟩
  refine (hg.block T (by simp; omega) (fun e => ?_)).trans hb1
  have := (hl T e.symm).1
  omega
theorem acc_next {w2 : World} {T : Nat} {s : ByteArray} {a h l : Int} {t : Nat → Int} {k : Nat} {v nv : Value} {w9 : World} {x : Int} (h2 : w2.heap.size ≤ T) (hb : Bl w2 w9) (hB : Blk w9 T 28 #[.string s, .int .i64 a, .int .i64 h, .int .i64 l, v])
    (ho : w9.ownsRow (T + 1) 3 1 nv (k + 1) (((List.range k).map fun j => Value.int .i64 (t j)) ++ [.int .i64 x])) (hx : t k = x) :
    Acc w2 T s a h l t (k + 1) nv (w9.setCell ⟨T, 4, none⟩ nv) := by
  refine ⟨hb.setCell h2 _, ?_, ?_⟩
  · unfold Blk at hB ⊢
    simp [World.setCell, Array.getElem?_modify, hB]
  · rw [List.range_succ, List.map_append, List.map_cons, List.map_nil, hx]
    exact ownsRow_setCell_below ho (by show T < T + 1; omega) _

set_option maxRecDepth 100000 in
set_option maxHeartbeats 3200000 in
theorem rwired_any (A : Option Addr) (n c : Nat) (f : Nat → Int) (e : Int) (s : ByteArray) (a h l z : Int) (w : World) (hn : n ≤ maxLen) (hs : s.size ≤ maxLen) (hz : -9223372036854775808 ≤ z ∧ z ≤ 9223372036854775807) (hA : Sl w A n f) :
    Calls Try.prog 45 #[.agg #[.slice A n c, .int .i64 e], .agg #[.string s, .int .i64 a, .int .i64 h, .int .i64 l], .int .i64 z] w (WirePost n f e s a h l z w) := by
  have HNN := Lib.hid hn
  have HS := Lib.hid hs
  have HA := Lib.hid hA
  clear hA hs hn
  obtain ⟨hz1, hz2⟩ := hz
  have hmk : ∀ (W : World), 0 < n → n ≤ 7 → (Instr.makeSlice 22 (.int .i64 (n : Int)) (.int .i64 (n : Int))).run Try.prog W = .ok (.slice (some ⟨W.heap.size, 0, none⟩) n n) (W.alloc (.cells (madeCells #[.int .i64 0] n) 3)) :=
    fun W h0 h7 => run_make_row' _ _ _ 8 Try.underlying22 (by kernel_rfl) rfl .i64 .i64 n (by omega) (by omega) W
  have HMK := Lib.hid hmk
  clear hmk
  by_cases q : tuB n f e = true
  · have H1 := Lib.hid q
    clear q
    by_cases q : stB s a h l = true
    · have H2 := Lib.hid q
      clear q
      have F := H1.out
      simp only [tuB, Bool.and_eq_true, decide_eq_true_eq] at F
      obtain ⟨⟨⟨n1, n7⟩, _⟩, ft⟩ := F
      have FB := Lib.hid (fun k (hk : k < n) => tuTo_at ft hk)
      clear ft
      have L := (stB_yes (s := s) (a := a) (h := h) (l := l) (by have := H2.out; simp only [stB, Bool.and_eq_true] at this; exact this.1.1.1)).1 H2.out
      obtain ⟨_, _, l1, l2⟩ := L
      have hmk := fun W => HMK.out W (by omega) n7
      go_enter Try.func45, Try.ntmps45
      go_wp2_with fail
      refine (rvalidTube_any A n c f e _ HNN.out (HA.out.below (by go_grown))).mono ?_
      rintro e1 w1 ⟨rfl, hb⟩
      have x0 := kc hb (b := w.heap.size) (o := 0) (v := .slice A n c) (by go_cell)
      have x1 := kc hb (b := w.heap.size) (o := 1) (v := .int .i64 e) (by go_cell)
      have x2 := kc hb (b := w.heap.size + 1) (o := 0) (v := .string s) (by go_cell)
      have x3 := kc hb (b := w.heap.size + 1) (o := 1) (v := .int .i64 a) (by go_cell)
      have x4 := kc hb (b := w.heap.size + 1) (o := 2) (v := .int .i64 h) (by go_cell)
      have x5 := kc hb (b := w.heap.size + 1) (o := 3) (v := .int .i64 l) (by go_cell)
      have x6 := kc hb (b := w.heap.size + 1 + 1) (o := 0) (v := .string ⟨#[]⟩) (by go_cell)
      have x7 := kc hb (b := w.heap.size + 1 + 1) (o := 1) (v := .int .i64 0) (by go_cell)
      have x8 := kc hb (b := w.heap.size + 1 + 1) (o := 2) (v := .int .i64 0) (by go_cell)
      have x9 := kc hb (b := w.heap.size + 1 + 1) (o := 3) (v := .int .i64 0) (by go_cell)
      have x10 := kc hb (b := w.heap.size + 1 + 1) (o := 4) (v := .slice none 0 0) (by go_cell)
      have y0 := kf hb (b := w.heap.size + 1 + 1) (o := 0) (by (try simp only [frozen?_alloc_cells, World.frozen?_setCell]); first | assumption | exact frozen_beyond (by (try simp only [World.size_alloc]); omega)) (by (try simp only [World.size_alloc]); omega)
      have y1 := kf hb (b := w.heap.size + 1 + 1) (o := 1) (by (try simp only [frozen?_alloc_cells, World.frozen?_setCell]); first | assumption | exact frozen_beyond (by (try simp only [World.size_alloc]); omega)) (by (try simp only [World.size_alloc]); omega)
      have y2 := kf hb (b := w.heap.size + 1 + 1) (o := 2) (by (try simp only [frozen?_alloc_cells, World.frozen?_setCell]); first | assumption | exact frozen_beyond (by (try simp only [World.size_alloc]); omega)) (by (try simp only [World.size_alloc]); omega)
      have y3 := kf hb (b := w.heap.size + 1 + 1) (o := 3) (by (try simp only [frozen?_alloc_cells, World.frozen?_setCell]); first | assumption | exact frozen_beyond (by (try simp only [World.size_alloc]); omega)) (by (try simp only [World.size_alloc]); omega)
      have y4 := kf hb (b := w.heap.size + 1 + 1) (o := 4) (by (try simp only [frozen?_alloc_cells, World.frozen?_setCell]); first | assumption | exact frozen_beyond (by (try simp only [World.size_alloc]); omega)) (by (try simp only [World.size_alloc]); omega)
      have B1 : Bl w w1 := Below.trans (by go_grown) (hb.mono (by (try simp only [World.size_alloc, World.size_setCell, World.size_drew]); omega))
      have z1 := B1.size
      have q1' := lt_cell x6
      have r1' := lt_cell x0
      have t1' := lt_cell x2
      clear hb
      rw [H1.out]
      go_wp2_with fail
      refine (rvalidStar_any _ _ _ _ _ HS.out).mono ?_
      rintro e2 w2 ⟨rfl, hb⟩
      have x0 := kc hb (b := w.heap.size) (o := 0) (v := .slice A n c) (by go_cell)
      have x1 := kc hb (b := w.heap.size) (o := 1) (v := .int .i64 e) (by go_cell)
      have x2 := kc hb (b := w.heap.size + 1) (o := 0) (v := .string s) (by go_cell)
      have x3 := kc hb (b := w.heap.size + 1) (o := 1) (v := .int .i64 a) (by go_cell)
      have x4 := kc hb (b := w.heap.size + 1) (o := 2) (v := .int .i64 h) (by go_cell)
      have x5 := kc hb (b := w.heap.size + 1) (o := 3) (v := .int .i64 l) (by go_cell)
      have x6 := kc hb (b := w.heap.size + 1 + 1) (o := 0) (v := .string ⟨#[]⟩) (by go_cell)
      have x7 := kc hb (b := w.heap.size + 1 + 1) (o := 1) (v := .int .i64 0) (by go_cell)
      have x8 := kc hb (b := w.heap.size + 1 + 1) (o := 2) (v := .int .i64 0) (by go_cell)
      have x9 := kc hb (b := w.heap.size + 1 + 1) (o := 3) (v := .int .i64 0) (by go_cell)
      have x10 := kc hb (b := w.heap.size + 1 + 1) (o := 4) (v := .slice none 0 0) (by go_cell)
      have y0 := kf hb (b := w.heap.size + 1 + 1) (o := 0) (by (try simp only [frozen?_alloc_cells, World.frozen?_setCell]); first | assumption | exact frozen_beyond (by (try simp only [World.size_alloc]); omega)) (by (try simp only [World.size_alloc]); omega)
      have y1 := kf hb (b := w.heap.size + 1 + 1) (o := 1) (by (try simp only [frozen?_alloc_cells, World.frozen?_setCell]); first | assumption | exact frozen_beyond (by (try simp only [World.size_alloc]); omega)) (by (try simp only [World.size_alloc]); omega)
      have y2 := kf hb (b := w.heap.size + 1 + 1) (o := 2) (by (try simp only [frozen?_alloc_cells, World.frozen?_setCell]); first | assumption | exact frozen_beyond (by (try simp only [World.size_alloc]); omega)) (by (try simp only [World.size_alloc]); omega)
      have y3 := kf hb (b := w.heap.size + 1 + 1) (o := 3) (by (try simp only [frozen?_alloc_cells, World.frozen?_setCell]); first | assumption | exact frozen_beyond (by (try simp only [World.size_alloc]); omega)) (by (try simp only [World.size_alloc]); omega)
      have y4 := kf hb (b := w.heap.size + 1 + 1) (o := 4) (by (try simp only [frozen?_alloc_cells, World.frozen?_setCell]); first | assumption | exact frozen_beyond (by (try simp only [World.size_alloc]); omega)) (by (try simp only [World.size_alloc]); omega)
      have B2 : Bl w w2 := Below.trans (by go_grown) (hb.mono (by (try simp only [World.size_alloc, World.size_setCell, World.size_drew]); omega))
      have z2 := B2.size
      have q2' := lt_cell x6
      have r2' := lt_cell x0
      have t2' := lt_cell x2
      clear hb
      rw [H2.out]
      have HA2 := Lib.hid (show Sl w2 A n f from HA.out.below B2)
      obtain ⟨i0, hi0, hz0, hzz1, hzz2⟩ := info_parts int_info3
      have HI := Lib.hid (And.intro hi0 (And.intro hz0 (And.intro hzz1 hzz2)))
      clear hi0 hz0 hzz1 hzz2
      go_wp2_with fail
      have A0 := Lib.hid (acc_start w2 w2.heap.size s a h l (wtF f l z) rfl)
      go_loopw [25] (fun i wr => ∃ (k : Nat) (v : Value), k ≤ n ∧ i = .int .i64 k ∧ Acc w2 w2.heap.size s a h l (wtF f l z) k v wr ∧ Hid (wtTo f l z k = true)) (fun i _ => n - (intOf i).toNat)
      case atStart => exact ⟨0, _, Nat.zero_le _, rfl, A0.out, rfl⟩
      case round =>
        obtain ⟨k, v, hk, rfl, HC, HO⟩ := hrel
        have hwr := HC.1
        have y5 := kc hwr x5
        have zT := HC.2.1.lt
        have u6 := kc hwr x6
        have u7 := kc hwr x7
        have u8 := kc hwr x8
        have u9 := kc hwr x9
        have u10 := kc hwr x10
        have g0 := kf hwr y0 q2'
        have g1 := kf hwr y1 q2'
        have g2 := kf hwr y2 q2'
        have g3 := kf hwr y3 q2'
        have g4 := kf hwr y4 q2'
        have cT0 := HC.2.1.cell 0
        have cT1 := HC.2.1.cell 1
        have cT2 := HC.2.1.cell 2
        have cT3 := HC.2.1.cell 3
        have cT4 := HC.2.1.cell 4
        have zwr := hwr.size
        have Bwr := B2.tr hwr
        have fT4 := HC.2.1.frozen 4
        simp only [List.getElem?_toArray, List.getElem?_cons_succ, List.getElem?_cons_zero] at cT0 cT1 cT2 cT3 cT4
        by_cases hlt : k < n
        · obtain ⟨b, off, rfl, hbb, hc⟩ := (HA2.out.below hwr) (by omega)
          have c1 := hc k hlt
          clear hc
          obtain ⟨f1, f2⟩ := FB.out k hlt
          obtain ⟨p1, p2⟩ := wl_bd f1 f2 l1 l2
          obtain ⟨q, hq⟩ : ∃ q, q = f k * l / 1000 := ⟨_, rfl⟩
          have q1 : -1000000 ≤ q := by omega
          have q2 : q ≤ 1000000 := by omega
          have HW := Lib.hid (show wtF f l z k = z + q by rw [wtF, hq])
          have HQ := Lib.hid hq
          clear hq
          by_cases r1 : inB z (-86400000) 172800000 = true
          · have r1' := inB_iff.1 r1
            obtain ⟨r2, r3⟩ := r1'
            have R1 := Lib.hid r1
            clear r1
            by_cases r1 : inB (z + q) 0 86399999 = true
            · have HY := Lib.hid (show wtTo f l z (k + 1) = true by rw [wtTo, HO.out, HW.out, r1]; rfl)
              have R4 := Lib.hid r1
              clear r1
              have e1 : IntKind.i64.wrap (z + q) = z + q := IntWalk.i64_in _ (by omega)
              have e2 : IntKind.i64.wrap (f k * l) = f k * l := IntWalk.i64_in _ (by omega)
              go_wp2_with fail
              refine (within3_any _ _ _ _).mono ?_
              rintro e3 w3 ⟨rfl, rfl⟩
              rw [R1.out]
              go_wp2_with fail
              refine (down3_any _ _ _ (by omega) (by omega) (by omega) (by omega)).mono ?_
              rintro e3 w3 ⟨rfl, rfl⟩
              rw [← HQ.out]
              go_wp2_with fail
              refine (within3_any _ _ _ _).mono ?_
              rintro e3 w3 ⟨rfl, rfl⟩
              rw [R4.out]
              go_wp2_with fail
              go_region_law (first | (go_simp; go_at_call 51; refine ((down3_any _ _ _ (by omega) (by omega) (by omega) (by omega))).mono ?_; rintro e3 w3 ⟨rfl, rfl⟩; rw [← HQ.out]) | (refine step_append_lies _ (by rfl) _ _ _ (by rfl) (w2.heap.size + 1) 3 i0 _ 1 8 Try.underlying22 HI.out.1 HI.out.2.1 HI.out.2.2.1 HI.out.2.2.2 rfl (by omega) v k _ (by rfl) ((HC.2.2.alloc _).drew) ⟨wr.heap.size, 0, none⟩ 1 1 [.int .i64 (z + q)] (by rfl) (by rfl) (World.news_of_block (cs := #[.int .i64 (z + q)]) (t := 3) (fr := (0, 0)) (heap_alloc_new wr _)) (by simp [Value.oneCell']) (by omega) (by unfold maxLen; omega) (by omega) (by simp; omega) (wr.heap.size + 1) (by simp) ?_; intro gg cap w9 hown1 hgrow hat hlt9; have hm9 := acc_mid (Nat.le_refl _) HC hgrow; have zT9 := hm9.2.lt; have cT9 := hm9.2.cell 4; have fT9 := hm9.2.frozen 4; simp only [List.getElem?_toArray, List.getElem?_cons_succ, List.getElem?_cons_zero] at cT9))
              all_goals
                go_wp2_with fail
                go_roundw
                case rel => exact ⟨k + 1, _, by omega, by go_num, acc_next (Nat.le_refl _) hm9.1 hm9.2 hown1 HW.out, HY.out⟩
                case measure => simp [intOf]; omega
            · have R4 := Lib.hid (show inB (z + q) 0 86399999 = false by simpa using r1)
              have HN := Lib.hid (wtTo_no f l z (k := k) (n := n) hlt (by rw [HW.out]; exact R4.out))
              clear r1
              go_wp2_with fail
              refine (within3_any _ _ _ _).mono ?_
              rintro e3 w3 ⟨rfl, rfl⟩
              rw [R1.out]
              go_wp2_with fail
              refine (down3_any _ _ _ (by omega) (by omega) (by omega) (by omega)).mono ?_
              rintro e3 w3 ⟨rfl, rfl⟩
              rw [← HQ.out]
              go_wp2_with fail
              refine (within3_any _ _ _ _).mono ?_
              rintro e3 w3 ⟨rfl, rfl⟩
              rw [R4.out]
              go_wp2_with fail
              exact bodyPost_ret (v := .tuple #[.agg #[.string ⟨#[]⟩, .int .i64 0, .int .i64 0, .int .i64 0, .slice none 0 0], .int .i64 7]) (by simp [results, Try.results45, go_sem, u6, u7, u8, u9, u10]) rfl ⟨by go_grown, .inr (.inl ⟨by simp [wok, H1.out, H2.out], HN.out, rfl⟩)⟩
          · have R1 := Lib.hid (show inB z (-86400000) 172800000 = false by simpa using r1)
            have HN := Lib.hid (wtTo_no f l z (k := k) (n := n) hlt (by rw [HW.out, inB_no]; have := inB_no.1 R1.out; omega))
            clear r1
            go_wp2_with fail
            refine (within3_any _ _ _ _).mono ?_
            rintro e3 w3 ⟨rfl, rfl⟩
            rw [R1.out]
            go_wp2_with fail
            exact bodyPost_ret (v := .tuple #[.agg #[.string ⟨#[]⟩, .int .i64 0, .int .i64 0, .int .i64 0, .slice none 0 0], .int .i64 7]) (by simp [results, Try.results45, go_sem, u6, u7, u8, u9, u10]) rfl ⟨by go_grown, .inr (.inl ⟨by simp [wok, H1.out, H2.out], HN.out, rfl⟩)⟩
        · obtain rfl : n = k := by omega
          obtain ⟨g, cap, rfl, hg1, hg2⟩ := HC.2.2.form (by omega)
          go_wp2_with fail
          refine bodyPost_ret (v := .tuple #[.agg #[.string s, .int .i64 a, .int .i64 h, .int .i64 l, .slice (some ⟨g, 0, none⟩) n cap], .int .i64 0]) (by simp [results, Try.results45, go_sem, u6, u7, u8, u9, u10]) rfl ⟨by go_grown, .inr (.inr ⟨by simp [wok, H1.out, H2.out], HO.out, some ⟨g, 0, none⟩, cap, rfl, sl_of_own (base := w2.heap.size + 1) (e := 3) (cap := cap) ?_⟩)⟩
          exact ownsRow_setCell_below (ownsRow_setCell_below (ownsRow_setCell_below (ownsRow_setCell_below (ownsRow_setCell_below HC.2.2 (by show w.heap.size + 1 + 1 < _; omega) _) (by show w.heap.size + 1 + 1 < _; omega) _) (by show w.heap.size + 1 + 1 < _; omega) _) (by show w.heap.size + 1 + 1 < _; omega) _) (by show w.heap.size + 1 + 1 < _; omega) _
    · have H2 := Lib.hid (show stB s a h l = false by simpa using q)
      clear q
      go_enter Try.func45, Try.ntmps45
      go_wp2_with fail
      refine (rvalidTube_any A n c f e _ HNN.out (HA.out.below (by go_grown))).mono ?_
      rintro e1 w1 ⟨rfl, hb⟩
      have x0 := kc hb (b := w.heap.size) (o := 0) (v := .slice A n c) (by go_cell)
      have x1 := kc hb (b := w.heap.size) (o := 1) (v := .int .i64 e) (by go_cell)
      have x2 := kc hb (b := w.heap.size + 1) (o := 0) (v := .string s) (by go_cell)
      have x3 := kc hb (b := w.heap.size + 1) (o := 1) (v := .int .i64 a) (by go_cell)
      have x4 := kc hb (b := w.heap.size + 1) (o := 2) (v := .int .i64 h) (by go_cell)
      have x5 := kc hb (b := w.heap.size + 1) (o := 3) (v := .int .i64 l) (by go_cell)
      have x6 := kc hb (b := w.heap.size + 1 + 1) (o := 0) (v := .string ⟨#[]⟩) (by go_cell)
      have x7 := kc hb (b := w.heap.size + 1 + 1) (o := 1) (v := .int .i64 0) (by go_cell)
      have x8 := kc hb (b := w.heap.size + 1 + 1) (o := 2) (v := .int .i64 0) (by go_cell)
      have x9 := kc hb (b := w.heap.size + 1 + 1) (o := 3) (v := .int .i64 0) (by go_cell)
      have x10 := kc hb (b := w.heap.size + 1 + 1) (o := 4) (v := .slice none 0 0) (by go_cell)
      have y0 := kf hb (b := w.heap.size + 1 + 1) (o := 0) (by (try simp only [frozen?_alloc_cells, World.frozen?_setCell]); first | assumption | exact frozen_beyond (by (try simp only [World.size_alloc]); omega)) (by (try simp only [World.size_alloc]); omega)
      have y1 := kf hb (b := w.heap.size + 1 + 1) (o := 1) (by (try simp only [frozen?_alloc_cells, World.frozen?_setCell]); first | assumption | exact frozen_beyond (by (try simp only [World.size_alloc]); omega)) (by (try simp only [World.size_alloc]); omega)
      have y2 := kf hb (b := w.heap.size + 1 + 1) (o := 2) (by (try simp only [frozen?_alloc_cells, World.frozen?_setCell]); first | assumption | exact frozen_beyond (by (try simp only [World.size_alloc]); omega)) (by (try simp only [World.size_alloc]); omega)
      have y3 := kf hb (b := w.heap.size + 1 + 1) (o := 3) (by (try simp only [frozen?_alloc_cells, World.frozen?_setCell]); first | assumption | exact frozen_beyond (by (try simp only [World.size_alloc]); omega)) (by (try simp only [World.size_alloc]); omega)
      have y4 := kf hb (b := w.heap.size + 1 + 1) (o := 4) (by (try simp only [frozen?_alloc_cells, World.frozen?_setCell]); first | assumption | exact frozen_beyond (by (try simp only [World.size_alloc]); omega)) (by (try simp only [World.size_alloc]); omega)
      have B1 : Bl w w1 := Below.trans (by go_grown) (hb.mono (by (try simp only [World.size_alloc, World.size_setCell, World.size_drew]); omega))
      have z1 := B1.size
      have q1' := lt_cell x6
      have r1' := lt_cell x0
      have t1' := lt_cell x2
      clear hb
      rw [H1.out]
      go_wp2_with fail
      refine (rvalidStar_any _ _ _ _ _ HS.out).mono ?_
      rintro e2 w2 ⟨rfl, hb⟩
      have x0 := kc hb (b := w.heap.size) (o := 0) (v := .slice A n c) (by go_cell)
      have x1 := kc hb (b := w.heap.size) (o := 1) (v := .int .i64 e) (by go_cell)
      have x2 := kc hb (b := w.heap.size + 1) (o := 0) (v := .string s) (by go_cell)
      have x3 := kc hb (b := w.heap.size + 1) (o := 1) (v := .int .i64 a) (by go_cell)
      have x4 := kc hb (b := w.heap.size + 1) (o := 2) (v := .int .i64 h) (by go_cell)
      have x5 := kc hb (b := w.heap.size + 1) (o := 3) (v := .int .i64 l) (by go_cell)
      have x6 := kc hb (b := w.heap.size + 1 + 1) (o := 0) (v := .string ⟨#[]⟩) (by go_cell)
      have x7 := kc hb (b := w.heap.size + 1 + 1) (o := 1) (v := .int .i64 0) (by go_cell)
      have x8 := kc hb (b := w.heap.size + 1 + 1) (o := 2) (v := .int .i64 0) (by go_cell)
      have x9 := kc hb (b := w.heap.size + 1 + 1) (o := 3) (v := .int .i64 0) (by go_cell)
      have x10 := kc hb (b := w.heap.size + 1 + 1) (o := 4) (v := .slice none 0 0) (by go_cell)
      have y0 := kf hb (b := w.heap.size + 1 + 1) (o := 0) (by (try simp only [frozen?_alloc_cells, World.frozen?_setCell]); first | assumption | exact frozen_beyond (by (try simp only [World.size_alloc]); omega)) (by (try simp only [World.size_alloc]); omega)
      have y1 := kf hb (b := w.heap.size + 1 + 1) (o := 1) (by (try simp only [frozen?_alloc_cells, World.frozen?_setCell]); first | assumption | exact frozen_beyond (by (try simp only [World.size_alloc]); omega)) (by (try simp only [World.size_alloc]); omega)
      have y2 := kf hb (b := w.heap.size + 1 + 1) (o := 2) (by (try simp only [frozen?_alloc_cells, World.frozen?_setCell]); first | assumption | exact frozen_beyond (by (try simp only [World.size_alloc]); omega)) (by (try simp only [World.size_alloc]); omega)
      have y3 := kf hb (b := w.heap.size + 1 + 1) (o := 3) (by (try simp only [frozen?_alloc_cells, World.frozen?_setCell]); first | assumption | exact frozen_beyond (by (try simp only [World.size_alloc]); omega)) (by (try simp only [World.size_alloc]); omega)
      have y4 := kf hb (b := w.heap.size + 1 + 1) (o := 4) (by (try simp only [frozen?_alloc_cells, World.frozen?_setCell]); first | assumption | exact frozen_beyond (by (try simp only [World.size_alloc]); omega)) (by (try simp only [World.size_alloc]); omega)
      have B2 : Bl w w2 := Below.trans (by go_grown) (hb.mono (by (try simp only [World.size_alloc, World.size_setCell, World.size_drew]); omega))
      have z2 := B2.size
      have q2' := lt_cell x6
      have r2' := lt_cell x0
      have t2' := lt_cell x2
      clear hb
      rw [H2.out]
      go_wp2_with fail
      exact bodyPost_ret (v := .tuple #[.agg #[.string ⟨#[]⟩, .int .i64 0, .int .i64 0, .int .i64 0, .slice none 0 0], .int .i64 1]) (by simp [results, Try.results45, go_sem, x6, x7, x8, x9, x10]) rfl ⟨by go_grown, .inl ⟨by simp [wok, H1.out, H2.out], rfl⟩⟩
  · have H1 := Lib.hid (show tuB n f e = false by simpa using q)
    clear q
    go_enter Try.func45, Try.ntmps45
    go_wp2_with fail
    refine (rvalidTube_any A n c f e _ HNN.out (HA.out.below (by go_grown))).mono ?_
    rintro e1 w1 ⟨rfl, hb⟩
    have x0 := kc hb (b := w.heap.size) (o := 0) (v := .slice A n c) (by go_cell)
    have x1 := kc hb (b := w.heap.size) (o := 1) (v := .int .i64 e) (by go_cell)
    have x2 := kc hb (b := w.heap.size + 1) (o := 0) (v := .string s) (by go_cell)
    have x3 := kc hb (b := w.heap.size + 1) (o := 1) (v := .int .i64 a) (by go_cell)
    have x4 := kc hb (b := w.heap.size + 1) (o := 2) (v := .int .i64 h) (by go_cell)
    have x5 := kc hb (b := w.heap.size + 1) (o := 3) (v := .int .i64 l) (by go_cell)
    have x6 := kc hb (b := w.heap.size + 1 + 1) (o := 0) (v := .string ⟨#[]⟩) (by go_cell)
    have x7 := kc hb (b := w.heap.size + 1 + 1) (o := 1) (v := .int .i64 0) (by go_cell)
    have x8 := kc hb (b := w.heap.size + 1 + 1) (o := 2) (v := .int .i64 0) (by go_cell)
    have x9 := kc hb (b := w.heap.size + 1 + 1) (o := 3) (v := .int .i64 0) (by go_cell)
    have x10 := kc hb (b := w.heap.size + 1 + 1) (o := 4) (v := .slice none 0 0) (by go_cell)
    have y0 := kf hb (b := w.heap.size + 1 + 1) (o := 0) (by (try simp only [frozen?_alloc_cells, World.frozen?_setCell]); first | assumption | exact frozen_beyond (by (try simp only [World.size_alloc]); omega)) (by (try simp only [World.size_alloc]); omega)
    have y1 := kf hb (b := w.heap.size + 1 + 1) (o := 1) (by (try simp only [frozen?_alloc_cells, World.frozen?_setCell]); first | assumption | exact frozen_beyond (by (try simp only [World.size_alloc]); omega)) (by (try simp only [World.size_alloc]); omega)
    have y2 := kf hb (b := w.heap.size + 1 + 1) (o := 2) (by (try simp only [frozen?_alloc_cells, World.frozen?_setCell]); first | assumption | exact frozen_beyond (by (try simp only [World.size_alloc]); omega)) (by (try simp only [World.size_alloc]); omega)
    have y3 := kf hb (b := w.heap.size + 1 + 1) (o := 3) (by (try simp only [frozen?_alloc_cells, World.frozen?_setCell]); first | assumption | exact frozen_beyond (by (try simp only [World.size_alloc]); omega)) (by (try simp only [World.size_alloc]); omega)
    have y4 := kf hb (b := w.heap.size + 1 + 1) (o := 4) (by (try simp only [frozen?_alloc_cells, World.frozen?_setCell]); first | assumption | exact frozen_beyond (by (try simp only [World.size_alloc]); omega)) (by (try simp only [World.size_alloc]); omega)
    have B1 : Bl w w1 := Below.trans (by go_grown) (hb.mono (by (try simp only [World.size_alloc, World.size_setCell, World.size_drew]); omega))
    have z1 := B1.size
    have q1' := lt_cell x6
    have r1' := lt_cell x0
    have t1' := lt_cell x2
    clear hb
    rw [H1.out]
    go_wp2_with fail
    exact bodyPost_ret (v := .tuple #[.agg #[.string ⟨#[]⟩, .int .i64 0, .int .i64 0, .int .i64 0, .slice none 0 0], .int .i64 1]) (by simp [results, Try.results45, go_sem, x6, x7, x8, x9, x10]) rfl ⟨by go_grown, .inl ⟨by simp [wok, H1.out], rfl⟩⟩
end Go.Proofs.Ytlpbmcnojkhdcaa
