/-
  Shifted of the reference; SameBox of equal boxes.
-/
import Derived.Test.YtflajochohbokaaRO
import Derived.Test.YtflajochohbokaaRB
namespace Go.Proofs.Ytflajochohbokaa
open Go.RowKit
set_option linter.unusedSimpArgs false
set_option linter.unusedVariables false

theorem Bl.dq6 (w : World) (n : Nat) : Bl w (w.drewN n) := by
  induction n with
  | zero => exact Bl.rf _
  | succ n ih => exact ih.drew
theorem sIB_same (n : Nat) (f : Nat → Int) : sIB n f n f = true := by simp [sIB, eqTo_same]
set_option maxRecDepth 100000 in
set_option maxHeartbeats 1600000 in
theorem sameBox_any (s : ByteArray) (A : Option Addr) (n c : Nat) (B : Option Addr) (d : Nat) (f : Nat → Int) (w : World) (hn : n ≤ maxLen) (hA : Sl w A n f) (hB : Sl w B n f) :
    Calls Try.prog 36 #[encB s A n c, encB s B n d] w fun e w' => e = .returned (.bool true) ∧ Bl w w' := by
  have HA := Lib.hid hA
  have HB := Lib.hid hB
  have HN := Lib.hid hn
  clear hA hB hn
  have HS := Lib.hid (sIB_same n f)
  go_enter Try.func36, Try.ntmps36
  go_wp2_with fail
  refine (sameInts_any A n c f B n d f _ HN.out HN.out (HA.out.below (by go_grown)) (HB.out.below (by go_grown))).mono ?_
  rintro e w1 ⟨rfl, N, hw⟩
  have B1 : Bl w w1 := by rw [hw]; exact Below.trans (by go_grown) ((Bl.dq6 _ N).mono (by (try simp only [World.size_alloc]); omega))
  clear hw
  rw [HS.out]
  go_wp2_with fail
  go_ret
  exact ⟨rfl, B1⟩

theorem Sl.setb {w : World} {A : Option Addr} {n : Nat} {f : Nat → Int} (h : Sl w A n f) {b o : Nat} {u : Value} (hb : ∀ g, A = some g → b ≠ g.block) : Sl (w.setCell ⟨b, o, none⟩ u) A n f := fun hn => by
  obtain ⟨b', off', e, hl, hc⟩ := h hn
  refine ⟨b', off', e, by simpa using hl, fun j hj => ?_⟩
  rw [← hc j hj]
  exact World.cell?_of_block (Below.heap_setCell _ _ _ b' (fun e' => hb _ e (by rw [e'])))

set_option maxRecDepth 100000 in
set_option maxHeartbeats 3200000 in
theorem rshifted_any (s : ByteArray) (A : Option Addr) (n c : Nat) (E : Nat → Int) (p q : Int) (w : World) (hs : s.size ≤ maxLen) (hA : Sl w A n E) (hn : n ≤ c) (hc : c ≤ maxLen) :
    Calls Try.prog 35 #[encB s A n c, .int .i64 p, .int .i64 q] w (ShPost s n E p q w) := by
  obtain ⟨i0, hi0, hz0, hz1, hz2⟩ := info_parts6 int_info
  have HI := Lib.hid (And.intro hi0 (And.intro hz0 (And.intro hz1 hz2)))
  clear hi0 hz0 hz1 hz2
  have HA := Lib.hid hA
  have HS := Lib.hid hs
  have HC := Lib.hid hc
  have HN := Lib.hid (show n ≤ maxLen by omega)
  have HNC := Lib.hid hn
  clear hA hs
  unfold maxLen at hc
  by_cases hv : vbB s n E = true
  rotate_left
  · have HV := Lib.hid (show vbB s n E = false by simpa using hv)
    clear hv
    go_enter Try.func35, Try.ntmps35
    go_wp2_with fail
    refine (rvalidBox_any s A n c E _ HS.out HN.out (HA.out.below (by go_grown))).mono ?_
    rintro q1 w1 ⟨rfl, hb⟩
    have x0 := kcb hb (b := w.heap.size) (o := 0) (v := .string s) (by first | assumption | (refine cellUp ?_; assumption) | go_cell)
    have x1 := kcb hb (b := w.heap.size) (o := 1) (v := .slice A n c) (by first | assumption | (refine cellUp ?_; assumption) | go_cell)
    have r0 := kcb hb (b := w.heap.size + 1) (o := 0) (v := .string ⟨#[]⟩) (by first | assumption | (refine cellUp ?_; assumption) | go_cell)
    have r1 := kcb hb (b := w.heap.size + 1) (o := 1) (v := .slice none 0 0) (by first | assumption | (refine cellUp ?_; assumption) | go_cell)
    have f0 := fzb hb (b := w.heap.size + 1) (o := 0) (by (try simp only [frozen?_alloc_cells, World.frozen?_setCell, World.frozen?_drew]); first | assumption | exact fz_new (by (try simp only [World.size_alloc, World.size_setCell, World.size_drew]); omega)) (by (try simp only [World.size_alloc, World.size_setCell, World.size_drew]); omega)
    have f1 := fzb hb (b := w.heap.size + 1) (o := 1) (by (try simp only [frozen?_alloc_cells, World.frozen?_setCell, World.frozen?_drew]); first | assumption | exact fz_new (by (try simp only [World.size_alloc, World.size_setCell, World.size_drew]); omega)) (by (try simp only [World.size_alloc, World.size_setCell, World.size_drew]); omega)
    have B1 : Bl w w1 := Below.trans (by go_grown) (hb.mono (by (try simp only [World.size_alloc, World.size_setCell, World.size_drew]); omega))
    have l1 := ltb r1
    have l1_1 := ltb x1
    have zz1 := B1.size
    clear hb
    rw [HV.out]
    go_wp2_with fail
    (try simp only [Exit.inBlock, Exit.then])
    refine bodyPost_ret (v := .tuple #[bxZ, .int .i64 1]) (by simp [results, Try.results35, go_sem, bxZ, r0, r1]) rfl ⟨Below.trans B1 (by go_grown), .inl ⟨HV.out, rfl⟩⟩
  · have HV := Lib.hid hv
    obtain ⟨_, n2, n4, hE⟩ := vbB_iff.1 hv
    have HE := Lib.hid hE
    clear hv hE
    by_cases h1 : p < -86400000
    · have HK := Lib.hid (show shOk p q = false by rw [← Bool.not_eq_true]; intro h; have := shOk_iff.1 h; omega)
      go_enter Try.func35, Try.ntmps35
      go_wp2_with fail
      refine (rvalidBox_any s A n c E _ HS.out HN.out (HA.out.below (by go_grown))).mono ?_
      rintro q1 w1 ⟨rfl, hb⟩
      have x0 := kcb hb (b := w.heap.size) (o := 0) (v := .string s) (by first | assumption | (refine cellUp ?_; assumption) | go_cell)
      have x1 := kcb hb (b := w.heap.size) (o := 1) (v := .slice A n c) (by first | assumption | (refine cellUp ?_; assumption) | go_cell)
      have r0 := kcb hb (b := w.heap.size + 1) (o := 0) (v := .string ⟨#[]⟩) (by first | assumption | (refine cellUp ?_; assumption) | go_cell)
      have r1 := kcb hb (b := w.heap.size + 1) (o := 1) (v := .slice none 0 0) (by first | assumption | (refine cellUp ?_; assumption) | go_cell)
      have f0 := fzb hb (b := w.heap.size + 1) (o := 0) (by (try simp only [frozen?_alloc_cells, World.frozen?_setCell, World.frozen?_drew]); first | assumption | exact fz_new (by (try simp only [World.size_alloc, World.size_setCell, World.size_drew]); omega)) (by (try simp only [World.size_alloc, World.size_setCell, World.size_drew]); omega)
      have f1 := fzb hb (b := w.heap.size + 1) (o := 1) (by (try simp only [frozen?_alloc_cells, World.frozen?_setCell, World.frozen?_drew]); first | assumption | exact fz_new (by (try simp only [World.size_alloc, World.size_setCell, World.size_drew]); omega)) (by (try simp only [World.size_alloc, World.size_setCell, World.size_drew]); omega)
      have B1 : Bl w w1 := Below.trans (by go_grown) (hb.mono (by (try simp only [World.size_alloc, World.size_setCell, World.size_drew]); omega))
      have l1 := ltb r1
      have l1_1 := ltb x1
      have zz1 := B1.size
      clear hb
      rw [HV.out]
      go_wp2_with fail
      (try simp only [Exit.inBlock, Exit.then])
      refine bodyPost_ret (v := .tuple #[bxZ, .int .i64 7]) (by simp [results, Try.results35, go_sem, bxZ, r0, r1]) rfl ⟨Below.trans B1 (by go_grown), .inr (.inl ⟨HV.out, HK.out, rfl⟩)⟩
    · have h1' : -86400000 ≤ p := by omega
      clear h1
      by_cases h2 : 86400000 < p
      · have HK := Lib.hid (show shOk p q = false by rw [← Bool.not_eq_true]; intro h; have := shOk_iff.1 h; omega)
        go_enter Try.func35, Try.ntmps35
        go_wp2_with fail
        refine (rvalidBox_any s A n c E _ HS.out HN.out (HA.out.below (by go_grown))).mono ?_
        rintro q1 w1 ⟨rfl, hb⟩
        have x0 := kcb hb (b := w.heap.size) (o := 0) (v := .string s) (by first | assumption | (refine cellUp ?_; assumption) | go_cell)
        have x1 := kcb hb (b := w.heap.size) (o := 1) (v := .slice A n c) (by first | assumption | (refine cellUp ?_; assumption) | go_cell)
        have r0 := kcb hb (b := w.heap.size + 1) (o := 0) (v := .string ⟨#[]⟩) (by first | assumption | (refine cellUp ?_; assumption) | go_cell)
        have r1 := kcb hb (b := w.heap.size + 1) (o := 1) (v := .slice none 0 0) (by first | assumption | (refine cellUp ?_; assumption) | go_cell)
        have f0 := fzb hb (b := w.heap.size + 1) (o := 0) (by (try simp only [frozen?_alloc_cells, World.frozen?_setCell, World.frozen?_drew]); first | assumption | exact fz_new (by (try simp only [World.size_alloc, World.size_setCell, World.size_drew]); omega)) (by (try simp only [World.size_alloc, World.size_setCell, World.size_drew]); omega)
        have f1 := fzb hb (b := w.heap.size + 1) (o := 1) (by (try simp only [frozen?_alloc_cells, World.frozen?_setCell, World.frozen?_drew]); first | assumption | exact fz_new (by (try simp only [World.size_alloc, World.size_setCell, World.size_drew]); omega)) (by (try simp only [World.size_alloc, World.size_setCell, World.size_drew]); omega)
        have B1 : Bl w w1 := Below.trans (by go_grown) (hb.mono (by (try simp only [World.size_alloc, World.size_setCell, World.size_drew]); omega))
        have l1 := ltb r1
        have l1_1 := ltb x1
        have zz1 := B1.size
        clear hb
        rw [HV.out]
        go_wp2_with fail
        (try simp only [Exit.inBlock, Exit.then])
        refine bodyPost_ret (v := .tuple #[bxZ, .int .i64 7]) (by simp [results, Try.results35, go_sem, bxZ, r0, r1]) rfl ⟨Below.trans B1 (by go_grown), .inr (.inl ⟨HV.out, HK.out, rfl⟩)⟩
      · have h2' : p ≤ 86400000 := by omega
        clear h2
        by_cases h3 : q < -1000000
        · have HK := Lib.hid (show shOk p q = false by rw [← Bool.not_eq_true]; intro h; have := shOk_iff.1 h; omega)
          go_enter Try.func35, Try.ntmps35
          go_wp2_with fail
          refine (rvalidBox_any s A n c E _ HS.out HN.out (HA.out.below (by go_grown))).mono ?_
          rintro q1 w1 ⟨rfl, hb⟩
          have x0 := kcb hb (b := w.heap.size) (o := 0) (v := .string s) (by first | assumption | (refine cellUp ?_; assumption) | go_cell)
          have x1 := kcb hb (b := w.heap.size) (o := 1) (v := .slice A n c) (by first | assumption | (refine cellUp ?_; assumption) | go_cell)
          have r0 := kcb hb (b := w.heap.size + 1) (o := 0) (v := .string ⟨#[]⟩) (by first | assumption | (refine cellUp ?_; assumption) | go_cell)
          have r1 := kcb hb (b := w.heap.size + 1) (o := 1) (v := .slice none 0 0) (by first | assumption | (refine cellUp ?_; assumption) | go_cell)
          have f0 := fzb hb (b := w.heap.size + 1) (o := 0) (by (try simp only [frozen?_alloc_cells, World.frozen?_setCell, World.frozen?_drew]); first | assumption | exact fz_new (by (try simp only [World.size_alloc, World.size_setCell, World.size_drew]); omega)) (by (try simp only [World.size_alloc, World.size_setCell, World.size_drew]); omega)
          have f1 := fzb hb (b := w.heap.size + 1) (o := 1) (by (try simp only [frozen?_alloc_cells, World.frozen?_setCell, World.frozen?_drew]); first | assumption | exact fz_new (by (try simp only [World.size_alloc, World.size_setCell, World.size_drew]); omega)) (by (try simp only [World.size_alloc, World.size_setCell, World.size_drew]); omega)
          have B1 : Bl w w1 := Below.trans (by go_grown) (hb.mono (by (try simp only [World.size_alloc, World.size_setCell, World.size_drew]); omega))
          have l1 := ltb r1
          have l1_1 := ltb x1
          have zz1 := B1.size
          clear hb
          rw [HV.out]
          go_wp2_with fail
          (try simp only [Exit.inBlock, Exit.then])
          refine bodyPost_ret (v := .tuple #[bxZ, .int .i64 7]) (by simp [results, Try.results35, go_sem, bxZ, r0, r1]) rfl ⟨Below.trans B1 (by go_grown), .inr (.inl ⟨HV.out, HK.out, rfl⟩)⟩
        · have h3' : -1000000 ≤ q := by omega
          clear h3
          by_cases h4 : 1000000 < q
          · have HK := Lib.hid (show shOk p q = false by rw [← Bool.not_eq_true]; intro h; have := shOk_iff.1 h; omega)
            go_enter Try.func35, Try.ntmps35
            go_wp2_with fail
            refine (rvalidBox_any s A n c E _ HS.out HN.out (HA.out.below (by go_grown))).mono ?_
            rintro q1 w1 ⟨rfl, hb⟩
            have x0 := kcb hb (b := w.heap.size) (o := 0) (v := .string s) (by first | assumption | (refine cellUp ?_; assumption) | go_cell)
            have x1 := kcb hb (b := w.heap.size) (o := 1) (v := .slice A n c) (by first | assumption | (refine cellUp ?_; assumption) | go_cell)
            have r0 := kcb hb (b := w.heap.size + 1) (o := 0) (v := .string ⟨#[]⟩) (by first | assumption | (refine cellUp ?_; assumption) | go_cell)
            have r1 := kcb hb (b := w.heap.size + 1) (o := 1) (v := .slice none 0 0) (by first | assumption | (refine cellUp ?_; assumption) | go_cell)
            have f0 := fzb hb (b := w.heap.size + 1) (o := 0) (by (try simp only [frozen?_alloc_cells, World.frozen?_setCell, World.frozen?_drew]); first | assumption | exact fz_new (by (try simp only [World.size_alloc, World.size_setCell, World.size_drew]); omega)) (by (try simp only [World.size_alloc, World.size_setCell, World.size_drew]); omega)
            have f1 := fzb hb (b := w.heap.size + 1) (o := 1) (by (try simp only [frozen?_alloc_cells, World.frozen?_setCell, World.frozen?_drew]); first | assumption | exact fz_new (by (try simp only [World.size_alloc, World.size_setCell, World.size_drew]); omega)) (by (try simp only [World.size_alloc, World.size_setCell, World.size_drew]); omega)
            have B1 : Bl w w1 := Below.trans (by go_grown) (hb.mono (by (try simp only [World.size_alloc, World.size_setCell, World.size_drew]); omega))
            have l1 := ltb r1
            have l1_1 := ltb x1
            have zz1 := B1.size
            clear hb
            rw [HV.out]
            go_wp2_with fail
            (try simp only [Exit.inBlock, Exit.then])
            refine bodyPost_ret (v := .tuple #[bxZ, .int .i64 7]) (by simp [results, Try.results35, go_sem, bxZ, r0, r1]) rfl ⟨Below.trans B1 (by go_grown), .inr (.inl ⟨HV.out, HK.out, rfl⟩)⟩
          · have h4' : q ≤ 1000000 := by omega
            clear h4
            have HOK := Lib.hid (show shOk p q = true from shOk_iff.2 ⟨⟨h1', h2'⟩, h3', h4'⟩)
            go_enter Try.func35, Try.ntmps35
            go_wp2_with fail
            refine (rvalidBox_any s A n c E _ HS.out HN.out (HA.out.below (by go_grown))).mono ?_
            rintro q1 w1 ⟨rfl, hb⟩
            have x0 := kcb hb (b := w.heap.size) (o := 0) (v := .string s) (by first | assumption | (refine cellUp ?_; assumption) | go_cell)
            have x1 := kcb hb (b := w.heap.size) (o := 1) (v := .slice A n c) (by first | assumption | (refine cellUp ?_; assumption) | go_cell)
            have r0 := kcb hb (b := w.heap.size + 1) (o := 0) (v := .string ⟨#[]⟩) (by first | assumption | (refine cellUp ?_; assumption) | go_cell)
            have r1 := kcb hb (b := w.heap.size + 1) (o := 1) (v := .slice none 0 0) (by first | assumption | (refine cellUp ?_; assumption) | go_cell)
            have f0 := fzb hb (b := w.heap.size + 1) (o := 0) (by (try simp only [frozen?_alloc_cells, World.frozen?_setCell, World.frozen?_drew]); first | assumption | exact fz_new (by (try simp only [World.size_alloc, World.size_setCell, World.size_drew]); omega)) (by (try simp only [World.size_alloc, World.size_setCell, World.size_drew]); omega)
            have f1 := fzb hb (b := w.heap.size + 1) (o := 1) (by (try simp only [frozen?_alloc_cells, World.frozen?_setCell, World.frozen?_drew]); first | assumption | exact fz_new (by (try simp only [World.size_alloc, World.size_setCell, World.size_drew]); omega)) (by (try simp only [World.size_alloc, World.size_setCell, World.size_drew]); omega)
            have B1 : Bl w w1 := Below.trans (by go_grown) (hb.mono (by (try simp only [World.size_alloc, World.size_setCell, World.size_drew]); omega))
            have l1 := ltb r1
            have l1_1 := ltb x1
            have zz1 := B1.size
            clear hb
            rw [HV.out]
            go_wp2_with fail
            obtain ⟨V, hV⟩ : ∃ V, V = w1.alloc (.cells #[.string s, .slice none 0 0] 24) := ⟨_, rfl⟩
            have BV0 : Bl w1 V := by rw [hV]; go_grown
            have y0 : V.cell? ⟨w1.heap.size, 0, none⟩ = some (.string s) := by rw [hV]; go_cell
            have y1 : V.cell? ⟨w1.heap.size, 1, none⟩ = some (.slice none 0 0) := by rw [hV]; go_cell
            have fy1 : V.frozen? ⟨w1.heap.size, 1, none⟩ = false := by rw [hV]; simp
            have BV : Bl w V := B1.tr BV0
            rw [← hV]
            clear hV
            have HX0 := Lib.hid (And.intro x0 (And.intro r0 (And.intro r1 (And.intro f0 f1))))
            have HY0 := Lib.hid y0
            have lr1 := ltb r0
            have NV : World.ownsRow V (w1.heap.size + 1) 3 1 (.slice none 0 0) 0 [] := World.ownsRow_nil _ _ _ _
            clear y0 x0 x1 r0 r1 f0 f1
            go_loopw [36] (fun i wr => ∃ (k : Nat) (v : Value), k ≤ n ∧ i = .int .i64 k ∧ Hid (wr.cell? ⟨w1.heap.size, 0, none⟩ = some (.string s)) ∧ Hid (wr.cell? ⟨w1.heap.size, 1, none⟩ = some v ∧ wr.frozen? ⟨w1.heap.size, 1, none⟩ = false) ∧ Hid (wr.ownsRow (w1.heap.size + 1) 3 1 v k (inC (shF E p q) k)) ∧ Bl w1 wr) (fun i _ => n - (RowKit.intOf i).toNat)
            case atStart => exact ⟨0, _, Nat.zero_le _, rfl, HY0, Lib.hid ⟨y1, fy1⟩, NV, BV0⟩
            case round =>
              clear y1 fy1
              obtain ⟨k, v, hk, rfl, HY, HYY, HO, hB⟩ := hrel
              have zB := hB.size
              have y0 := HY.out
              obtain ⟨y1, fy1⟩ := HYY.out
              have ly := ltb y0
              by_cases hlt : k < n
              · obtain ⟨b, off, rfl, hbb, hcc⟩ := (HA.out.below (B1.tr hB)) (by omega)
                have c0 := hcc k hlt
                clear hcc
                have eb := dyTo_at HE.out hlt
                obtain ⟨eb1, eb2⟩ := eb
                obtain ⟨P, hP⟩ : ∃ P, P = q * (k : Int) := ⟨_, rfl⟩
                have pb : -400000000 ≤ P ∧ P ≤ 400000000 := by rw [hP]; exact mulj_bd ⟨h3', h4'⟩ (by omega)
                obtain ⟨pb1, pb2⟩ := pb
                have m1 : IntKind.i64.wrap (q * (k : Int)) = P := by rw [IntWalk.i64_in _ (by omega), hP]
                have m2 : wrap64 (q * (k : Int)) = P := by rw [IntWalk.wrap64_in _ (by omega), hP]
                have HL := Lib.hid (show inC (shF E p q) (k + 1) = inC (shF E p q) k ++ [.int .i64 (E k + p + P)] by rw [inC, shF, ← hP, Int.add_assoc])
                have len := inC_len (shF E p q) k
                clear hP
                have hnew := Lib.hid (show (wr.alloc (.cells #[.int .i64 (E k + p + P)] 3)).heap[wr.heap.size]? = some (.cells #[.int .i64 (E k + p + P)] 3 (0, 0)) from heap_alloc_new wr _)
                go_wp2_with (at_builtin; refine wpList_append_lies _ rfl _ _ _ rfl (w1.heap.size + 1) 3 i0 _ 1 8 Try.underlying22 HI.out.1 HI.out.2.1 HI.out.2.2.1 HI.out.2.2.2 rfl (by omega) _ k (inC (shF E p q) k) rfl (HO.out.alloc _) ⟨wr.heap.size, 0, none⟩ 1 1 [.int .i64 (E k + p + P)] rfl rfl (World.news_of_block hnew.out) (by simp [Value.oneCell']) (by omega) (by unfold maxLen; omega) (by omega) (by (try simp only [World.size_alloc]); omega) _ rfl ?_; intro gg cap w9 hown1 hgrow hat hlt9; have hl := HO.out.lt; have X9 : Below (w1.heap.size + 1) wr w9 := Below.grown (w := wr.alloc (.cells #[.int .i64 (E k + p + P)] 3)) (by go_grown) hgrow (by (try simp only [World.size_alloc]); omega) (fun j hj => (hl j hj).1); have c9 := (X9.cell (p := ⟨w1.heap.size, 1, none⟩) (Nat.lt_succ_self _)).trans y1; have f9 := (X9.frozen (p := ⟨w1.heap.size, 1, none⟩) (Nat.lt_succ_self _)).trans fy1; have d9 := (X9.cell (p := ⟨w1.heap.size, 0, none⟩) (Nat.lt_succ_self _)).trans y0; have l9 := ltb d9; have z9 := X9.size)
                have HO9 := Lib.hid (own_set (b := w1.heap.size) (o := 1) (u := .slice (some ⟨gg, 0, none⟩) (k + 1) cap) (show w9.ownsRow (w1.heap.size + 1) 3 1 (.slice (some ⟨gg, 0, none⟩) (k + 1) cap) (k + 1) (inC (shF E p q) (k + 1)) by rw [HL.out]; exact hown1) (Nat.lt_succ_self _))
                go_roundw
                case rel => exact ⟨k + 1, _, by omega, by go_num, Lib.hid (by go_cell), Lib.hid ⟨by go_cell, by (try simp only [World.frozen?_setCell]); exact f9⟩, HO9, Below.setCell (Below.trans hB (X9.mono (by omega))) (p := ⟨w1.heap.size, 1, none⟩) (Nat.le_refl _) _⟩
                case measure => simp [RowKit.intOf]; omega
              · obtain rfl : n = k := by omega
                have hOO := HO.out
                obtain ⟨A', cap, rfl, k1, k2, hA'⟩ := sl_of_own hOO
                have HA' := Lib.hid hA'
                have K2 := Lib.hid k2
                have g0 : ∀ g, A' = some g → w1.heap.size + 1 ≤ g.block := fun g hg => by
                  subst hg
                  rcases hOO.2 with ⟨h', _⟩ | ⟨g', cap', cur, h', hb', _⟩
                  · simp at h'
                  · simp only [Value.slice.injEq, Option.some.injEq] at h'
                    rw [h'.1]; exact hb'
                have HG0 := Lib.hid g0
                clear hA' k2 hOO g0
                obtain ⟨x0, r0, r1, f0, f1⟩ := HX0.out
                have lf := ltb r0
                have f0 := fzb hB f0 lf
                have f1 := fzb hB f1 lf
                have x0 := kcb hB x0
                have r0 := kcb hB r0
                have r1 := kcb hB r1
                have lx := ltb x0
                have lrr := ltb r0
                have BR : Bl w wr := B1.tr hB
                have zR := BR.size
                go_wp2_with fail
                refine (rvalidBox_any s A' n cap (shF E p q) _ HS.out HN.out HA'.out).mono ?_
                rintro q4 w4 ⟨rfl, hb⟩
                have x0 := kcb hb (b := w.heap.size) (o := 0) (v := .string s) (by first | assumption | (refine cellUp ?_; assumption) | go_cell)
                have r0 := kcb hb (b := w.heap.size + 1) (o := 0) (v := .string ⟨#[]⟩) (by first | assumption | (refine cellUp ?_; assumption) | go_cell)
                have r1 := kcb hb (b := w.heap.size + 1) (o := 1) (v := .slice none 0 0) (by first | assumption | (refine cellUp ?_; assumption) | go_cell)
                have y0 := kcb hb (b := w1.heap.size) (o := 0) (v := .string s) (by first | assumption | (refine cellUp ?_; assumption) | go_cell)
                have y1 := kcb hb (b := w1.heap.size) (o := 1) (v := .slice A' n cap) (by first | assumption | (refine cellUp ?_; assumption) | go_cell)
                have f0 := fzb hb (b := w.heap.size + 1) (o := 0) (by (try simp only [frozen?_alloc_cells, World.frozen?_setCell, World.frozen?_drew]); first | assumption | exact fz_new (by (try simp only [World.size_alloc, World.size_setCell, World.size_drew]); omega)) (by (try simp only [World.size_alloc, World.size_setCell, World.size_drew]); omega)
                have f1 := fzb hb (b := w.heap.size + 1) (o := 1) (by (try simp only [frozen?_alloc_cells, World.frozen?_setCell, World.frozen?_drew]); first | assumption | exact fz_new (by (try simp only [World.size_alloc, World.size_setCell, World.size_drew]); omega)) (by (try simp only [World.size_alloc, World.size_setCell, World.size_drew]); omega)
                have B4 : Bl w w4 := BR.tr hb
                have l4 := ltb r0
                have l4' := ltb y0
                have z4 := B4.size
                have HA4 := Lib.hid (HA'.out.below hb)
                clear hb
                by_cases hv2 : vbB s n (shF E p q) = true
                · have HW := Lib.hid hv2
                  rw [HW.out]
                  clear hv2
                  go_wp2_with fail
                  (try simp only [Exit.inBlock, Exit.then])
                  refine bodyPost_ret (v := .tuple #[encB s A' n cap, .int .i64 0]) (by simp [results, Try.results35, go_sem, r0, r1]) rfl ⟨Below.trans B4 (by go_grown), .inr (.inr (.inr ⟨HV.out, HOK.out, HW.out, A', cap, rfl, k1, K2.out, ?_⟩))⟩
                  exact (HA4.out.setb (b := w.heap.size + 1) (fun g hg => by have := HG0.out g hg; omega)).setb (b := w.heap.size + 1) (fun g hg => by have := HG0.out g hg; omega)
                · have HW := Lib.hid (show vbB s n (shF E p q) = false by simpa using hv2)
                  rw [HW.out]
                  clear hv2
                  go_wp2_with fail
                  (try simp only [Exit.inBlock, Exit.then])
                  refine bodyPost_ret (v := .tuple #[bxZ, .int .i64 4]) (by simp [results, Try.results35, go_sem, bxZ, r0, r1]) rfl ⟨Below.trans B4 (by go_grown), .inr (.inr (.inl ⟨HV.out, HOK.out, HW.out, rfl⟩))⟩
end Go.Proofs.Ytflajochohbokaa
