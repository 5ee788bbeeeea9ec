/-
  Joined of the reference.
-/
import Derived.Test.YtalofhbmkllifaaQA
import Derived.Test.YtalofhbmkllifaaQC
import Derived.Deep.RegionLaw
import Derived.Deep.DeepCutAuto
namespace Go.Proofs.Ytalofhbmkllifaa
open Go.RowKit
set_option linter.unusedSimpArgs false
set_option linter.unusedVariables false

theorem fz_of_block {w w' : World} {b o : Nat} (h : w'.heap[b]? = w.heap[b]?) : w'.frozen? ⟨b, o, none⟩ = w.frozen? ⟨b, o, none⟩ := by simp [World.frozen?, h]

theorem ne_of_hat {v : Value} {gg H X b : Nat} (hat : v.ownBlock = some gg ∨ gg = H) (hv : v.ownBlock = some b) (h1 : X ≠ b) (h2 : X < H) : X ≠ gg := by
  rcases hat with h | h
  · rw [hv] at h
    have := Option.some.inj h
    omega
  · omega

/-- Behind the first append: the box of the joined errors, which are one's own. -/
def JR (w2 : World) (s : ByteArray) (n : Nat) (E : Nat → Int) (c : Value) (wx : World) : Prop :=
  ∃ bx g cap : Nat, c = .pointer (some ⟨bx, 0, none⟩) ∧ Bl w2 wx ∧ w2.heap.size ≤ bx ∧ bx ≠ g ∧ wx.cell? ⟨bx, 0, none⟩ = some (.string s) ∧ wx.cell? ⟨bx, 1, none⟩ = some (.slice (some ⟨g, 0, none⟩) n cap) ∧ wx.frozen? ⟨bx, 1, none⟩ = false ∧
    wx.ownsRow w2.heap.size 3 1 (.slice (some ⟨g, 0, none⟩) n cap) n (inC E n)
theorem JR.alloc {w2 w9 : World} {s : ByteArray} {n gg cap : Nat} {E : Nat → Int} (X9 : Bl w2 w9) (ho : w9.ownsRow w2.heap.size 3 1 (.slice (some ⟨gg, 0, none⟩) (0 + n) cap) (0 + n) ([] ++ inC E n)) (hlt : gg < w9.heap.size) :
    JR w2 s n E (.pointer (some ⟨w9.heap.size, 0, none⟩)) (w9.alloc (.cells #[.string s, .slice (some ⟨gg, 0, none⟩) n cap] 24)) := by
  rw [Nat.zero_add, List.nil_append] at ho
  exact ⟨_, gg, cap, rfl, X9.tr (by go_grown), X9.size, by omega, by go_cell, by go_cell, by simp, ho.alloc _⟩
theorem JR.set {w2 w9 : World} {s : ByteArray} {n gg cap X : Nat} {E : Nat → Int} {u v : Value} (X9 : Bl w2 w9) (ho : w9.ownsRow w2.heap.size 3 1 (.slice (some ⟨gg, 0, none⟩) (0 + n) cap) (0 + n) ([] ++ inC E n)) (hX : w2.heap.size ≤ X) (hne : X ≠ gg)
    (c0 : w9.cell? ⟨X, 0, none⟩ = some u) (c1 : w9.cell? ⟨X, 1, none⟩ = some v) (f1 : w9.frozen? ⟨X, 1, none⟩ = false) :
    JR w2 s n E (.pointer (some ⟨X, 0, none⟩)) ((w9.setCell ⟨X, 0, none⟩ (.string s)).setCell ⟨X, 1, none⟩ (.slice (some ⟨gg, 0, none⟩) n cap)) := by
  rw [Nat.zero_add, List.nil_append] at ho
  refine ⟨X, gg, cap, rfl, (Below.setCell X9 (p := ⟨X, 0, none⟩) hX _).setCell (p := ⟨X, 1, none⟩) hX _, hX, hne, by go_cell, by go_cell, by simpa using f1, ?_⟩
  refine (ho.kept (grown_set _ _ _ _) (.inr ?_)).kept (grown_set _ _ _ _) (.inr ?_)
  · simp [Value.ownBlock]; omega
  · simp [Value.ownBlock]; omega

theorem jn_rt {n k N : Nat} {E F : Nat → Int} (hN : N = n + k) (h1 : 1 ≤ n) : jnF n E F N = jnF n E F (N - 1) + rtF F 1 k := by
  subst hN
  rw [jn_hi, rtF, Nat.one_mul, Nat.one_mul]
  by_cases h0 : k = 0
  · subst h0
    rw [jnF, if_pos (by omega)]
    simp only [Nat.add_zero, Nat.zero_add]
    omega
  · obtain ⟨j, rfl⟩ : ∃ j, k = j + 1 := ⟨k - 1, by omega⟩
    rw [show n + (j + 1) - 1 = n + j by omega, jn_hi]
    omega
theorem jn_bd {n m j : Nat} {E F : Nat → Int} (hE : dyTo E n = true) (hF : dyTo F m = true) (h1 : 1 ≤ n) (hj : j < n + (m - 1)) (hm : 1 ≤ m) : -259200000 ≤ jnF n E F j ∧ jnF n E F j ≤ 259200000 := by
  have a := dyTo_at hE (show n - 1 < n by omega)
  have b := dyTo_at hF (show 0 < m by omega)
  unfold jnF
  split
  · have c := dyTo_at hE (k := j) (by assumption)
    omega
  · have c := dyTo_at hF (show j + 1 - n < m by omega)
    omega
theorem rates1n_any (s : ByteArray) (A : Option Addr) (n c : Nat) (E : Nat → Int) (w : World) (hA : Sl w A n E) (h1 : 2 ≤ n) (h4 : n ≤ 400) (hE : dyTo E n = true) :
    Calls Try.prog 17 #[encB s A n c, .int .i64 1] w fun e w' => Bl w w' ∧ ∃ h o1 c1, e = .returned (.slice (some ⟨h, o1, none⟩) (n - 1) c1) ∧ n - 1 ≤ c1 ∧ c1 ≤ maxLen ∧ w.heap.size ≤ h ∧ h < w'.heap.size ∧ ∀ j, j < n - 1 → w'.cell? ⟨h, o1 + j, none⟩ = some (.int .i64 (rtF E 1 j)) := by
  refine (rates_any s A n c 1 E w hA (by omega) h4 (.inl rfl) hE).mono ?_
  rintro e w1 ⟨hb, v, rfl, ho⟩
  rw [Nat.div_one] at ho
  obtain ⟨A1, c1, rfl, k1, k2, h⟩ := sl_of_own ho
  obtain ⟨h', o1, rfl, hlt, hc⟩ := h (by omega)
  refine ⟨hb, h', o1, c1, rfl, k1, k2, ?_, hlt, hc⟩
  rcases ho.2 with ⟨h9, _⟩ | ⟨g', cap', cur, h9, hb', _⟩
  · simp at h9
  · simp only [Value.slice.injEq, Option.some.injEq, Addr.mk.injEq] at h9
    rw [h9.1.1]; omega

/-- In the loop: the box bx of the joined errors, the rates in block h. -/
def JS (W : World) (B0 : Nat) (s : ByteArray) (N : Nat) (f : Nat → Int) (bx h : Nat) (wr : World) : Prop :=
  ∃ g cap : Nat, bx ≠ g ∧ h ≠ g ∧ wr.cell? ⟨bx, 0, none⟩ = some (.string s) ∧ wr.cell? ⟨bx, 1, none⟩ = some (.slice (some ⟨g, 0, none⟩) N cap) ∧ wr.frozen? ⟨bx, 1, none⟩ = false ∧
    wr.ownsRow B0 3 1 (.slice (some ⟨g, 0, none⟩) N cap) N (inC f N) ∧ Below B0 W wr ∧ wr.heap[h]? = W.heap[h]?
theorem js_mid {W wr w8 w9 : World} {B0 bx h N g cap gg : Nat} {s : ByteArray} {u : Value} (hne : bx ≠ g) (hng : h ≠ g) (c0 : wr.cell? ⟨bx, 0, none⟩ = some (.string s)) (c1 : wr.cell? ⟨bx, 1, none⟩ = some u) (f1 : wr.frozen? ⟨bx, 1, none⟩ = false)
    (hB : Below B0 W wr) (hh : wr.heap[h]? = W.heap[h]?) (hlh : h < wr.heap.size) (hb : Bl wr w8) (hz : w8.heap.size = wr.heap.size + 1) (hgrow : w8.grownBy w9 (Value.slice (some ⟨g, 0, none⟩) N cap).ownBlock) (hg : B0 ≤ g) (hat : (Value.slice (some ⟨g, 0, none⟩) N cap).ownBlock = some gg ∨ gg = wr.heap.size + 1) (hB0 : B0 ≤ wr.heap.size) :
    w9.cell? ⟨bx, 0, none⟩ = some (.string s) ∧ w9.cell? ⟨bx, 1, none⟩ = some u ∧ w9.frozen? ⟨bx, 1, none⟩ = false ∧ Below B0 W w9 ∧ w9.heap[h]? = W.heap[h]? ∧ bx ≠ gg ∧ h ≠ gg := by
  have l := ltb c0
  have kb := (hgrow.block bx (by omega) (by simp [Value.ownBlock]; omega)).trans (hb.block bx l)
  have kh := (hgrow.block h (by omega) (by simp [Value.ownBlock]; omega)).trans (hb.block h hlh)
  have e : gg = g ∨ gg = wr.heap.size + 1 := hat.imp (fun h => (Option.some.inj h).symm) id
  refine ⟨(World.cell?_of_block (a := ⟨bx, 0, none⟩) kb).trans c0, (World.cell?_of_block (a := ⟨bx, 1, none⟩) kb).trans c1, (fz_of_block kb).trans f1, Below.trans hB (Below.grown (hb.mono hB0) hgrow (by omega) (fun j hj => ?_)), kh.trans hh, by omega, by omega⟩
  have hj : g = j := Option.some.inj hj
  omega
theorem js_next {W w9 : World} {B0 bx h N gg cap9 : Nat} {s : ByteArray} {u z : Value} {f : Nat → Int} (c0 : w9.cell? ⟨bx, 0, none⟩ = some (.string s)) (c1 : w9.cell? ⟨bx, 1, none⟩ = some u) (f1 : w9.frozen? ⟨bx, 1, none⟩ = false)
    (hB : Below B0 W w9) (hh : w9.heap[h]? = W.heap[h]?) (hne : bx ≠ gg) (hng : h ≠ gg) (hX : B0 ≤ bx) (hhx : h ≠ bx) (ho : w9.ownsRow B0 3 1 (.slice (some ⟨gg, 0, none⟩) (N + 1) cap9) (N + 1) (inC f N ++ [z])) (hf : inC f (N + 1) = inC f N ++ [z]) :
    JS W B0 s (N + 1) f bx h (w9.setCell ⟨bx, 1, none⟩ (.slice (some ⟨gg, 0, none⟩) (N + 1) cap9)) := by
  rw [← hf] at ho
  refine ⟨gg, cap9, hne, hng, by go_cell, by go_cell, by simpa using f1, ho.kept (grown_set _ _ _ _) (.inr ?_), hB.setCell (p := ⟨bx, 1, none⟩) hX _, ?_⟩
  · simp [Value.ownBlock]; omega
  · rw [← hh]
    exact Below.heap_setCell w9 ⟨bx, 1, none⟩ _ h hhx

set_option maxRecDepth 100000 in
set_option maxHeartbeats 6400000 in
theorem rjoined_any (s : ByteArray) (A : Option Addr) (n c : Nat) (E : Nat → Int) (t : ByteArray) (B : Option Addr) (m d : Nat) (F : Nat → Int) (w : World) (hs : s.size ≤ maxLen) (hA : Sl w A n E) (hn : n ≤ c) (hc : c ≤ maxLen) (ht : t.size ≤ maxLen) (hB : Sl w B m F) (hm : m ≤ d) (hd : d ≤ maxLen) :
    Calls Try.prog 7 #[encB s A n c, encB t B m d] w (JnPost s n E t m F w) := by
  obtain ⟨i0, hi0, hz0, hz1, hz2⟩ := info_parts6 int_info
  have HI := Lib.hid (And.intro hi0 (And.intro hz0 (And.intro hz1 hz2)))
  clear hi0 hz0 hz1 hz2
  have HA := Lib.hid hA
  have HB := Lib.hid hB
  have HS := Lib.hid hs
  have HT := Lib.hid ht
  have HC := Lib.hid hc
  have HD := Lib.hid hd
  have HN := Lib.hid (show n ≤ maxLen by omega)
  have HM := Lib.hid (show m ≤ maxLen by omega)
  clear hA hs hB ht
  unfold maxLen at hc hd
  by_cases hv : vbB s n E = true
  rotate_left
  · have HV := Lib.hid (show vbB s n E = false by simpa using hv)
    clear hv
    go_enter Try.func7, Try.ntmps7
    go_wp2_with fail
    refine (rvalidBox_any s A n c E _ HS.out HN.out (HA.out.below (by go_grown))).mono ?_
    rintro q1 w1 ⟨rfl, hb⟩
    have x0 := kcb hb (b := w.heap.size) (o := 0) (v := .string s) (by first | assumption | (refine cellUp ?_; assumption) | go_cell)
    have x1 := kcb hb (b := w.heap.size) (o := 1) (v := .slice A n c) (by first | assumption | (refine cellUp ?_; assumption) | go_cell)
    have y0 := kcb hb (b := w.heap.size + 1) (o := 0) (v := .string t) (by first | assumption | (refine cellUp ?_; assumption) | go_cell)
    have y1 := kcb hb (b := w.heap.size + 1) (o := 1) (v := .slice B m d) (by first | assumption | (refine cellUp ?_; assumption) | go_cell)
    have r0 := kcb hb (b := w.heap.size + 1 + 1) (o := 0) (v := .string ⟨#[]⟩) (by first | assumption | (refine cellUp ?_; assumption) | go_cell)
    have r1 := kcb hb (b := w.heap.size + 1 + 1) (o := 1) (v := .slice none 0 0) (by first | assumption | (refine cellUp ?_; assumption) | go_cell)
    have f0 := fzb hb (b := w.heap.size + 1 + 1) (o := 0) (by (try simp only [frozen?_alloc_cells, World.frozen?_setCell, World.frozen?_drew]); first | assumption | exact fz_new (by (try simp only [World.size_alloc, World.size_setCell, World.size_drew]); omega)) (by (try simp only [World.size_alloc, World.size_setCell, World.size_drew]); omega)
    have f1 := fzb hb (b := w.heap.size + 1 + 1) (o := 1) (by (try simp only [frozen?_alloc_cells, World.frozen?_setCell, World.frozen?_drew]); first | assumption | exact fz_new (by (try simp only [World.size_alloc, World.size_setCell, World.size_drew]); omega)) (by (try simp only [World.size_alloc, World.size_setCell, World.size_drew]); omega)
    have B1 : Bl w w1 := Below.trans (by go_grown) (hb.mono (by (try simp only [World.size_alloc, World.size_setCell, World.size_drew]); omega))
    have l1 := ltb r1
    have l1_1 := ltb y1
    have l1_2 := ltb x1
    have zz1 := B1.size
    clear hb
    rw [HV.out]
    go_wp2_with fail
    (try simp only [Exit.inBlock, Exit.then])
    refine bodyPost_ret (v := .tuple #[bxZ, .int .i64 1]) (by simp [results, Try.results7, go_sem, bxZ, r0, r1]) rfl ⟨Below.trans B1 (by go_grown), .inl ⟨by rw [HV.out]; rfl, rfl⟩⟩
  · have HV := Lib.hid hv
    obtain ⟨_, n2, n4, hE⟩ := vbB_iff.1 hv
    have HE := Lib.hid hE
    clear hv hE
    obtain ⟨a, oa, rfl, hba, hca⟩ := HA.out (by omega)
    clear hca
    by_cases hv : vbB t m F = true
    rotate_left
    · have HW := Lib.hid (show vbB t m F = false by simpa using hv)
      clear hv
      go_enter Try.func7, Try.ntmps7
      go_wp2_with fail
      refine (rvalidBox_any s (some ⟨a, oa, none⟩) n c E _ HS.out HN.out (HA.out.below (by go_grown))).mono ?_
      rintro q1 w1 ⟨rfl, hb⟩
      have x0 := kcb hb (b := w.heap.size) (o := 0) (v := .string s) (by first | assumption | (refine cellUp ?_; assumption) | go_cell)
      have x1 := kcb hb (b := w.heap.size) (o := 1) (v := .slice (some ⟨a, oa, none⟩) n c) (by first | assumption | (refine cellUp ?_; assumption) | go_cell)
      have y0 := kcb hb (b := w.heap.size + 1) (o := 0) (v := .string t) (by first | assumption | (refine cellUp ?_; assumption) | go_cell)
      have y1 := kcb hb (b := w.heap.size + 1) (o := 1) (v := .slice B m d) (by first | assumption | (refine cellUp ?_; assumption) | go_cell)
      have r0 := kcb hb (b := w.heap.size + 1 + 1) (o := 0) (v := .string ⟨#[]⟩) (by first | assumption | (refine cellUp ?_; assumption) | go_cell)
      have r1 := kcb hb (b := w.heap.size + 1 + 1) (o := 1) (v := .slice none 0 0) (by first | assumption | (refine cellUp ?_; assumption) | go_cell)
      have f0 := fzb hb (b := w.heap.size + 1 + 1) (o := 0) (by (try simp only [frozen?_alloc_cells, World.frozen?_setCell, World.frozen?_drew]); first | assumption | exact fz_new (by (try simp only [World.size_alloc, World.size_setCell, World.size_drew]); omega)) (by (try simp only [World.size_alloc, World.size_setCell, World.size_drew]); omega)
      have f1 := fzb hb (b := w.heap.size + 1 + 1) (o := 1) (by (try simp only [frozen?_alloc_cells, World.frozen?_setCell, World.frozen?_drew]); first | assumption | exact fz_new (by (try simp only [World.size_alloc, World.size_setCell, World.size_drew]); omega)) (by (try simp only [World.size_alloc, World.size_setCell, World.size_drew]); omega)
      have B1 : Bl w w1 := Below.trans (by go_grown) (hb.mono (by (try simp only [World.size_alloc, World.size_setCell, World.size_drew]); omega))
      have l1 := ltb r1
      have l1_1 := ltb y1
      have l1_2 := ltb x1
      have zz1 := B1.size
      clear hb
      rw [HV.out]
      go_wp2_with fail
      refine (rvalidBox_any t B m d F _ HT.out HM.out (HB.out.below (by exact B1))).mono ?_
      rintro q2 w2 ⟨rfl, hb⟩
      have x0 := kcb hb (b := w.heap.size) (o := 0) (v := .string s) (by first | assumption | (refine cellUp ?_; assumption) | go_cell)
      have x1 := kcb hb (b := w.heap.size) (o := 1) (v := .slice (some ⟨a, oa, none⟩) n c) (by first | assumption | (refine cellUp ?_; assumption) | go_cell)
      have y0 := kcb hb (b := w.heap.size + 1) (o := 0) (v := .string t) (by first | assumption | (refine cellUp ?_; assumption) | go_cell)
      have y1 := kcb hb (b := w.heap.size + 1) (o := 1) (v := .slice B m d) (by first | assumption | (refine cellUp ?_; assumption) | go_cell)
      have r0 := kcb hb (b := w.heap.size + 1 + 1) (o := 0) (v := .string ⟨#[]⟩) (by first | assumption | (refine cellUp ?_; assumption) | go_cell)
      have r1 := kcb hb (b := w.heap.size + 1 + 1) (o := 1) (v := .slice none 0 0) (by first | assumption | (refine cellUp ?_; assumption) | go_cell)
      have f0 := fzb hb (b := w.heap.size + 1 + 1) (o := 0) (by (try simp only [frozen?_alloc_cells, World.frozen?_setCell, World.frozen?_drew]); first | assumption | exact fz_new (by (try simp only [World.size_alloc, World.size_setCell, World.size_drew]); omega)) (by (try simp only [World.size_alloc, World.size_setCell, World.size_drew]); omega)
      have f1 := fzb hb (b := w.heap.size + 1 + 1) (o := 1) (by (try simp only [frozen?_alloc_cells, World.frozen?_setCell, World.frozen?_drew]); first | assumption | exact fz_new (by (try simp only [World.size_alloc, World.size_setCell, World.size_drew]); omega)) (by (try simp only [World.size_alloc, World.size_setCell, World.size_drew]); omega)
      have B2 : Bl w w2 := Below.trans (by go_grown) (hb.mono (by (try simp only [World.size_alloc, World.size_setCell, World.size_drew]); omega))
      have l2 := ltb r1
      have l2_1 := ltb y1
      have l2_2 := ltb x1
      have zz2 := B2.size
      clear hb
      rw [HW.out]
      go_wp2_with fail
      (try simp only [Exit.inBlock, Exit.then])
      refine bodyPost_ret (v := .tuple #[bxZ, .int .i64 1]) (by simp [results, Try.results7, go_sem, bxZ, r0, r1]) rfl ⟨Below.trans B2 (by go_grown), .inl ⟨by rw [HW.out, Bool.and_false], rfl⟩⟩
    · have HW := Lib.hid hv
      obtain ⟨_, m2, m4, hF⟩ := vbB_iff.1 hv
      have HF := Lib.hid hF
      clear hv hF
      go_enter Try.func7, Try.ntmps7
      go_wp2_with fail
      refine (rvalidBox_any s (some ⟨a, oa, none⟩) n c E _ HS.out HN.out (HA.out.below (by go_grown))).mono ?_
      rintro q1 w1 ⟨rfl, hb⟩
      have x0 := kcb hb (b := w.heap.size) (o := 0) (v := .string s) (by first | assumption | (refine cellUp ?_; assumption) | go_cell)
      have x1 := kcb hb (b := w.heap.size) (o := 1) (v := .slice (some ⟨a, oa, none⟩) n c) (by first | assumption | (refine cellUp ?_; assumption) | go_cell)
      have y0 := kcb hb (b := w.heap.size + 1) (o := 0) (v := .string t) (by first | assumption | (refine cellUp ?_; assumption) | go_cell)
      have y1 := kcb hb (b := w.heap.size + 1) (o := 1) (v := .slice B m d) (by first | assumption | (refine cellUp ?_; assumption) | go_cell)
      have r0 := kcb hb (b := w.heap.size + 1 + 1) (o := 0) (v := .string ⟨#[]⟩) (by first | assumption | (refine cellUp ?_; assumption) | go_cell)
      have r1 := kcb hb (b := w.heap.size + 1 + 1) (o := 1) (v := .slice none 0 0) (by first | assumption | (refine cellUp ?_; assumption) | go_cell)
      have f0 := fzb hb (b := w.heap.size + 1 + 1) (o := 0) (by (try simp only [frozen?_alloc_cells, World.frozen?_setCell, World.frozen?_drew]); first | assumption | exact fz_new (by (try simp only [World.size_alloc, World.size_setCell, World.size_drew]); omega)) (by (try simp only [World.size_alloc, World.size_setCell, World.size_drew]); omega)
      have f1 := fzb hb (b := w.heap.size + 1 + 1) (o := 1) (by (try simp only [frozen?_alloc_cells, World.frozen?_setCell, World.frozen?_drew]); first | assumption | exact fz_new (by (try simp only [World.size_alloc, World.size_setCell, World.size_drew]); omega)) (by (try simp only [World.size_alloc, World.size_setCell, World.size_drew]); omega)
      have B1 : Bl w w1 := Below.trans (by go_grown) (hb.mono (by (try simp only [World.size_alloc, World.size_setCell, World.size_drew]); omega))
      have l1 := ltb r1
      have l1_1 := ltb y1
      have l1_2 := ltb x1
      have zz1 := B1.size
      clear hb
      rw [HV.out]
      go_wp2_with fail
      refine (rvalidBox_any t B m d F _ HT.out HM.out (HB.out.below (by exact B1))).mono ?_
      rintro q2 w2 ⟨rfl, hb⟩
      have x0 := kcb hb (b := w.heap.size) (o := 0) (v := .string s) (by first | assumption | (refine cellUp ?_; assumption) | go_cell)
      have x1 := kcb hb (b := w.heap.size) (o := 1) (v := .slice (some ⟨a, oa, none⟩) n c) (by first | assumption | (refine cellUp ?_; assumption) | go_cell)
      have y0 := kcb hb (b := w.heap.size + 1) (o := 0) (v := .string t) (by first | assumption | (refine cellUp ?_; assumption) | go_cell)
      have y1 := kcb hb (b := w.heap.size + 1) (o := 1) (v := .slice B m d) (by first | assumption | (refine cellUp ?_; assumption) | go_cell)
      have r0 := kcb hb (b := w.heap.size + 1 + 1) (o := 0) (v := .string ⟨#[]⟩) (by first | assumption | (refine cellUp ?_; assumption) | go_cell)
      have r1 := kcb hb (b := w.heap.size + 1 + 1) (o := 1) (v := .slice none 0 0) (by first | assumption | (refine cellUp ?_; assumption) | go_cell)
      have f0 := fzb hb (b := w.heap.size + 1 + 1) (o := 0) (by (try simp only [frozen?_alloc_cells, World.frozen?_setCell, World.frozen?_drew]); first | assumption | exact fz_new (by (try simp only [World.size_alloc, World.size_setCell, World.size_drew]); omega)) (by (try simp only [World.size_alloc, World.size_setCell, World.size_drew]); omega)
      have f1 := fzb hb (b := w.heap.size + 1 + 1) (o := 1) (by (try simp only [frozen?_alloc_cells, World.frozen?_setCell, World.frozen?_drew]); first | assumption | exact fz_new (by (try simp only [World.size_alloc, World.size_setCell, World.size_drew]); omega)) (by (try simp only [World.size_alloc, World.size_setCell, World.size_drew]); omega)
      have B2 : Bl w w2 := Below.trans (by go_grown) (hb.mono (by (try simp only [World.size_alloc, World.size_setCell, World.size_drew]); omega))
      have l2 := ltb r1
      have l2_1 := ltb y1
      have l2_2 := ltb x1
      have zz2 := B2.size
      clear hb
      rw [HW.out]
      go_wp2_with fail
      have HSA := Lib.hid (HA.out.below (by exact B2))
      have HO1 := Lib.hid (World.ownsRow_lit (base := w2.heap.size) (size := 1) (e := 3) w2 #[] 0 (Nat.le_refl _) (by decide) rfl)
      have HO3 := Lib.hid (fun (x : Obj) => (show ((w2.alloc x).alloc (.cells #[] 3)).ownsRow w2.heap.size 3 1 (.slice (some ⟨w2.heap.size + 1, 0, none⟩) 0 0) 0 [] by
        have h := World.ownsRow_lit (base := w2.heap.size) (size := 1) (e := 3) (w2.alloc x) #[] 0 (by simp) (by decide) rfl
        rw [World.size_alloc] at h
        exact h))
      go_cut [6] (fun cv wx => JR w2 s n E cv wx)
      case first =>
        go_region_law (first | (refine step_append_lies _ (by rfl) _ _ _ (by rfl) w2.heap.size 3 i0 _ 1 8 Try.underlying22 HI.out.1 HI.out.2.1 HI.out.2.2.1 HI.out.2.2.2 rfl (by omega) _ 0 _ (by rfl) (HO1.out.drew) ⟨a, oa, none⟩ n c (inC E n) (by rfl) (by rw [inC_len, Nat.mul_one]) (in_news (HSA.out.below (by go_grown))) (inC_one E n) (by omega) (by unfold maxLen; omega) (by omega) (by (try simp only [World.size_alloc, World.size_drew]) <;> omega) (w2.heap.size + 1) (by simp) ?_; intro gg cap w9 hown1 hgrow hat hlt9; have X9 : Bl w2 w9 := Below.grown (by go_grown) hgrow (by (try simp only [World.size_alloc, World.size_drew]) <;> omega) (fun j hj => by first | (have hj : w2.heap.size = j := Option.some.inj hj; omega) | (have hj : w2.heap.size + 1 = j := Option.some.inj hj; omega)); have x0 := kcb X9 x0; have lx9 := ltb x0) | (refine step_append_lies _ (by rfl) _ _ _ (by rfl) w2.heap.size 3 i0 _ 1 8 Try.underlying22 HI.out.1 HI.out.2.1 HI.out.2.2.1 HI.out.2.2.2 rfl (by omega) _ 0 _ (by rfl) ((HO1.out.alloc _).drew) ⟨a, oa, none⟩ n c (inC E n) (by rfl) (by rw [inC_len, Nat.mul_one]) (in_news (HSA.out.below (by go_grown))) (inC_one E n) (by omega) (by unfold maxLen; omega) (by omega) (by (try simp only [World.size_alloc, World.size_drew]) <;> omega) (w2.heap.size + 1 + 1) (by simp) ?_; intro gg cap w9 hown1 hgrow hat hlt9; have X9 : Bl w2 w9 := Below.grown (by go_grown) hgrow (by (try simp only [World.size_alloc, World.size_drew]) <;> omega) (fun j hj => by first | (have hj : w2.heap.size = j := Option.some.inj hj; omega) | (have hj : w2.heap.size + 1 = j := Option.some.inj hj; omega)); have x0 := kcb X9 x0; have lx9 := ltb x0; have hblk := hgrow.block (w2.heap.size + 1) (by (try simp only [World.size_alloc, World.size_drew]) <;> omega) (by simp [Value.ownBlock] <;> omega); have cX0 := (World.cell?_of_block (a := ⟨w2.heap.size + 1, 0, none⟩) hblk).trans (show _ = some (.string ⟨#[]⟩) by go_cell); have cX1 := (World.cell?_of_block (a := ⟨w2.heap.size + 1, 1, none⟩) hblk).trans (show _ = some (.slice none 0 0) by go_cell); have fX0 := (World.frozen?_of_block (a := ⟨w2.heap.size + 1, 0, none⟩) hblk).trans (show _ = false by simp); have fX1 := (World.frozen?_of_block (a := ⟨w2.heap.size + 1, 1, none⟩) hblk).trans (show _ = false by simp); have lX := ltb cX0; have hle9 : w2.heap.size ≤ w2.heap.size + 1 := (by omega); have hne9 := Lib.hid (ne_of_hat (X := w2.heap.size + 1) (b := w2.heap.size) hat rfl (by omega) (by omega))) | (refine step_append_lies _ (by rfl) _ _ _ (by rfl) w2.heap.size 3 i0 _ 1 8 Try.underlying22 HI.out.1 HI.out.2.1 HI.out.2.2.1 HI.out.2.2.2 rfl (by omega) _ 0 _ (by rfl) ((HO3.out _).drew) ⟨a, oa, none⟩ n c (inC E n) (by rfl) (by rw [inC_len, Nat.mul_one]) (in_news (HSA.out.below (by go_grown))) (inC_one E n) (by omega) (by unfold maxLen; omega) (by omega) (by (try simp only [World.size_alloc, World.size_drew]) <;> omega) (w2.heap.size + 1 + 1) (by simp) ?_; intro gg cap w9 hown1 hgrow hat hlt9; have X9 : Bl w2 w9 := Below.grown (by go_grown) hgrow (by (try simp only [World.size_alloc, World.size_drew]) <;> omega) (fun j hj => by first | (have hj : w2.heap.size = j := Option.some.inj hj; omega) | (have hj : w2.heap.size + 1 = j := Option.some.inj hj; omega)); have x0 := kcb X9 x0; have lx9 := ltb x0; have hblk := hgrow.block (w2.heap.size) (by (try simp only [World.size_alloc, World.size_drew]) <;> omega) (by simp [Value.ownBlock] <;> omega); have cX0 := (World.cell?_of_block (a := ⟨w2.heap.size, 0, none⟩) hblk).trans (show _ = some (.string ⟨#[]⟩) by go_cell); have cX1 := (World.cell?_of_block (a := ⟨w2.heap.size, 1, none⟩) hblk).trans (show _ = some (.slice none 0 0) by go_cell); have fX0 := (World.frozen?_of_block (a := ⟨w2.heap.size, 0, none⟩) hblk).trans (show _ = false by simp); have fX1 := (World.frozen?_of_block (a := ⟨w2.heap.size, 1, none⟩) hblk).trans (show _ = false by simp); have lX := ltb cX0; have hle9 : w2.heap.size ≤ w2.heap.size := (by omega); have hne9 := Lib.hid (ne_of_hat (X := w2.heap.size) (b := w2.heap.size + 1) hat rfl (by omega) (by omega))))
        all_goals
          go_wp2_with fail
          go_meet
          first
          | exact JR.alloc X9 hown1 hlt9
          | exact JR.set X9 hown1 hle9 hne9.out cX0 cX1 fX1
      case rest =>
        obtain ⟨bx, g, cap, rfl, Bc, hbx, hne, c0, c1, f1x, hown⟩ := hcut
        have y0 := kcb Bc y0
        have y1 := kcb Bc y1
        have r0 := kcb Bc r0
        have r1 := kcb Bc r1
        have f0 := fzb Bc f0 l2
        have f1 := fzb Bc f1 l2
        have lbx := ltb c0
        have zc := Bc.size
        have hgl := own_cap6 hown
        have HG2 := Lib.hid hgl.2.1
        have hgl := hgl.2.2.2
        have HBC := Lib.hid (HB.out.below (by exact B2.tr Bc))
        have HOW := Lib.hid hown
        clear hown
        go_wp2_with fail
        refine (rates1n_any t B m d F _ HBC.out m2 m4 HF.out).mono ?_
        rintro q3 w3 ⟨hb, h, o1, cq, rfl, k1, k2, hh1, hh2, hcc⟩
        have y0 := kcb hb y0
        have c0 := kcb hb c0
        have c1 := kcb hb c1
        have r0 := kcb hb r0
        have r1 := kcb hb r1
        have f0 := fzb hb f0 (by omega)
        have f1 := fzb hb f1 (by omega)
        have f1x := fzb hb f1x lbx
        have B3 := (B2.tr Bc).tr hb
        have HO3 := Lib.hid (own_b6 HOW.out hb)
        have z3 := hb.size
        obtain ⟨M, hM⟩ : ∃ M, M = m - 1 := ⟨_, rfl⟩
        have m1 : M ≤ 399 := by omega
        rw [← hM] at k1 hcc
        rw [← hM]
        have HMM := Lib.hid hM
        have HCC := Lib.hid hcc
        have HBX := Lib.hid (And.intro r0 (And.intro r1 (And.intro f0 f1)))
        have HJ := Lib.hid (show JS w3 w2.heap.size s n (jnF n E F) bx h w3 from ⟨g, cap, hne, by omega, c0, c1, f1x, by rw [jn_lo]; exact HO3.out, Below.refl _ _, rfl⟩)
        clear hb hM hcc r0 r1 f0 f1 c0 c1 f1x y0 y1 k2
        go_wp2_with fail
        go_loopw [28] (fun i wr => ∃ k : Nat, k ≤ M ∧ i = .int .i64 k ∧ Hid (JS w3 w2.heap.size s (n + k) (jnF n E F) bx h wr)) (fun i _ => M - (RowKit.intOf i).toNat)
        case atStart => exact ⟨0, by omega, rfl, HJ⟩
        case round =>
          obtain ⟨k, hk, rfl, HK⟩ := hrel
          obtain ⟨g9, cap0, hne, hng, c0, c1, f1x, hown, hB, hh⟩ := HK.out
          obtain ⟨N, hN⟩ : ∃ N, N = n + k := ⟨_, rfl⟩
          rw [← hN] at c1 hown
          have zB := hB.size
          obtain ⟨k3, k4, k5, k6⟩ := own_cap6 hown
          have hN1 : 2 ≤ N := by omega
          have hN2 : N ≤ 799 := by omega
          have hN3 : N - 1 < n + (m - 1) ∨ ¬ k < M := by have := HMM.out; omega
          have HHN := Lib.hid hN
          clear hN
          by_cases hlt : k < M
          · have cx : wr.cell? ⟨h, o1 + k, none⟩ = some (.int .i64 (rtF F 1 k)) := (World.cell?_of_block (a := ⟨h, o1 + k, none⟩) hh).trans (HCC.out k hlt)
            have xb := rt_bd (.inl rfl) HF.out (show k < (m - 1) / 1 by have := HMM.out; omega)
            have ub := jn_bd HE.out HF.out (show 1 ≤ n by omega) (show N - 1 < n + (m - 1) by omega) (by omega)
            have cg := hown.cellAt (N - 1) (by omega)
            rw [inC_at _ (show N - 1 < N by omega)] at cg
            have HV9 := Lib.hid (show inC (jnF n E F) (N + 1) = inC (jnF n E F) N ++ [.int .i64 (jnF n E F (N - 1) + rtF F 1 k)] by rw [inC, jn_rt HHN.out (by omega)])
            obtain ⟨x, hx⟩ : ∃ x, x = rtF F 1 k := ⟨_, rfl⟩
            obtain ⟨u, hu⟩ : ∃ u, u = jnF n E F (N - 1) := ⟨_, rfl⟩
            rw [← hx] at cx xb HV9
            rw [← hu] at cg ub HV9
            obtain ⟨xb1, xb2⟩ := xb
            obtain ⟨ub1, ub2⟩ := ub
            have HOK := Lib.hid hown
            have lbr := ltb c0
            have lhr := ltb cx
            have len := inC_len (jnF n E F) N
            have tN : ((N : Int) - 1).toNat = N - 1 := by omega
            have n1 : (1 : Int) ≤ (N : Int) := by omega
            have n1' : (N : Int) - 1 < (N : Int) := by omega
            have eN : IntKind.i64.wrap ((N : Int) - 1) = (N : Int) - 1 := IntWalk.i64_in _ (by omega)
            have eX : IntKind.i64.wrap (u + x) = u + x := IntWalk.i64_in _ (by omega)
            have HK4 := Lib.hid k4
            clear hx hu hown k4
            go_wp2_with fail
            go_region_law (first | (refine step_append_lies _ (by rfl) _ _ _ (by rfl) w2.heap.size 3 i0 _ 1 8 Try.underlying22 HI.out.1 HI.out.2.1 HI.out.2.2.1 HI.out.2.2.2 rfl (by omega) _ N (inC (jnF n E F) N) (by rfl) ((HOK.out.alloc _).drew) ⟨wr.heap.size, 0, none⟩ 1 1 [.int .i64 (u + x)] (by rfl) (by rfl) (World.news_of_block (cs := #[.int .i64 (u + x)]) (t := 3) (fr := (0, 0)) (heap_alloc_new wr _)) (by simp [Value.oneCell']) (by omega) (by unfold maxLen; omega) (by omega) (by simp; omega) (wr.heap.size + 1) (by simp) ?_; intro gg cap9 w9 hown1 hgrow hat hlt9; obtain ⟨d0, d1, dz, dB, dh, dne, dng⟩ := js_mid hne hng c0 c1 f1x hB hh lhr (by go_grown) (by simp) hgrow k5 hat (by omega)))
            all_goals
              go_wp2_with fail
              go_roundw
              case rel => exact ⟨k + 1, by omega, by go_num, Lib.hid (by rw [show n + (k + 1) = N + 1 by have := HHN.out; omega]; exact js_next d0 d1 dz dB dh dne dng hbx (by omega) hown1 HV9.out)⟩
              case measure => simp [RowKit.intOf]; omega
          · obtain rfl : M = k := by omega
            obtain ⟨A', cap', hA', k7, k8, hSl⟩ := sl_of_own hown
            have hA' := hA'
            simp only [Value.slice.injEq] at hA'
            obtain ⟨hA1, _, hA2⟩ := hA'
            subst hA1 hA2
            have HSl := Lib.hid hSl
            have HK8 := Lib.hid k8
            have HK7 := Lib.hid k7
            have HN9 := Lib.hid (show N ≤ maxLen by unfold maxLen; omega)
            obtain ⟨r0, r1, f0, f1⟩ := HBX.out
            have r0 := (hB.cell (p := ⟨w.heap.size + 1 + 1, 0, none⟩) (show w.heap.size + 1 + 1 < w2.heap.size by omega)).trans r0
            have r1 := (hB.cell (p := ⟨w.heap.size + 1 + 1, 1, none⟩) (show w.heap.size + 1 + 1 < w2.heap.size by omega)).trans r1
            have f0 := (hB.frozen (p := ⟨w.heap.size + 1 + 1, 0, none⟩) (show w.heap.size + 1 + 1 < w2.heap.size by omega)).trans f0
            have f1 := (hB.frozen (p := ⟨w.heap.size + 1 + 1, 1, none⟩) (show w.heap.size + 1 + 1 < w2.heap.size by omega)).trans f1
            have lrr := ltb r0
            have BR : Bl w wr := Below.trans B3 (hB.mono (by omega))
            clear hown hSl k7 k8
            go_wp2_with fail
            refine (rvalidBox_any s (some ⟨g9, 0, none⟩) N cap0 (jnF n E F) _ HS.out HN9.out HSl.out).mono ?_
            rintro q4 w4 ⟨rfl, hb⟩
            have c0 := kcb hb c0
            have c1 := kcb hb c1
            have r0 := kcb hb r0
            have r1 := kcb hb r1
            have f0 := fzb hb f0 lrr
            have f1 := fzb hb f1 lrr
            have l4 := ltb r0
            have B4 : Bl w w4 := BR.tr hb
            have HA4 := Lib.hid (HSl.out.below hb)
            clear hb
            by_cases hv2 : vbB s N (jnF n E F) = true
            · have HX := Lib.hid hv2
              rw [hv2]
              clear hv2
              go_wp2_with fail
              (try simp only [Exit.inBlock, Exit.then])
              refine bodyPost_ret (v := .tuple #[encB s (some ⟨g9, 0, none⟩) N cap0, .int .i64 0]) (by simp [results, Try.results7, go_sem, r0, r1]) rfl ⟨Below.trans B4 (by go_grown), .inr (.inr ⟨⟨HV.out, HW.out⟩, by rw [← HMM.out, ← HHN.out]; exact HX.out, some ⟨g9, 0, none⟩, cap0, by rw [← HMM.out, ← HHN.out], by rw [← HMM.out, ← HHN.out]; exact HK7.out, HK8.out, ?_⟩)⟩
              rw [← HMM.out, ← HHN.out]
              exact (HA4.out.setb (b := w.heap.size + 1 + 1) (fun g hg => by cases hg; show (w.heap.size + 1 + 1 : Nat) ≠ g9; omega)).setb (b := w.heap.size + 1 + 1) (fun g hg => by cases hg; show (w.heap.size + 1 + 1 : Nat) ≠ g9; omega)
            · have HX := Lib.hid (show vbB s N (jnF n E F) = false by simpa using hv2)
              rw [show vbB s N (jnF n E F) = false by simpa using hv2]
              clear hv2
              go_wp2_with fail
              (try simp only [Exit.inBlock, Exit.then])
              refine bodyPost_ret (v := .tuple #[bxZ, .int .i64 4]) (by simp [results, Try.results7, go_sem, bxZ, r0, r1]) rfl ⟨Below.trans B4 (by go_grown), .inr (.inl ⟨⟨HV.out, HW.out⟩, by rw [← HMM.out, ← HHN.out]; exact HX.out, rfl⟩)⟩
end Go.Proofs.Ytalofhbmkllifaa
