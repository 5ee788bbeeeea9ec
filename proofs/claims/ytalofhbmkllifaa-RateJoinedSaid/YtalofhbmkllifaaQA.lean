/-
  Joined of package rate.
-/
import Derived.Test.YtalofhbmkllifaaRP
namespace Go.Proofs.Ytalofhbmkllifaa
open Go.RowKit
set_option linter.unusedSimpArgs false
set_option linter.unusedVariables false

/-- The errors of two boxes joined. -/
def jnF (n : Nat) (E F : Nat → Int) (j : Nat) : Int := if j < n then E j else F (j + 1 - n) + (E (n - 1) - F 0)
theorem jn_lo (n : Nat) (E F : Nat → Int) : inC (jnF n E F) n = inC E n := inC_congr fun j hj => by rw [jnF, if_pos hj]
theorem jn_hi (n : Nat) (E F : Nat → Int) (i : Nat) : jnF n E F (n + i) = F (i + 1) + (E (n - 1) - F 0) := by rw [jnF, if_neg (by omega), show n + i + 1 - n = i + 1 by omega]
theorem jn_step (n : Nat) (E F : Nat → Int) (i : Nat) : inC (jnF n E F) (n + i + 1) = inC (jnF n E F) (n + i) ++ [.int .i64 (F (i + 1) + (E (n - 1) - F 0))] := by rw [inC, jn_hi]
theorem Bl.dn6 (w : World) (n : Nat) : Bl w (w.drewN n) := ⟨rfl, rfl, rfl, Nat.le_refl _, fun _ _ => rfl⟩
/-- What Joined returns. -/
def JnPost (s : ByteArray) (n : Nat) (E : Nat → Int) (t : ByteArray) (m : Nat) (F : Nat → Int) (w : World) (e : Ending) (w' : World) : Prop :=
  Bl w w' ∧ (((vbB s n E && vbB t m F) = false ∧ e = .returned (.tuple #[bxZ, .int .i64 1])) ∨
    ((vbB s n E = true ∧ vbB t m F = true) ∧ vbB s (n + (m - 1)) (jnF n E F) = false ∧ e = .returned (.tuple #[bxZ, .int .i64 4])) ∨
    ((vbB s n E = true ∧ vbB t m F = true) ∧ vbB s (n + (m - 1)) (jnF n E F) = true ∧ ∃ A cap, e = .returned (.tuple #[encB s A (n + (m - 1)) cap, .int .i64 0]) ∧ n + (m - 1) ≤ cap ∧ cap ≤ maxLen ∧ Sl w' A (n + (m - 1)) (jnF n E F)))

set_option maxRecDepth 100000 in
set_option maxHeartbeats 3200000 in
theorem joined_any (s : ByteArray) (A : Option Addr) (n c : Nat) (E : Nat → Int) (t : ByteArray) (B : Option Addr) (m d : Nat) (F : Nat → Int) (w : World) (hs : s.size ≤ maxLen) (hA : Sl w A n E) (hn : n ≤ c) (hc : c ≤ maxLen) (ht : t.size ≤ maxLen) (hB : Sl w B m F) (hm : m ≤ d) (hd : d ≤ maxLen) :
    Calls Try.prog 6 #[encB s A n c, encB t B m d] w (JnPost s n E t m F w) := by
  obtain ⟨i0, hi0, hz0, hz1, hz2⟩ := info_parts6 int_info
  have HI := Lib.hid (And.intro hi0 (And.intro hz0 (And.intro hz1 hz2)))
  clear hi0 hz0 hz1 hz2
  have HA := Lib.hid hA
  have HB := Lib.hid hB
  have HS := Lib.hid hs
  have HT := Lib.hid ht
  have HC := Lib.hid hc
  have HD := Lib.hid hd
  have HN := Lib.hid (show n ≤ maxLen by omega)
  have HM := Lib.hid (show m ≤ maxLen by omega)
  clear hA hs hB ht
  unfold maxLen at hc hd
  by_cases hv : vbB s n E = true
  rotate_left
  · have HV := Lib.hid (show vbB s n E = false by simpa using hv)
    clear hv
    go_enter Try.func6, Try.ntmps6
    go_wp2_with fail
    refine (validBox_any s A n c E _ HS.out HN.out (HA.out.below (by go_grown))).mono ?_
    rintro q1 w1 ⟨rfl, hb⟩
    have x0 := kcb hb (b := w.heap.size) (o := 0) (v := .string s) (by first | assumption | (refine cellUp ?_; assumption) | go_cell)
    have x1 := kcb hb (b := w.heap.size) (o := 1) (v := .slice A n c) (by first | assumption | (refine cellUp ?_; assumption) | go_cell)
    have y0 := kcb hb (b := w.heap.size + 1) (o := 0) (v := .string t) (by first | assumption | (refine cellUp ?_; assumption) | go_cell)
    have y1 := kcb hb (b := w.heap.size + 1) (o := 1) (v := .slice B m d) (by first | assumption | (refine cellUp ?_; assumption) | go_cell)
    have r0 := kcb hb (b := w.heap.size + 1 + 1) (o := 0) (v := .string ⟨#[]⟩) (by first | assumption | (refine cellUp ?_; assumption) | go_cell)
    have r1 := kcb hb (b := w.heap.size + 1 + 1) (o := 1) (v := .slice none 0 0) (by first | assumption | (refine cellUp ?_; assumption) | go_cell)
    have f0 := fzb hb (b := w.heap.size + 1 + 1) (o := 0) (by (try simp only [frozen?_alloc_cells, World.frozen?_setCell, World.frozen?_drew]); first | assumption | exact fz_new (by (try simp only [World.size_alloc, World.size_setCell, World.size_drew]); omega)) (by (try simp only [World.size_alloc, World.size_setCell, World.size_drew]); omega)
    have f1 := fzb hb (b := w.heap.size + 1 + 1) (o := 1) (by (try simp only [frozen?_alloc_cells, World.frozen?_setCell, World.frozen?_drew]); first | assumption | exact fz_new (by (try simp only [World.size_alloc, World.size_setCell, World.size_drew]); omega)) (by (try simp only [World.size_alloc, World.size_setCell, World.size_drew]); omega)
    have B1 : Bl w w1 := Below.trans (by go_grown) (hb.mono (by (try simp only [World.size_alloc, World.size_setCell, World.size_drew]); omega))
    have l1 := ltb r1
    have l1_1 := ltb y1
    have l1_2 := ltb x1
    have zz1 := B1.size
    clear hb
    rw [HV.out]
    go_wp2_with fail
    (try simp only [Exit.inBlock, Exit.then])
    refine bodyPost_ret (v := .tuple #[bxZ, .int .i64 1]) (by simp [results, Try.results6, go_sem, bxZ, r0, r1]) rfl ⟨Below.trans B1 (by go_grown), .inl ⟨by rw [HV.out]; rfl, rfl⟩⟩
  · have HV := Lib.hid hv
    obtain ⟨_, n2, n4, hE⟩ := vbB_iff.1 hv
    have HE := Lib.hid hE
    clear hv hE
    by_cases hv : vbB t m F = true
    rotate_left
    · have HW := Lib.hid (show vbB t m F = false by simpa using hv)
      clear hv
      go_enter Try.func6, Try.ntmps6
      go_wp2_with fail
      refine (validBox_any s A n c E _ HS.out HN.out (HA.out.below (by go_grown))).mono ?_
      rintro q1 w1 ⟨rfl, hb⟩
      have x0 := kcb hb (b := w.heap.size) (o := 0) (v := .string s) (by first | assumption | (refine cellUp ?_; assumption) | go_cell)
      have x1 := kcb hb (b := w.heap.size) (o := 1) (v := .slice A n c) (by first | assumption | (refine cellUp ?_; assumption) | go_cell)
      have y0 := kcb hb (b := w.heap.size + 1) (o := 0) (v := .string t) (by first | assumption | (refine cellUp ?_; assumption) | go_cell)
      have y1 := kcb hb (b := w.heap.size + 1) (o := 1) (v := .slice B m d) (by first | assumption | (refine cellUp ?_; assumption) | go_cell)
      have r0 := kcb hb (b := w.heap.size + 1 + 1) (o := 0) (v := .string ⟨#[]⟩) (by first | assumption | (refine cellUp ?_; assumption) | go_cell)
      have r1 := kcb hb (b := w.heap.size + 1 + 1) (o := 1) (v := .slice none 0 0) (by first | assumption | (refine cellUp ?_; assumption) | go_cell)
      have f0 := fzb hb (b := w.heap.size + 1 + 1) (o := 0) (by (try simp only [frozen?_alloc_cells, World.frozen?_setCell, World.frozen?_drew]); first | assumption | exact fz_new (by (try simp only [World.size_alloc, World.size_setCell, World.size_drew]); omega)) (by (try simp only [World.size_alloc, World.size_setCell, World.size_drew]); omega)
      have f1 := fzb hb (b := w.heap.size + 1 + 1) (o := 1) (by (try simp only [frozen?_alloc_cells, World.frozen?_setCell, World.frozen?_drew]); first | assumption | exact fz_new (by (try simp only [World.size_alloc, World.size_setCell, World.size_drew]); omega)) (by (try simp only [World.size_alloc, World.size_setCell, World.size_drew]); omega)
      have B1 : Bl w w1 := Below.trans (by go_grown) (hb.mono (by (try simp only [World.size_alloc, World.size_setCell, World.size_drew]); omega))
      have l1 := ltb r1
      have l1_1 := ltb y1
      have l1_2 := ltb x1
      have zz1 := B1.size
      clear hb
      rw [HV.out]
      go_wp2_with fail
      refine (validBox_any t B m d F _ HT.out HM.out (HB.out.below (by exact B1))).mono ?_
      rintro q2 w2 ⟨rfl, hb⟩
      have x0 := kcb hb (b := w.heap.size) (o := 0) (v := .string s) (by first | assumption | (refine cellUp ?_; assumption) | go_cell)
      have x1 := kcb hb (b := w.heap.size) (o := 1) (v := .slice A n c) (by first | assumption | (refine cellUp ?_; assumption) | go_cell)
      have y0 := kcb hb (b := w.heap.size + 1) (o := 0) (v := .string t) (by first | assumption | (refine cellUp ?_; assumption) | go_cell)
      have y1 := kcb hb (b := w.heap.size + 1) (o := 1) (v := .slice B m d) (by first | assumption | (refine cellUp ?_; assumption) | go_cell)
      have r0 := kcb hb (b := w.heap.size + 1 + 1) (o := 0) (v := .string ⟨#[]⟩) (by first | assumption | (refine cellUp ?_; assumption) | go_cell)
      have r1 := kcb hb (b := w.heap.size + 1 + 1) (o := 1) (v := .slice none 0 0) (by first | assumption | (refine cellUp ?_; assumption) | go_cell)
      have f0 := fzb hb (b := w.heap.size + 1 + 1) (o := 0) (by (try simp only [frozen?_alloc_cells, World.frozen?_setCell, World.frozen?_drew]); first | assumption | exact fz_new (by (try simp only [World.size_alloc, World.size_setCell, World.size_drew]); omega)) (by (try simp only [World.size_alloc, World.size_setCell, World.size_drew]); omega)
      have f1 := fzb hb (b := w.heap.size + 1 + 1) (o := 1) (by (try simp only [frozen?_alloc_cells, World.frozen?_setCell, World.frozen?_drew]); first | assumption | exact fz_new (by (try simp only [World.size_alloc, World.size_setCell, World.size_drew]); omega)) (by (try simp only [World.size_alloc, World.size_setCell, World.size_drew]); omega)
      have B2 : Bl w w2 := Below.trans (by go_grown) (hb.mono (by (try simp only [World.size_alloc, World.size_setCell, World.size_drew]); omega))
      have l2 := ltb r1
      have l2_1 := ltb y1
      have l2_2 := ltb x1
      have zz2 := B2.size
      clear hb
      rw [HW.out]
      go_wp2_with fail
      (try simp only [Exit.inBlock, Exit.then])
      refine bodyPost_ret (v := .tuple #[bxZ, .int .i64 1]) (by simp [results, Try.results6, go_sem, bxZ, r0, r1]) rfl ⟨Below.trans B2 (by go_grown), .inl ⟨by rw [HW.out, Bool.and_false], rfl⟩⟩
    · have HW := Lib.hid hv
      obtain ⟨_, m2, m4, hF⟩ := vbB_iff.1 hv
      have HF := Lib.hid hF
      clear hv hF
      obtain ⟨b, off, rfl, hbb, hcb⟩ := HB.out (by omega)
      have HCB := Lib.hid hcb
      have HTL := Lib.hid (HB.out.tail 1 (by omega))
      have cd1 : ¬ d = 1 := by omega
      clear hcb
      go_enter Try.func6, Try.ntmps6
      go_wp2_with fail
      refine (validBox_any s A n c E _ HS.out HN.out (HA.out.below (by go_grown))).mono ?_
      rintro q1 w1 ⟨rfl, hb⟩
      have x0 := kcb hb (b := w.heap.size) (o := 0) (v := .string s) (by first | assumption | (refine cellUp ?_; assumption) | go_cell)
      have x1 := kcb hb (b := w.heap.size) (o := 1) (v := .slice A n c) (by first | assumption | (refine cellUp ?_; assumption) | go_cell)
      have y0 := kcb hb (b := w.heap.size + 1) (o := 0) (v := .string t) (by first | assumption | (refine cellUp ?_; assumption) | go_cell)
      have y1 := kcb hb (b := w.heap.size + 1) (o := 1) (v := .slice (some ⟨b, off, none⟩) m d) (by first | assumption | (refine cellUp ?_; assumption) | go_cell)
      have r0 := kcb hb (b := w.heap.size + 1 + 1) (o := 0) (v := .string ⟨#[]⟩) (by first | assumption | (refine cellUp ?_; assumption) | go_cell)
      have r1 := kcb hb (b := w.heap.size + 1 + 1) (o := 1) (v := .slice none 0 0) (by first | assumption | (refine cellUp ?_; assumption) | go_cell)
      have f0 := fzb hb (b := w.heap.size + 1 + 1) (o := 0) (by (try simp only [frozen?_alloc_cells, World.frozen?_setCell, World.frozen?_drew]); first | assumption | exact fz_new (by (try simp only [World.size_alloc, World.size_setCell, World.size_drew]); omega)) (by (try simp only [World.size_alloc, World.size_setCell, World.size_drew]); omega)
      have f1 := fzb hb (b := w.heap.size + 1 + 1) (o := 1) (by (try simp only [frozen?_alloc_cells, World.frozen?_setCell, World.frozen?_drew]); first | assumption | exact fz_new (by (try simp only [World.size_alloc, World.size_setCell, World.size_drew]); omega)) (by (try simp only [World.size_alloc, World.size_setCell, World.size_drew]); omega)
      have B1 : Bl w w1 := Below.trans (by go_grown) (hb.mono (by (try simp only [World.size_alloc, World.size_setCell, World.size_drew]); omega))
      have l1 := ltb r1
      have l1_1 := ltb y1
      have l1_2 := ltb x1
      have zz1 := B1.size
      clear hb
      rw [HV.out]
      go_wp2_with fail
      refine (validBox_any t (some ⟨b, off, none⟩) m d F _ HT.out HM.out (HB.out.below (by exact B1))).mono ?_
      rintro q2 w2 ⟨rfl, hb⟩
      have x0 := kcb hb (b := w.heap.size) (o := 0) (v := .string s) (by first | assumption | (refine cellUp ?_; assumption) | go_cell)
      have x1 := kcb hb (b := w.heap.size) (o := 1) (v := .slice A n c) (by first | assumption | (refine cellUp ?_; assumption) | go_cell)
      have y0 := kcb hb (b := w.heap.size + 1) (o := 0) (v := .string t) (by first | assumption | (refine cellUp ?_; assumption) | go_cell)
      have y1 := kcb hb (b := w.heap.size + 1) (o := 1) (v := .slice (some ⟨b, off, none⟩) m d) (by first | assumption | (refine cellUp ?_; assumption) | go_cell)
      have r0 := kcb hb (b := w.heap.size + 1 + 1) (o := 0) (v := .string ⟨#[]⟩) (by first | assumption | (refine cellUp ?_; assumption) | go_cell)
      have r1 := kcb hb (b := w.heap.size + 1 + 1) (o := 1) (v := .slice none 0 0) (by first | assumption | (refine cellUp ?_; assumption) | go_cell)
      have f0 := fzb hb (b := w.heap.size + 1 + 1) (o := 0) (by (try simp only [frozen?_alloc_cells, World.frozen?_setCell, World.frozen?_drew]); first | assumption | exact fz_new (by (try simp only [World.size_alloc, World.size_setCell, World.size_drew]); omega)) (by (try simp only [World.size_alloc, World.size_setCell, World.size_drew]); omega)
      have f1 := fzb hb (b := w.heap.size + 1 + 1) (o := 1) (by (try simp only [frozen?_alloc_cells, World.frozen?_setCell, World.frozen?_drew]); first | assumption | exact fz_new (by (try simp only [World.size_alloc, World.size_setCell, World.size_drew]); omega)) (by (try simp only [World.size_alloc, World.size_setCell, World.size_drew]); omega)
      have B2 : Bl w w2 := Below.trans (by go_grown) (hb.mono (by (try simp only [World.size_alloc, World.size_setCell, World.size_drew]); omega))
      have l2 := ltb r1
      have l2_1 := ltb y1
      have l2_2 := ltb x1
      have zz2 := B2.size
      clear hb
      rw [HW.out]
      go_wp2_with fail
      refine (clone6_any A n c E _ (HA.out.below (by exact B2)) (by omega) n4).mono ?_
      rintro q3 w3 ⟨g, cap, rfl, hown, hb⟩
      have x0 := kcb hb (b := w.heap.size) (o := 0) (v := .string s) (by first | assumption | (refine cellUp ?_; assumption) | go_cell)
      have x1 := kcb hb (b := w.heap.size) (o := 1) (v := .slice A n c) (by first | assumption | (refine cellUp ?_; assumption) | go_cell)
      have y0 := kcb hb (b := w.heap.size + 1) (o := 0) (v := .string t) (by first | assumption | (refine cellUp ?_; assumption) | go_cell)
      have y1 := kcb hb (b := w.heap.size + 1) (o := 1) (v := .slice (some ⟨b, off, none⟩) m d) (by first | assumption | (refine cellUp ?_; assumption) | go_cell)
      have r0 := kcb hb (b := w.heap.size + 1 + 1) (o := 0) (v := .string ⟨#[]⟩) (by first | assumption | (refine cellUp ?_; assumption) | go_cell)
      have r1 := kcb hb (b := w.heap.size + 1 + 1) (o := 1) (v := .slice none 0 0) (by first | assumption | (refine cellUp ?_; assumption) | go_cell)
      have f0 := fzb hb (b := w.heap.size + 1 + 1) (o := 0) (by (try simp only [frozen?_alloc_cells, World.frozen?_setCell, World.frozen?_drew]); first | assumption | exact fz_new (by (try simp only [World.size_alloc, World.size_setCell, World.size_drew]); omega)) (by (try simp only [World.size_alloc, World.size_setCell, World.size_drew]); omega)
      have f1 := fzb hb (b := w.heap.size + 1 + 1) (o := 1) (by (try simp only [frozen?_alloc_cells, World.frozen?_setCell, World.frozen?_drew]); first | assumption | exact fz_new (by (try simp only [World.size_alloc, World.size_setCell, World.size_drew]); omega)) (by (try simp only [World.size_alloc, World.size_setCell, World.size_drew]); omega)
      have B3 := B2.tr hb
      have z3 := B3.size
      have z3' := hb.size
      have z2' := B2.size
      have l3 := ltb r0
      have l3' := ltb x0
      have l3'' := ltb y0
      obtain ⟨g1, g2, g3, g4⟩ := own_cap6 hown
      have HG2 := Lib.hid g2
      unfold maxLen at g2
      have cg := hown.cellAt (n - 1) (by omega)
      rw [inC_at E (show n - 1 < n by omega)] at cg
      obtain ⟨u, hu⟩ : ∃ u, u = E (n - 1) := ⟨_, rfl⟩
      obtain ⟨v0, hv0⟩ : ∃ v, v = F 0 := ⟨_, rfl⟩
      have ub := dyTo_at HE.out (show n - 1 < n by omega)
      have vb := dyTo_at HF.out (show 0 < m by omega)
      have cb : w3.cell? ⟨b, off, none⟩ = some (.int .i64 (F 0)) := (B3.cell (p := ⟨b, off, none⟩) hbb).trans (HCB.out 0 (by omega))
      rw [← hu] at cg ub
      rw [← hv0] at cb vb
      obtain ⟨ub1, ub2⟩ := ub
      obtain ⟨vb1, vb2⟩ := vb
      have tN : ((n : Int) - 1).toNat = n - 1 := by omega
      have lb3 := ltb cb
      have HU := Lib.hid hu
      have HV0 := Lib.hid hv0
      have HO3 := Lib.hid (show w3.ownsRow w2.heap.size 3 1 (.slice (some ⟨g, 0, none⟩) n cap) (n + 0) (inC (jnF n E F) (n + 0)) by rw [Nat.add_zero, jn_lo]; exact hown)
      clear hown hb hu hv0
      have HBX := Lib.hid (And.intro x0 (And.intro r0 (And.intro r1 (And.intro f0 f1))))
      go_wp2_with fail
      go_quiet (fail)
      obtain ⟨Z, hZ⟩ : ∃ Z, Z = w3.drewN nq := ⟨_, rfl⟩
      have BZ : Bl w3 Z := by rw [hZ]; exact Bl.dn6 _ _
      have HOZ := Lib.hid (own_b6 HO3.out BZ)
      (try rw [← hZ])
      clear hZ
      have y1Z := kcb BZ y1
      have lyZ := ltb y1Z
      have zZ := BZ.size
      have HBZ := Lib.hid (HTL.out.below (B3.tr BZ))
      have m1 : m - 1 ≤ 399 := by omega
      obtain ⟨M, hM⟩ : ∃ M, M = m - 1 := ⟨_, rfl⟩
      rw [← hM] at HBZ m1
      have HMM := Lib.hid hM
      clear x0 x1 y0 y1 r0 r1 f0 f1 cg cb hM
      go_wp2_with fail
      clear y1Z
      rw [← HMM.out]
      go_loopw [6, 37] (fun v i wr => ∃ k : Nat, k ≤ M ∧ i = .int .i64 k ∧ Hid (wr.ownsRow w2.heap.size 3 1 v (n + k) (inC (jnF n E F) (n + k))) ∧ Below w2.heap.size Z wr) (fun _ i _ => M - (RowKit.intOf i).toNat)
      case atStart => exact ⟨0, by omega, rfl, HOZ, Below.refl _ _⟩
      case round =>
        obtain ⟨k, hk, rfl, HO, hB⟩ := hrel
        have zB := hB.size
        by_cases hlt : k < M
        · obtain ⟨b', off', e', hb', hcc⟩ := HBZ.out (by omega)
          cases e'
          have c0 : wr.cell? ⟨b, off + 1 + k, none⟩ = some (.int .i64 (F (k + 1))) := (hB.cell (p := ⟨b, off + 1 + k, none⟩) (show b < w2.heap.size by omega)).trans (hcc k hlt)
          have xb := dyTo_at HF.out (show k + 1 < m by have := HMM.out; omega)
          have HL := Lib.hid (jn_step n E F k)
          rw [← HU.out, ← HV0.out] at HL
          obtain ⟨x, hx⟩ : ∃ x, x = F (k + 1) := ⟨_, rfl⟩
          rw [← hx] at c0 xb HL
          obtain ⟨xb1, xb2⟩ := xb
          have len := inC_len (jnF n E F) (n + k)
          clear hx hcc
          have hnew := Lib.hid (show (wr.alloc (.cells #[.int .i64 (x + (u - v0))] 3)).heap[wr.heap.size]? = some (.cells #[.int .i64 (x + (u - v0))] 3 (0, 0)) from heap_alloc_new wr _)
          go_wp2_with (at_builtin; refine wpList_append_lies _ rfl _ _ _ rfl w2.heap.size 3 i0 _ 1 8 Try.underlying22 HI.out.1 HI.out.2.1 HI.out.2.2.1 HI.out.2.2.2 rfl (by omega) _ (n + k) (inC (jnF n E F) (n + k)) rfl (HO.out.alloc _) ⟨wr.heap.size, 0, none⟩ 1 1 [.int .i64 (x + (u - v0))] rfl rfl (World.news_of_block hnew.out) (by simp [Value.oneCell']) (by omega) (by unfold maxLen; omega) (by omega) (by (try simp only [World.size_alloc]); omega) _ rfl ?_; intro gg cap9 w9 hown1 hgrow hat hlt9)
          have HO9 := Lib.hid (show w9.ownsRow w2.heap.size 3 1 (.slice (some ⟨gg, 0, none⟩) (n + k + 1) cap9) (n + (k + 1)) (inC (jnF n E F) (n + (k + 1))) by
            rw [show n + (k + 1) = n + k + 1 by omega, HL.out]; exact hown1)
          have hl := HO.out.lt
          have X9 : Below w2.heap.size wr w9 := Below.grown (w := wr.alloc (.cells #[.int .i64 (x + (u - v0))] 3)) (by go_grown) hgrow (by (try simp only [World.size_alloc]); omega) (fun j hj => (hl j hj).1)
          go_roundw
          case rel => exact ⟨k + 1, by omega, by go_num, HO9, Below.trans hB X9⟩
          case measure => simp [RowKit.intOf]; omega
        · obtain rfl : M = k := by omega
          have hOO := HO.out
          obtain ⟨A', cap', rfl, k1, k2, hA'⟩ := sl_of_own hOO
          have HA' := Lib.hid hA'
          have K2 := Lib.hid k2
          have g0 : ∀ g, A' = some g → w2.heap.size ≤ g.block := fun g hg => by
            subst hg
            rcases hOO.2 with ⟨h', _⟩ | ⟨g', cap', cur, h', hb', _⟩
            · simp at h'
            · simp only [Value.slice.injEq, Option.some.injEq] at h'
              rw [h'.1]; exact hb'
          have HG0 := Lib.hid g0
          clear hA' k2 hOO g0
          obtain ⟨x0, r0, r1, f0, f1⟩ := HBX.out
          have hBZ2 : Below w2.heap.size w3 wr := Below.trans (BZ.mono z3') hB
          have x0 := (hBZ2.cell (p := ⟨w.heap.size, 0, none⟩) (show w.heap.size < w2.heap.size by omega)).trans x0
          have r0 := (hBZ2.cell (p := ⟨w.heap.size + 1 + 1, 0, none⟩) (show w.heap.size + 1 + 1 < w2.heap.size by omega)).trans r0
          have r1 := (hBZ2.cell (p := ⟨w.heap.size + 1 + 1, 1, none⟩) (show w.heap.size + 1 + 1 < w2.heap.size by omega)).trans r1
          have f0 := (hBZ2.frozen (p := ⟨w.heap.size + 1 + 1, 0, none⟩) (show w.heap.size + 1 + 1 < w2.heap.size by omega)).trans f0
          have f1 := (hBZ2.frozen (p := ⟨w.heap.size + 1 + 1, 1, none⟩) (show w.heap.size + 1 + 1 < w2.heap.size by omega)).trans f1
          have lx := ltb x0
          have lrr := ltb r0
          have BR : Bl w wr := Below.trans B3 (hBZ2.mono (by omega))
          have HNM := Lib.hid (show n + M ≤ maxLen by unfold maxLen; omega)
          go_wp2_with fail
          refine (limited6_any s A' (n + M) cap' (jnF n E F) _ HS.out HNM.out HA'.out).mono ?_
          rintro q4 w4 ⟨rfl, hb⟩
          have x0 := kcb hb (b := w.heap.size) (o := 0) (v := .string s) (by first | assumption | (refine cellUp ?_; assumption) | go_cell)
          have r0 := kcb hb (b := w.heap.size + 1 + 1) (o := 0) (v := .string ⟨#[]⟩) (by first | assumption | (refine cellUp ?_; assumption) | go_cell)
          have r1 := kcb hb (b := w.heap.size + 1 + 1) (o := 1) (v := .slice none 0 0) (by first | assumption | (refine cellUp ?_; assumption) | go_cell)
          have f0 := fzb hb (b := w.heap.size + 1 + 1) (o := 0) (by (try simp only [frozen?_alloc_cells, World.frozen?_setCell, World.frozen?_drew]); first | assumption | exact fz_new (by (try simp only [World.size_alloc, World.size_setCell, World.size_drew]); omega)) (by (try simp only [World.size_alloc, World.size_setCell, World.size_drew]); omega)
          have f1 := fzb hb (b := w.heap.size + 1 + 1) (o := 1) (by (try simp only [frozen?_alloc_cells, World.frozen?_setCell, World.frozen?_drew]); first | assumption | exact fz_new (by (try simp only [World.size_alloc, World.size_setCell, World.size_drew]); omega)) (by (try simp only [World.size_alloc, World.size_setCell, World.size_drew]); omega)
          have B4 : Bl w w4 := BR.tr hb
          have l4 := ltb r0
          have z4 := B4.size
          have HA4 := Lib.hid (HA'.out.below hb)
          clear hb
          by_cases hv2 : vbB s (n + M) (jnF n E F) = true
          · have HX := Lib.hid hv2
            rw [show bxR s A' (n + M) cap' (jnF n E F) = .tuple #[encB s A' (n + M) cap', .int .i64 0] by rw [bxR, if_pos hv2]]
            clear hv2
            go_wp2_with fail
            (try simp only [Exit.inBlock, Exit.then])
            refine bodyPost_ret (v := .tuple #[encB s A' (n + M) cap', .int .i64 0]) (by simp [results, Try.results6, go_sem, r0, r1]) rfl ⟨Below.trans B4 (by go_grown), .inr (.inr ⟨⟨HV.out, HW.out⟩, by rw [← HMM.out]; exact HX.out, A', cap', by rw [← HMM.out], by rw [← HMM.out]; exact k1, K2.out, ?_⟩)⟩
            rw [← HMM.out]
            exact (HA4.out.setb (b := w.heap.size + 1 + 1) (fun g hg => by have := HG0.out g hg; omega)).setb (b := w.heap.size + 1 + 1) (fun g hg => by have := HG0.out g hg; omega)
          · have HX := Lib.hid (show vbB s (n + M) (jnF n E F) = false by simpa using hv2)
            rw [show bxR s A' (n + M) cap' (jnF n E F) = .tuple #[bxZ, .int .i64 4] by rw [bxR, if_neg hv2]]
            unfold bxZ
            clear hv2
            go_wp2_with fail
            (try simp only [Exit.inBlock, Exit.then])
            refine bodyPost_ret (v := .tuple #[bxZ, .int .i64 4]) (by simp [results, Try.results6, go_sem, bxZ, r0, r1]) rfl ⟨Below.trans B4 (by go_grown), .inr (.inl ⟨⟨HV.out, HW.out⟩, by rw [← HMM.out]; exact HX.out, rfl⟩)⟩
end Go.Proofs.Ytalofhbmkllifaa
