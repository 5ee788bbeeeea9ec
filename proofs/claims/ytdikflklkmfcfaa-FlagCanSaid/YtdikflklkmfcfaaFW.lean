/-
  The first hoist of a number with flags of a set: With and Hoist.
-/
import Derived.Test.YtdikflklkmfcfaaFT
import Derived.Test.YtdikflklkmfcfaaFH
namespace Go.Proofs.Ytdikflklkmfcfaa
open Go.RowKit Go.Shelf
set_option linter.unusedSimpArgs false
set_option linter.unusedVariables false
attribute [local go_sem] Oper.semAt_some

/-- A digit is wanted at a place. -/
def wnB (D : Nat → Int) (p d : Nat) : Bool := D p == (d : Int)
theorem wanted_any (A : Option Addr) (n c : Nat) (D : Nat → Int) (db p d : Nat) (w : World) (hc : w.cell? ⟨db, 0, none⟩ = some (.slice A n c)) (hA : Sl w A n D) (hp : p < n) (hn : n ≤ maxLen) :
    Calls Try.prog 41 #[.int .i64 (p : Int), .int .i64 (d : Int), .pointer (some ⟨db, 0, none⟩)] w fun e w' => e = .returned (.bool (wnB D p d)) ∧ w = w' := by
  unfold maxLen at hn
  obtain ⟨b, off, rfl, hb, hcc⟩ := hA (by omega)
  have c1 := hcc p hp
  clear hcc
  go_enter Try.func41, Try.ntmps41
  go_wp2
  go_ret
  exact ⟨rfl, rfl⟩
/-- What check returns. -/
def ckV (n : Nat) (D : Nat → Int) (L : Int) : Int := if vdB n D = true then (if inB L 0 8191 = true then 0 else 7) else 1
theorem check_any (A : Option Addr) (n c : Nat) (D : Nat → Int) (L : Int) (w : World) (hn : n ≤ maxLen) (hA : Sl w A n D) :
    Calls Try.prog 20 #[.slice A n c, .int .i64 L] w fun e w' => e = .returned (.int .i64 (ckV n D L)) ∧ w = w' := by
  cases hv : vdB n D with
  | false =>
    have HV := Lib.hid hv
    have HR := Lib.hid (show ckV n D L = 1 by rw [ckV, hv]; rfl)
    clear hv
    go_enter Try.func20, Try.ntmps20
    go_wp2_with fail
    refine (validDigits_any A n c D _ hn hA).mono ?_
    rintro e w1 ⟨rfl, rfl⟩
    rw [HV.out]
    go_wp2_with fail
    go_ret
    exact ⟨ret_int HR.out.symm, rfl⟩
  | true =>
    have HV := Lib.hid hv
    cases hs : inB L 0 8191 with
    | false =>
      have HS := Lib.hid hs
      have HR := Lib.hid (show ckV n D L = 7 by rw [ckV, hv, hs]; rfl)
      clear hv hs
      go_enter Try.func20, Try.ntmps20
      go_wp2_with fail
      refine (validDigits_any A n c D _ hn hA).mono ?_
      rintro e w1 ⟨rfl, rfl⟩
      rw [HV.out]
      go_wp2_with fail
      refine (isSet_any _ _).mono ?_
      rintro e w1 ⟨rfl, rfl⟩
      rw [HS.out]
      go_wp2_with fail
      go_ret
      exact ⟨ret_int HR.out.symm, rfl⟩
    | true =>
      have HS := Lib.hid hs
      have HR := Lib.hid (show ckV n D L = 0 by rw [ckV, hv, hs]; rfl)
      clear hv hs
      go_enter Try.func20, Try.ntmps20
      go_wp2_with fail
      refine (validDigits_any A n c D _ hn hA).mono ?_
      rintro e w1 ⟨rfl, rfl⟩
      rw [HV.out]
      go_wp2_with fail
      refine (isSet_any _ _).mono ?_
      rintro e w1 ⟨rfl, rfl⟩
      rw [HS.out]
      go_wp2_with fail
      go_ret
      exact ⟨ret_int HR.out.symm, rfl⟩
/-- The world behind the making of an iterator over the hoists of a number. -/
def hofW (A : Option Addr) (n c : Nat) (L : Int) (w : World) : World :=
  (((w.alloc (.cells #[.slice A n c] 22)).alloc (.cells #[.int .i64 (n : Int)] 3)).alloc (.cells #[.int .i64 L] 3)).alloc (.cells #[.func (.func 41) #[] #[.pointer (some ⟨w.heap.size, 0, none⟩)]] 38)
theorem hofW_size (A : Option Addr) (n c : Nat) (L : Int) (w : World) : (hofW A n c L w).heap.size = w.heap.size + 4 := by simp [hofW]
theorem hofW_below (A : Option Addr) (n c : Nat) (L : Int) (w : World) : Bl w (hofW A n c L w) := by unfold hofW; go_grown
theorem hofW_cells (A : Option Addr) (n c : Nat) (L : Int) (w : World) : (hofW A n c L w).cell? ⟨w.heap.size, 0, none⟩ = some (.slice A n c) ∧ (hofW A n c L w).cell? ⟨w.heap.size + 1, 0, none⟩ = some (.int .i64 (n : Int)) ∧ (hofW A n c L w).cell? ⟨w.heap.size + 2, 0, none⟩ = some (.int .i64 L) ∧ (hofW A n c L w).cell? ⟨w.heap.size + 3, 0, none⟩ = some (.func (.func 41) #[] #[.pointer (some ⟨w.heap.size, 0, none⟩)]) := by
  have H : ∀ (X : World) (o : Array Value) (t : TypeId) (v : Value), o[0]? = some v → (X.alloc (.cells o t)).cell? ⟨X.heap.size, 0, none⟩ = some v := fun X o t v h => by
    rw [cell_of_row _ _ 0 o t (0, 0) (heap_alloc_new X _)]; exact h
  refine ⟨?_, ?_, ?_, ?_⟩
  · exact cellUp (cellUp (cellUp (H _ _ _ _ rfl)))
  · exact cellUp (cellUp (by have h := H (w.alloc (.cells #[.slice A n c] 22)) #[.int .i64 (n : Int)] 3 _ rfl; rwa [World.size_alloc] at h))
  · exact cellUp (by have h := H ((w.alloc (.cells #[.slice A n c] 22)).alloc (.cells #[.int .i64 (n : Int)] 3)) #[.int .i64 L] 3 _ rfl; rwa [World.size_alloc, World.size_alloc] at h)
  · have h := H (((w.alloc (.cells #[.slice A n c] 22)).alloc (.cells #[.int .i64 (n : Int)] 3)).alloc (.cells #[.int .i64 L] 3)) #[.func (.func 41) #[] #[.pointer (some ⟨w.heap.size, 0, none⟩)]] 38 _ rfl
    rwa [World.size_alloc, World.size_alloc, World.size_alloc] at h
theorem hoists7_any (n : Nat) (L : Int) (f : FuncId) (cs : Array Value) (w : World) :
    Calls Try.prog 34 #[.int .i64 (n : Int), .int .i64 L, .func (.func f) #[] cs] w fun e w' => e = .returned (.func (.func 42) #[] #[.pointer (some ⟨w.heap.size, 0, none⟩), .pointer (some ⟨w.heap.size + 2, 0, none⟩), .pointer (some ⟨w.heap.size + 1, 0, none⟩)]) ∧
      w' = ((w.alloc (.cells #[.int .i64 (n : Int)] 3)).alloc (.cells #[.int .i64 L] 3)).alloc (.cells #[.func (.func f) #[] cs] 38) := by
  go_enter Try.func34, Try.ntmps34
  go_wp2
  go_ret
  exact ⟨rfl, rfl⟩
theorem hoistsOf_any (A : Option Addr) (n c : Nat) (L : Int) (w : World) (hn : n ≤ maxLen) :
    Calls Try.prog 22 #[.slice A n c, .int .i64 L] w fun e w' => e = .returned (.func (.func 42) #[] #[.pointer (some ⟨w.heap.size + 1, 0, none⟩), .pointer (some ⟨w.heap.size + 3, 0, none⟩), .pointer (some ⟨w.heap.size + 2, 0, none⟩)]) ∧ w' = hofW A n c L w := by
  unfold maxLen at hn
  go_enter Try.func22, Try.ntmps22
  go_wp2_with fail
  refine (hoists7_any n L _ _ _).mono ?_
  rintro e w1 ⟨rfl, rfl⟩
  go_wp2_with fail
  go_ret
  exact ⟨rfl, rfl⟩
theorem tre_len (want : Nat → Nat → Bool) (r : Nat) : ∀ (h d : List Nat) (L : Nat), (tre want r h d L).length ≤ 13 ^ r := by
  induction r with
  | zero => intro h d L; simp [tre]
  | succ r ih =>
    intro h d L
    have : ∀ k, (treTo want r h d L k).length ≤ k * 13 ^ r := by
      intro k
      induction k with
      | zero => simp [treTo]
      | succ k ihk =>
        rw [treTo_succ, List.length_append, Nat.add_mul, Nat.one_mul]
        refine Nat.add_le_add ihk ?_
        split
        · exact ih _ _ _
        · simp
    rw [tre_to, Nat.pow_succ, Nat.mul_comm]
    exact this 13
/-- The hoists of a number with flags of a set. -/
def hstL (n : Nat) (D : Nat → Int) (L : Nat) : List (List Nat) := tre (wnB D) n [] [] L
theorem tre_lens (want : Nat → Nat → Bool) (r : Nat) : ∀ (h d : List Nat) (L : Nat), ∀ x, x ∈ tre want r h d L → x.length = h.length + r := by
  induction r with
  | zero => intro h d L x hx; simp [tre] at hx; rw [hx]; omega
  | succ r ih =>
    intro h d L x hx
    rw [tre, List.mem_flatMap] at hx
    obtain ⟨f, _, hx⟩ := hx
    split at hx
    · have := ih _ _ _ x hx; simp at this; omega
    · cases hx
/-- What With returns of such a list. -/
def WithPost (t : List (List Nat)) (w : World) (e : Ending) (w' : World) : Prop :=
  Bl w w' ∧ ((t = [] ∧ e = .returned (.tuple #[.slice none 0 0, .int .i64 10])) ∨
    (∃ h r g cap, t = h :: r ∧ e = .returned (.tuple #[.slice (some ⟨g, 0, none⟩) h.length cap, .int .i64 0]) ∧ w'.ownsRow w.heap.size 3 1 (.slice (some ⟨g, 0, none⟩) h.length cap) h.length (inN h)))
theorem keepsBut_set {B b o : Nat} {O : Nat → Prop} {v : Value} (W : World) (h : b < B) : KeepsBut B O W (W.setCell ⟨b, o, none⟩ v) :=
  ⟨by simp, fun k hk _ _ => Below.heap_setCell _ _ _ k (by show k ≠ b; omega)⟩
set_option maxRecDepth 100000 in
set_option maxHeartbeats 8000000 in
theorem with_yes (A : Option Addr) (n c : Nat) (D : Nat → Int) (L : Nat) (w : World) (hn : n ≤ maxLen) (hA : Sl w A n D) (hv : vdB n D = true) (hL : L < 8192) :
    Calls Try.prog 8 #[.slice A n c, .int .i64 (L : Int)] w (WithPost (hstL n D L) w) := by
  obtain ⟨hn14, _⟩ := vdB_iff.1 hv
  have HA := Lib.hid hA
  have HN := Lib.hid hn
  have HCK := Lib.hid (show ckV n D (L : Int) = 0 by rw [ckV, hv, inB_iff.2 (by omega : (0 : Int) ≤ (L : Int) ∧ (L : Int) ≤ 8191)]; rfl)
  clear hA hn hv
  refine (callsIn_wide (n := 5)).1 ?_
  refine callsIn_of_wp_marks Try.func8 rfl trivial ?_ rfl
  simp only [Try.ntmps8, List.size_toArray, List.length_cons, List.length_nil, Nat.reduceAdd, Nat.reduceSub, Array.replicate_succ, Array.replicate_zero, List.push_toArray, List.append_toArray, List.nil_append, List.cons_append]
  gi_wp2_with fail
  refine ⟨trivial, ?_⟩
  refine (callsIn_wide.2 (check_any A n c D (L : Int) _ HN.out (HA.out.below (by go_grown)))).mono ?_
  rintro e w1 ⟨rfl, rfl⟩
  rw [HCK.out]
  gi_wp2_with fail
  refine ⟨trivial, ?_⟩
  refine (callsIn_wide.2 (hoistsOf_any A n c (L : Int) _ HN.out)).mono ?_
  rintro e w1 ⟨rfl, rfl⟩
  gi_wp2_with fail
  obtain ⟨U, hU⟩ : ∃ U, U = (w.alloc (.cells #[.slice none 0 0] 22)).alloc (.cells #[.int .i64 0] 25) := ⟨_, rfl⟩
  have zU : U.heap.size = w.heap.size + 1 + 1 := by rw [hU]; simp
  have u0 : U.cell? ⟨w.heap.size, 0, none⟩ = some (.slice none 0 0) := by rw [hU]; go_cell
  have u1 : U.cell? ⟨w.heap.size + 1, 0, none⟩ = some (.int .i64 0) := by rw [hU]; go_cell
  have f0 : U.frozen? ⟨w.heap.size, 0, none⟩ = false := by rw [hU]; (try simp only [frozen?_alloc_cells, World.frozen?_setCell]); first | assumption | exact fz_new (by (try simp only [World.size_alloc]); omega)
  have f1 : U.frozen? ⟨w.heap.size + 1, 0, none⟩ = false := by rw [hU]; (try simp only [frozen?_alloc_cells, World.frozen?_setCell]); first | assumption | exact fz_new (by (try simp only [World.size_alloc]); omega)
  have BU : Bl w U := by rw [hU]; go_grown
  rw [← hU]
  clear hU
  obtain ⟨h0, h1, h2, h3⟩ := hofW_cells A n c (L : Int) U
  have zH := hofW_size A n c (L : Int) U
  have BH := hofW_below A n c (L : Int) U
  rw [zU] at h0 h1 h2 h3 zH
  obtain ⟨V, hV⟩ : ∃ V, V = hofW A n c (L : Int) U := ⟨_, rfl⟩
  rw [← hV] at h0 h1 h2 h3 zH BH ⊢
  clear hV
  have v0 := kcb BH u0
  have v1 := kcb BH u1
  have g0 := fzb BH f0 (by omega)
  have g1 := fzb BH f1 (by omega)
  have BV : Bl w V := Bl.tr BU BH
  have HAV := Lib.hid (HA.out.below BV)
  have zw : w.heap.size ≤ V.heap.size := by omega
  clear u0 u1 f0 f1 BU BH
  have hseq := hoists_seqD (m := 4) (c0 := w.heap.size) (c1 := w.heap.size + 2) (lb := w.heap.size + 1 + 1 + 1) (wb := w.heap.size + 1 + 1 + 3) (fb := w.heap.size + 1 + 1 + 2) (db := w.heap.size + 1 + 1) (N := 13 ^ n) (L := L) (w := V) (want := wnB D) (by omega) hL (by omega) (by omega) (by omega) h1 h3 h2
    (fun p d W hp hd hLo => by
      obtain ⟨b, off, eA, hb, hcc⟩ := HA.out (by omega)
      refine wanted_any A n c D _ p d W (hLo.cell (by omega) (by omega) h0) (fun _ => ⟨b, off, eA, ?_, fun j hj => ?_⟩) hp HN.out
      · have h := hLo.cell (b := b) (o := off + 0) (by omega) (by omega) ((BV.cell (p := ⟨b, off + 0, none⟩) hb).trans (hcc 0 (by omega)))
        exact World.block_lt_of_cell? W ⟨b, off + 0, none⟩ h
      · exact hLo.cell (b := b) (o := off + j) (by omega) (by omega) ((BV.cell (p := ⟨b, off + j, none⟩) hb).trans (hcc j hj)))
    (tre_len _ _ _ _ _)
  refine loopO rfl (by omega) (gf := 42) (lb := #[.pointer (some ⟨w.heap.size + 1 + 1 + 1, 0, none⟩), .pointer (some ⟨w.heap.size + 1 + 1 + 3, 0, none⟩), .pointer (some ⟨w.heap.size + 1 + 1 + 2, 0, none⟩)]) rfl trivial (enters_of Try.func42 (by kernel_rfl) rfl) hseq Lo.trans (fun W l o hl _ => Lo.put W l o hl) (Below.refl _ _) (fun _ => rfl)
    (fun x X Y h hk => ⟨own_same h.1 (fun g e => hk g (by cases e; rfl)), h.2⟩)
    (fun pre O W' => pre = [] ∧ W'.cell? ⟨w.heap.size, 0, none⟩ = some (.slice none 0 0) ∧ W'.cell? ⟨w.heap.size + 1, 0, none⟩ = some (.int .i64 0) ∧ W'.frozen? ⟨w.heap.size, 0, none⟩ = false ∧ W'.frozen? ⟨w.heap.size + 1, 0, none⟩ = false ∧ Bl w W')
    (fun pre O W' => ∃ x, pre = [x] ∧ AtH x W' ∧ O x.1 ∧ w.heap.size ≤ x.1 ∧ W'.cell? ⟨w.heap.size, 0, none⟩ = some (.slice (some ⟨x.1, 0, none⟩) x.2.2.length x.2.1) ∧ W'.cell? ⟨w.heap.size + 1, 0, none⟩ = some (.int .i64 0) ∧ Bl w W')
    (fun s O X Y h hb hO => ⟨h.1, (hb.cell (p := ⟨w.heap.size, 0, none⟩) (by show w.heap.size < _; omega)).trans h.2.1, (hb.cell (p := ⟨w.heap.size + 1, 0, none⟩) (by show w.heap.size + 1 < _; omega)).trans h.2.2.1, (hb.frozen (p := ⟨w.heap.size, 0, none⟩) (by show w.heap.size < _; omega)).trans h.2.2.2.1, (hb.frozen (p := ⟨w.heap.size + 1, 0, none⟩) (by show w.heap.size + 1 < _; omega)).trans h.2.2.2.2.1, h.2.2.2.2.2.trans (hb.mono zw)⟩)
    (fun s O X Y h hb hO => by
      obtain ⟨x, e, a, b, b', cc, d, f⟩ := h
      exact ⟨x, e, ⟨own_same a.1 (fun g e => by cases e; exact hO _ b), a.2⟩, b, b', (hb.cell (p := ⟨w.heap.size, 0, none⟩) (by show w.heap.size < _; omega)).trans cc, (hb.cell (p := ⟨w.heap.size + 1, 0, none⟩) (by show w.heap.size + 1 < _; omega)).trans d, f.trans (hb.mono zw)⟩)
    ⟨rfl, v0, v1, g0, g1, BV⟩
    (fun x Wb a' X => a' = { tmps := #[.slice A n c, .int .i64 (L : Int), undef, undef, .pointer (some ⟨w.heap.size, 0, none⟩), .pointer (some ⟨w.heap.size + 1, 0, none⟩), .int .i64 0, .slice (some ⟨x.1, 0, none⟩) x.2.2.length x.2.1, .slice A n c, .int .i64 (L : Int), .int .i64 0, .int .i64 0, .bool false, undef, .slice A n c, .int .i64 (L : Int), .func (.func 42) #[] #[.pointer (some ⟨w.heap.size + 1 + 1 + 1, 0, none⟩), .pointer (some ⟨w.heap.size + 1 + 1 + 3, 0, none⟩), .pointer (some ⟨w.heap.size + 1 + 1 + 2, 0, none⟩)], .slice (some ⟨x.1, 0, none⟩) x.2.2.length x.2.1, undef], defers := [] } ∧ X = Wb)
    ?hA ?assign ?body ?done ?stop
  case hA => rintro x Wb a' X k o ⟨rfl, rfl⟩ _ _; exact ⟨rfl, rfl⟩
  case assign =>
    intro k x Wb K hz hK
    unfold encH
    gi_wp2
    exact hK _ _ (Below.refl _ _) ⟨rfl, rfl⟩
  case body =>
    rintro k pre x O a' Wb X hk ⟨r, hr⟩ ⟨rfl, i0, i1, i2, i3, i4⟩ hO hat hG hX ⟨rfl, rfl⟩ hlen
    have l0 := ltb i0
    have l1 := ltb i1
    gi_wp2_with fail
    have lD : w.heap.size + 1 < V.heap.size := by omega
    obtain ⟨hat1, hat2⟩ := hat
    obtain ⟨Y, hY⟩ : ∃ Y, Y = (X.setCell ⟨w.heap.size, 0, none⟩ (.slice (some ⟨x.1, 0, none⟩) x.2.2.length x.2.1)).setCell ⟨w.heap.size + 1, 0, none⟩ (.int .i64 0) := ⟨_, rfl⟩
    have y0 : Y.cell? ⟨w.heap.size, 0, none⟩ = some (.slice (some ⟨x.1, 0, none⟩) x.2.2.length x.2.1) := by rw [hY]; go_cell
    have y1 : Y.cell? ⟨w.heap.size + 1, 0, none⟩ = some (.int .i64 0) := by rw [hY]; go_cell
    have zY : Y.heap.size = X.heap.size := by rw [hY]; simp
    have kY : KeepsBut V.heap.size (fun k => O k ∨ GvH x k) X Y := by rw [hY]; exact (keepsBut_set X (by omega)).trans (keepsBut_set _ lD)
    have bY : Bl w Y := by rw [hY]; exact ((i4.setCell (p := ⟨w.heap.size, 0, none⟩) (Nat.le_refl _) _).setCell (p := ⟨w.heap.size + 1, 0, none⟩) (by show w.heap.size ≤ w.heap.size + 1; omega) _)
    rw [← hY]
    have hx := hG x.1 rfl
    refine ⟨fun k => O k ∨ GvH x k, fun k hk => ⟨by rcases hk with h | h; exact .inl h; exact .inr (.inl h), by rw [zY]; rcases hk with h | h; exact (hO k h).2; exact (hG k h).2.1⟩, kY, x, rfl, ⟨own_same hat1 (fun g e => ?_), hat2⟩, .inr rfl, by omega, y0, y1, bY⟩
    have e : x.1 = g := by simpa [Value.ownBlock] using e
    subst e
    rw [hY]
    exact (Below.heap_setCell _ _ _ _ (by show x.1 ≠ w.heap.size + 1; omega)).trans (Below.heap_setCell _ _ _ _ (by show x.1 ≠ w.heap.size; omega))
  case done =>
    rintro Db xs O W' hD hnO hO hS ⟨rfl, i0, i1, i2, i3, i4⟩ hd
    have HS := Lib.hid (show hstL n D L = [] from hS.symm)
    have l0 := ltb i0
    have l1 := ltb i1
    gi_wp2_with fail
    have lD : w.heap.size + 1 < V.heap.size := by omega
    obtain ⟨Y, hY⟩ : ∃ Y, Y = (W'.setCell ⟨w.heap.size, 0, none⟩ (.slice none 0 0)).setCell ⟨w.heap.size + 1, 0, none⟩ (.int .i64 10) := ⟨_, rfl⟩
    have y0 : Y.cell? ⟨w.heap.size, 0, none⟩ = some (.slice none 0 0) := by rw [hY]; go_cell
    have y1 : Y.cell? ⟨w.heap.size + 1, 0, none⟩ = some (.int .i64 10) := by rw [hY]; go_cell
    have yD : Y.heap[Db]? = some (.deferred (some [])) := by rw [hY]; exact ((Below.heap_setCell _ _ _ _ (by show Db ≠ w.heap.size + 1; omega)).trans (Below.heap_setCell _ _ _ _ (by show Db ≠ w.heap.size; omega))).trans hd
    have bY : Bl w Y := by rw [hY]; exact ((i4.setCell (p := ⟨w.heap.size, 0, none⟩) (Nat.le_refl _) _).setCell (p := ⟨w.heap.size + 1, 0, none⟩) (by show w.heap.size ≤ w.heap.size + 1; omega) _)
    rw [← hY]
    clear hY i0 i1 i2 i3 i4 hd
    have PB : Below Db Y (Y.putObj Db (.deferred none)) := below_put Y _ (Nat.le_refl _) (by have := (Array.getElem?_eq_some_iff.1 yD).1; omega)
    have T0 := (PB.cell (p := ⟨w.heap.size, 0, none⟩) (by show w.heap.size < Db; omega)).trans y0
    have T1 := (PB.cell (p := ⟨w.heap.size + 1, 0, none⟩) (by show w.heap.size + 1 < Db; omega)).trans y1
    refine ⟨by simp, .inl ⟨_, _, rfl, run_takeDeferred yD, ?_⟩⟩
    refine ⟨.tuple #[.slice none 0 0, .int .i64 10], ?_, bY.trans (PB.mono (by omega)), .inl ⟨HS.out, rfl⟩⟩
    simp [results, Try.results8, go_sem, T0, T1]
  case stop =>
    rintro Db pre O W' hD hnO hO hS ⟨x, rfl, hat, hOx, hwx, i0, i1, i4⟩ hd
    obtain ⟨rest, hrest⟩ := hS
    have HS := Lib.hid (show hstL n D L = x.2.2 :: rest from hrest)
    have PB : Below Db W' (W'.putObj Db (.deferred none)) := below_put W' _ (Nat.le_refl _) (by have := (Array.getElem?_eq_some_iff.1 hd).1; omega)
    have T0 := (PB.cell (p := ⟨w.heap.size, 0, none⟩) (by show w.heap.size < Db; omega)).trans i0
    have T1 := (PB.cell (p := ⟨w.heap.size + 1, 0, none⟩) (by show w.heap.size + 1 < Db; omega)).trans i1
    have hob : ∀ g, (Value.slice (some ⟨x.1, 0, none⟩) x.2.2.length x.2.1).ownBlock = some g → x.1 = g := fun g e => by simpa [Value.ownBlock] using e
    have HO := Lib.hid (show (W'.putObj Db (.deferred none)).ownsRow w.heap.size 3 1 (.slice (some ⟨x.1, 0, none⟩) x.2.2.length x.2.1) x.2.2.length (inN x.2.2) from
      own_base (own_same hat.1 (fun g e => World.putObj_heap_other (fun e2 => hnO (by rw [← e2, ← hob g e]; exact hOx)))) (fun g e => by rw [← hob g e]; exact hwx))
    clear i0 i1
    gi_wp2
    refine ⟨by simp, .inl ⟨_, _, rfl, run_takeDeferred hd, ?_⟩⟩
    refine ⟨.tuple #[.slice (some ⟨x.1, 0, none⟩) x.2.2.length x.2.1, .int .i64 0], ?_, i4.trans (PB.mono (by omega)), .inr ⟨x.2.2, rest, x.1, x.2.1, HS.out, rfl, HO.out⟩⟩
    simp [results, Try.results8, go_sem, T0, T1]
set_option maxHeartbeats 1600000 in
theorem with_no (A : Option Addr) (n c : Nat) (D : Nat → Int) (L : Int) (w : World) (hn : n ≤ maxLen) (hA : Sl w A n D) (hck : ckV n D L ≠ 0) :
    Calls Try.prog 8 #[.slice A n c, .int .i64 L] w fun e w' => e = .returned (.tuple #[.slice none 0 0, .int .i64 (ckV n D L)]) ∧ Bl w w' := by
  have HA := Lib.hid hA
  have HN := Lib.hid hn
  obtain ⟨v, hv⟩ : ∃ v, v = ckV n D L := ⟨_, rfl⟩
  have HV := Lib.hid hv
  rw [← hv] at hck ⊢
  have hne : (v != 0) = true := by simp [hck]
  clear hA hn hv hck
  refine (callsIn_wide (n := 5)).1 ?_
  refine callsIn_of_wp_marks Try.func8 rfl trivial ?_ rfl
  simp only [Try.ntmps8, List.size_toArray, List.length_cons, List.length_nil, Nat.reduceAdd, Nat.reduceSub, Array.replicate_succ, Array.replicate_zero, List.push_toArray, List.append_toArray, List.nil_append, List.cons_append]
  gi_wp2_with fail
  refine ⟨trivial, ?_⟩
  refine (callsIn_wide.2 (check_any A n c D L _ HN.out (HA.out.below (by go_grown)))).mono ?_
  rintro e w1 ⟨rfl, rfl⟩
  rw [← HV.out]
  gi_wp2_with fail
  exact ⟨_, by simp [results, Try.results8, go_sem]; try rfl, rfl, by go_grown⟩
/-- Hoist of a number. -/
theorem hoist_yes (A : Option Addr) (n c : Nat) (D : Nat → Int) (w : World) (hn : n ≤ maxLen) (hA : Sl w A n D) (hv : vdB n D = true) :
    Calls Try.prog 19 #[.slice A n c] w (WithPost (hstL n D 8191) w) := by
  go_enter Try.func19, Try.ntmps19
  go_wp2_with fail
  refine (with_yes A n c D 8191 _ hn hA hv (by omega)).mono ?_
  rintro e w1 ⟨hb, ⟨ht, rfl⟩ | ⟨h, r, g, cap, ht, rfl, ho⟩⟩
  · have HT := Lib.hid ht
    clear ht
    go_wp2_with fail
    go_ret2
    exact ⟨hb, .inl ⟨HT.out, rfl⟩⟩
  · have HT := Lib.hid ht
    have HO := Lib.hid ho
    clear ht ho
    go_wp2_with fail
    go_ret2
    exact ⟨hb, .inr ⟨h, r, g, cap, HT.out, rfl, HO.out⟩⟩
theorem hoist_no (A : Option Addr) (n c : Nat) (D : Nat → Int) (w : World) (hn : n ≤ maxLen) (hA : Sl w A n D) (hv : vdB n D = false) :
    Calls Try.prog 19 #[.slice A n c] w fun e w' => e = .returned (.tuple #[.slice none 0 0, .int .i64 1]) ∧ Bl w w' := by
  have HC := Lib.hid (show ckV n D 8191 = 1 by rw [ckV, hv]; rfl)
  clear hv
  go_enter Try.func19, Try.ntmps19
  go_wp2_with fail
  refine (with_no A n c D 8191 _ hn hA (by rw [HC.out]; decide)).mono ?_
  rintro e w1 ⟨rfl, hb⟩
  rw [HC.out]
  go_wp2_with fail
  go_ret2
  exact ⟨rfl, hb⟩
end Go.Proofs.Ytdikflklkmfcfaa
