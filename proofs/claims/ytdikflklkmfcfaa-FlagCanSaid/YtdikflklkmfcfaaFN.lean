/-
  Can: how many numbers can be hoisted.
-/
import Derived.Test.YtdikflklkmfcfaaFU
import Derived.Test.YtdikflklkmfcfaaFW
namespace Go.Proofs.Ytdikflklkmfcfaa
open Go.RowKit Go.Shelf
set_option linter.unusedSimpArgs false
set_option linter.unusedVariables false
attribute [local go_sem] Oper.semAt_some

theorem all_any (p d : Nat) (w : World) : Calls Try.prog 35 #[.int .i64 (p : Int), .int .i64 (d : Int)] w fun e w' => e = .returned (.bool true) ∧ w = w' := by
  go_enter Try.func35, Try.ntmps35
  go_wp2
  go_ret
  exact ⟨rfl, rfl⟩
def allW (_ _ : Nat) : Bool := true
/-- All hoists of a length with flags of a set. -/
def canL (n L : Nat) : List (List Nat) := tre allW n [] [] L
def canV (n L : Int) : Value := if inB n 1 4 = true ∧ inB L 0 8191 = true then .tuple #[.int .i64 ((canL n.toNat L.toNat).length : Int), .int .i64 0] else .tuple #[.int .i64 0, .int .i64 7]
theorem canW_size (n : Nat) (L : Int) (w : World) (f : FuncId) (cs : Array Value) : (((w.alloc (.cells #[.int .i64 (n : Int)] 3)).alloc (.cells #[.int .i64 L] 3)).alloc (.cells #[.func (.func f) #[] cs] 38)).heap.size = w.heap.size + 3 := by simp
set_option maxRecDepth 100000 in
set_option maxHeartbeats 8000000 in
theorem can7_yes (n L : Nat) (w : World) (hn : 1 ≤ n ∧ n ≤ 4) (hL : L < 8192) :
    Calls Try.prog 17 #[.int .i64 (n : Int), .int .i64 (L : Int)] w fun e w' => e = .returned (.tuple #[.int .i64 ((canL n L).length : Int), .int .i64 0]) ∧ Bl w w' := by
  have HI1 := Lib.hid (show inB (n : Int) 1 4 = true from inB_iff.2 (by omega))
  have HI2 := Lib.hid (show inB (L : Int) 0 8191 = true from inB_iff.2 (by omega))
  have hN : 13 ^ n ≤ 28561 := by
    have : 13 ^ n ≤ 13 ^ 4 := Nat.pow_le_pow_right (by decide) hn.2
    exact this
  refine (callsIn_wide (n := 5)).1 ?_
  refine callsIn_of_wp_marks Try.func17 rfl trivial ?_ rfl
  simp only [Try.ntmps17, List.size_toArray, List.length_cons, List.length_nil, Nat.reduceAdd, Nat.reduceSub, Array.replicate_succ, Array.replicate_zero, List.push_toArray, List.append_toArray, List.nil_append, List.cons_append]
  gi_wp2_with fail
  refine ⟨trivial, ?_⟩
  refine (callsIn_wide.2 (isLength_any _ _)).mono ?_
  rintro e w1 ⟨rfl, rfl⟩
  rw [HI1.out]
  gi_wp2_with fail
  refine ⟨trivial, ?_⟩
  refine (callsIn_wide.2 (isSet_any _ _)).mono ?_
  rintro e w1 ⟨rfl, rfl⟩
  rw [HI2.out]
  gi_wp2_with fail
  refine ⟨trivial, ?_⟩
  refine (callsIn_wide.2 (hoists7_any n (L : Int) _ _ _)).mono ?_
  rintro e w1 ⟨rfl, rfl⟩
  gi_wp2_with fail
  obtain ⟨V, hV⟩ : ∃ V, V = (((w.alloc (.cells #[.int .i64 0] 3)).alloc (.cells #[.int .i64 (n : Int)] 3)).alloc (.cells #[.int .i64 (L : Int)] 3)).alloc (.cells #[.func (.func 35) #[] #[]] 38) := ⟨_, rfl⟩
  have zV : V.heap.size = w.heap.size + 4 := by rw [hV]; simp
  have BV : Bl w V := by rw [hV]; go_grown
  have v0 : V.cell? ⟨w.heap.size, 0, none⟩ = some (.int .i64 0) := by rw [hV]; exact cellUp (cellUp (cellUp (by go_cell)))
  have v1 : V.cell? ⟨w.heap.size + 1, 0, none⟩ = some (.int .i64 (n : Int)) := by rw [hV]; exact cellUp (cellUp (by go_cell))
  have v2 : V.cell? ⟨w.heap.size + 1 + 1, 0, none⟩ = some (.int .i64 (L : Int)) := by rw [hV]; exact cellUp (by go_cell)
  have v3 : V.cell? ⟨w.heap.size + 1 + 2, 0, none⟩ = some (.func (.func 35) #[] #[]) := by
    rw [hV]
    have h := heap_alloc_new (((w.alloc (.cells #[.int .i64 0] 3)).alloc (.cells #[.int .i64 (n : Int)] 3)).alloc (.cells #[.int .i64 (L : Int)] 3)) (.cells #[.func (.func 35) #[] #[]] 38)
    rw [World.size_alloc, World.size_alloc, World.size_alloc] at h
    exact (cell_of_row _ _ 0 _ _ _ h).trans rfl
  have g0 : V.frozen? ⟨w.heap.size, 0, none⟩ = false := by rw [hV]; (try simp only [frozen?_alloc_cells, World.frozen?_setCell]); first | assumption | exact fz_new (by (try simp only [World.size_alloc]); omega)
  rw [← hV]
  clear hV
  have zw : w.heap.size ≤ V.heap.size := by omega
  have hseq := hoists_seqE (m := 4) (c0 := w.heap.size) (c1 := w.heap.size + 1) (lb := w.heap.size + 1) (wb := w.heap.size + 1 + 2) (fb := w.heap.size + 1 + 1) (N := 13 ^ n) (L := L) (w := V) (want := allW) hn hL (by omega) (by omega) (by omega) v1 v3 v2
    (fun p d W hp hd hLo => all_any p d W) (tre_len _ _ _ _ _)
  have l0 := ltb v0
  refine loopO rfl (by omega) (gf := 42) (lb := #[.pointer (some ⟨w.heap.size + 1, 0, none⟩), .pointer (some ⟨w.heap.size + 1 + 2, 0, none⟩), .pointer (some ⟨w.heap.size + 1 + 1, 0, none⟩)]) rfl trivial (enters_of Try.func42 (by kernel_rfl) rfl) hseq Lo.trans (fun W l o hl _ => Lo.put W l o hl) (Below.refl _ _) (fun _ => rfl)
    (fun x X Y h hk => ⟨own_same h.1 (fun g e => hk g (by cases e; rfl)), h.2⟩)
    (fun pre O W' => W'.cell? ⟨w.heap.size, 0, none⟩ = some (.int .i64 (pre.length : Int)) ∧ W'.frozen? ⟨w.heap.size, 0, none⟩ = false ∧ Bl w W')
    (fun pre O W' => False)
    (fun s O X Y h hb hO => ⟨(hb.cell (p := ⟨w.heap.size, 0, none⟩) (by show w.heap.size < _; omega)).trans h.1, (hb.frozen (p := ⟨w.heap.size, 0, none⟩) (by show w.heap.size < _; omega)).trans h.2.1, h.2.2.trans (hb.mono zw)⟩)
    (fun s O X Y h hb hO => h)
    ⟨v0, g0, BV⟩
    (fun x Wb a' X => a' = { tmps := #[.int .i64 (n : Int), .int .i64 (L : Int), undef, undef, .int .i64 0, .int .i64 0, .pointer (some ⟨w.heap.size, 0, none⟩), .int .i64 (n : Int), .bool true, .bool false, .bool false, .int .i64 (L : Int), .bool true, .bool false, .bool false, .int .i64 (n : Int), .int .i64 (L : Int), .func (.func 42) #[] #[.pointer (some ⟨w.heap.size + 1, 0, none⟩), .pointer (some ⟨w.heap.size + 1 + 2, 0, none⟩), .pointer (some ⟨w.heap.size + 1 + 1, 0, none⟩)], .slice (some ⟨x.1, 0, none⟩) x.2.2.length x.2.1, undef, undef, undef], defers := [] } ∧ X = Wb)
    ?hA ?assign ?body ?done ?stop
  case hA => rintro x Wb a' X k o ⟨rfl, rfl⟩ _ _; exact ⟨rfl, rfl⟩
  case assign =>
    intro k x Wb K hz hK
    unfold encH
    gi_wp2
    exact hK _ _ (Below.refl _ _) ⟨by simp, rfl⟩
  case body =>
    rintro k pre x O a' Wb X hk ⟨r, hr⟩ ⟨i0, i1, i2⟩ hO hat hG hX ⟨rfl, rfl⟩ hlen
    have lx := ltb i0
    have hp : pre.length ≤ 28561 := by omega
    gi_wp2_with fail
    refine ⟨fun _ => False, fun k h => h.elim, keepsBut_set X (by omega), ⟨fun k h1 h2 => Below.heap_setCell _ _ _ k (by show k ≠ w.heap.size; omega)⟩, ?_, ?_, i2.setCell (p := ⟨w.heap.size, 0, none⟩) (Nat.le_refl _) _⟩
    · rw [List.length_append, List.length_singleton, show (((pre.length + 1 : Nat)) : Int) = (pre.length : Int) + 1 by omega]
      go_cell
    · (try simp only [World.frozen?_setCell]); exact i1
  case done =>
    rintro Db xs O W' hD hnO hO hS ⟨i0, i1, i2⟩ hd
    have hl : xs.length = (canL n L).length := by
      have h := congrArg List.length hS
      rw [List.length_map] at h
      exact h
    rw [hl] at i0
    have lx := ltb i0
    have PB : Below Db W' (W'.putObj Db (.deferred none)) := below_put W' _ (Nat.le_refl _) (by have := (Array.getElem?_eq_some_iff.1 hd).1; omega)
    gi_wp2_with fail
    refine ⟨by simp, .inl ⟨_, _, rfl, run_takeDeferred hd, ?_⟩⟩
    refine ⟨.tuple #[.int .i64 ((canL n L).length : Int), .int .i64 0], ?_, rfl, i2.trans (PB.mono (by omega))⟩
    simp [results, Try.results17, go_sem]
  case stop =>
    rintro Db pre O W' hD hnO hO hS h hd
    exact h.elim
set_option maxHeartbeats 1600000 in
theorem can7_no (n L : Int) (w : World) (h : ¬ (inB n 1 4 = true ∧ inB L 0 8191 = true)) :
    Calls Try.prog 17 #[.int .i64 n, .int .i64 L] w fun e w' => e = .returned (.tuple #[.int .i64 0, .int .i64 7]) ∧ Bl w w' := by
  cases hn : inB n 1 4 with
  | false =>
    have HI1 := Lib.hid hn
    clear hn h
    go_enter Try.func17, Try.ntmps17
    go_wp2_with fail
    refine (isLength_any _ _).mono ?_
    rintro e w1 ⟨rfl, rfl⟩
    rw [HI1.out]
    go_wp2_with fail
    go_ret2
    exact ⟨rfl, Bl.rf _⟩
  | true =>
    have HI1 := Lib.hid hn
    have hl : inB L 0 8191 = false := by
      cases hl : inB L 0 8191 with
      | false => rfl
      | true => exact absurd ⟨hn, hl⟩ h
    have HI2 := Lib.hid hl
    clear hn h hl
    go_enter Try.func17, Try.ntmps17
    go_wp2_with fail
    refine (isLength_any _ _).mono ?_
    rintro e w1 ⟨rfl, rfl⟩
    rw [HI1.out]
    go_wp2_with fail
    refine (isSet_any _ _).mono ?_
    rintro e w1 ⟨rfl, rfl⟩
    rw [HI2.out]
    go_wp2_with fail
    go_ret2
    exact ⟨rfl, Bl.rf _⟩
theorem can7_any (n L : Int) (w : World) : Calls Try.prog 17 #[.int .i64 n, .int .i64 L] w fun e w' => e = .returned (canV n L) ∧ Bl w w' := by
  by_cases h : inB n 1 4 = true ∧ inB L 0 8191 = true
  · have h1 := inB_iff.1 h.1
    have h2 := inB_iff.1 h.2
    obtain ⟨a, rfl⟩ := Int.eq_ofNat_of_zero_le (show 0 ≤ n by omega)
    obtain ⟨b, rfl⟩ := Int.eq_ofNat_of_zero_le h2.1
    rw [canV, if_pos h]
    exact can7_yes a b w (by omega) (by omega)
  · rw [canV, if_neg h]
    exact can7_no n L w h
end Go.Proofs.Ytdikflklkmfcfaa
