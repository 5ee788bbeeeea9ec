/-
  The iterator over hoists, held against digits.
-/
import Derived.Test.YtdikflklkmfcfaaFDS
namespace Go.Proofs.Ytdikflklkmfcfaa
open Go.RowKit Go.Shelf
set_option linter.unusedSimpArgs false
set_option linter.unusedVariables false
attribute [local go_sem] Oper.semAt_some

theorem hangAllD {n c0 c1 n1 B lb wb l N m : Nat} {db : Nat} {V : World} {want : Nat → Nat → Bool} {J Jx : List Hst → (Nat → Prop) → World → Prop}
    (hn : 1 ≤ n ∧ n ≤ 4) (hn1 : n1 ≤ B) (hlb : lb < n1 ∧ ¬ (c0 ≤ lb ∧ lb < c1)) (hwb : wb < n1 ∧ ¬ (c0 ≤ wb ∧ wb < c1)) (hlc : V.cell? ⟨lb, 0, none⟩ = some (.int .i64 (n : Int))) (hwc : V.cell? ⟨wb, 0, none⟩ = some (.func (.func 41) #[] #[.pointer (some ⟨db, 0, none⟩)]))
    (hW : ∀ (p d : Nat) (W : World), p < n → d < 10 → Lo c0 c1 n1 V W → Calls Try.prog 41 (#[.int .i64 (p : Int), .int .i64 (d : Int), .pointer (some ⟨db, 0, none⟩)]) W fun e W' => e = .returned (.bool (want p d)) ∧ W = W')
    (hJ : JOk B J) (hY : YdH c0 c1 n1 B l N m J Jx) (r : Nat) : ∀ (hs ds : List Nat) (L : Nat) (hv dv : Value) (pre : List Hst) (O : Nat → Prop) (W : World), hs.length + r = n → (∀ d, d ∈ ds → d < 10) → L < 8192 → pre.length + (tre want r hs ds L).length ≤ N → StH c0 c1 n1 B lb wb l V J hs ds hv dv pre O W →
      Calls Try.prog 43 #[hv, dv, .int .i64 (L : Int), .pointer (some ⟨lb, 0, none⟩), .pointer (some ⟨B, 0, none⟩), .pointer (some ⟨wb, 0, none⟩), .pointer (some ⟨B + 1, 0, none⟩)] W (HPost c0 c1 n1 B lb wb l V want J Jx r hs ds L hv dv pre O W) := by
  induction r with
  | zero => exact fun hs ds L hv dv pre O W h1 h2 h3 h4 h5 => hang0D hn hn1 hlb hwb hlc hwc hW hJ hY hs ds L hv dv pre O W (by omega) (by simp [tre] at h4; omega) h5
  | succ r ih => exact hangSD hn hn1 hlb hwb hlc hwc hW hJ hY r ih
set_option maxRecDepth 100000 in
set_option maxHeartbeats 4000000 in
theorem hoists_seqD {n c0 c1 lb wb fb L N m : Nat} {db : Nat} {w : World} {want : Nat → Nat → Bool}
    (hn : 1 ≤ n ∧ n ≤ 4) (hL : L < 8192) (hlb : ¬ (c0 ≤ lb ∧ lb < c1)) (hwb : ¬ (c0 ≤ wb ∧ wb < c1)) (hfb : ¬ (c0 ≤ fb ∧ fb < c1)) (hlc : w.cell? ⟨lb, 0, none⟩ = some (.int .i64 (n : Int))) (hwc : w.cell? ⟨wb, 0, none⟩ = some (.func (.func 41) #[] #[.pointer (some ⟨db, 0, none⟩)])) (hfc : w.cell? ⟨fb, 0, none⟩ = some (.int .i64 (L : Int)))
    (hW : ∀ (p d : Nat) (W : World), p < n → d < 10 → Lo c0 c1 w.heap.size w W → Calls Try.prog 41 (#[.int .i64 (p : Int), .int .i64 (d : Int), .pointer (some ⟨db, 0, none⟩)]) W fun e W' => e = .returned (.bool (want p d)) ∧ W = W')
    (hN : (tre want n [] [] L).length ≤ N) :
    SeqO Fence.wide m Try.prog 42 #[.pointer (some ⟨lb, 0, none⟩), .pointer (some ⟨wb, 0, none⟩), .pointer (some ⟨fb, 0, none⟩)] encH GvH AtH (Lo c0 c1 w.heap.size) (fun xs => xs.map (fun x : Hst => x.2.2) = tre want n [] [] L) (fun pre => ∃ rest, tre want n [] [] L = pre.map (fun x : Hst => x.2.2) ++ rest) N w := by
  intro l J Jx W hWW hJ hJx hJb hJxb hY h0
  have hsz := hWW.size
  have kb : ∀ {b : Nat} {v : Value}, w.cell? ⟨b, 0, none⟩ = some v → b < w.heap.size ∧ W.cell? ⟨b, 0, none⟩ = some v := fun h => ⟨World.block_lt_of_cell? w ⟨_, 0, none⟩ h, (hWW.cell (p := ⟨_, 0, none⟩) (World.block_lt_of_cell? w ⟨_, 0, none⟩ h)).trans h⟩
  obtain ⟨l1, x1⟩ := kb hlc
  obtain ⟨l2, x2⟩ := kb hwc
  obtain ⟨l3, x3⟩ := kb hfc
  have hlw : Lo c0 c1 w.heap.size w W := Lo.of_below hWW (Nat.le_refl _)
  have l3' : fb < W.heap.size := by omega
  have l3'' : fb < W.heap.size + 1 := by omega
  have HANG := Lib.hid (hangAllD (c0 := c0) (c1 := c1) (n1 := w.heap.size) (B := W.heap.size) (l := l) (N := N) (m := m - 1) (V := W) (want := want) (J := J) (Jx := Jx) hn hsz ⟨l1, hlb⟩ ⟨l2, hwb⟩ x1 x2
    (fun p d W' hp hd hLo => hW p d W' hp hd (hlw.trans hLo)) ⟨hJ, hJb⟩ hY n)
  have HJ := Lib.hid hJ
  have H0 := Lib.hid h0
  clear hJ hJx hJb hJxb hY h0 hW hlc hwc hfc x1 x2 kb hlw
  refine callsIn_wide.2 ?_
  show Calls Try.prog 42 #[.func (.yield l) #[] #[], .pointer (some ⟨lb, 0, none⟩), .pointer (some ⟨wb, 0, none⟩), .pointer (some ⟨fb, 0, none⟩)] W _
  go_enter Try.func42, Try.ntmps42
  go_wp2_with fail
  obtain ⟨V, hV⟩ : ∃ V, V = (W.alloc (.cells #[.func (.yield l) #[] #[]] 32)).alloc (.cells #[FVH lb wb W.heap.size] 54) := ⟨_, rfl⟩
  have v1 : V.cell? ⟨W.heap.size, 0, none⟩ = some (.func (.yield l) #[] #[]) := by rw [hV]; go_cell
  have v2 : V.cell? ⟨W.heap.size + 1, 0, none⟩ = some (FVH lb wb W.heap.size) := by rw [hV]; go_cell
  have BV : Below W.heap.size W V := by rw [hV]; exact ((Below.refl _ W).alloc (Nat.le_refl _) _).alloc (by simp) _
  unfold FVH at hV
  rw [← hV]
  clear hV
  refine (HANG.out [] [] L (.slice none 0 0) (.slice none 0 0) [] (fun _ => False) V (by simp) (by simp) hL (by simpa using hN) ⟨HJ.out _ _ _ _ H0.out BV (fun _ h => h.elim), Lo.of_below BV hsz, v1, v2, (fun h => h), (fun h => h), World.ownsRow_nil _ _ _ _, World.ownsRow_nil _ _ _ _, (fun g h => by cases h), (fun g h => by cases h), (fun g h => by cases h)⟩).mono ?_
  rintro e W4 ⟨b, rfl, hy, hno⟩
  have HYY := Lib.hid hy
  have HNO := Lib.hid hno
  clear hy hno
  cases b with
  | true =>
    go_wp2_with fail
    go_end0
    obtain ⟨xs, O', a, s, _, _⟩ := HYY.out (by simp)
    exact ⟨⟨_, rfl⟩, .inl ⟨xs, O', a, by simpa using s.j⟩⟩
  | false =>
    go_wp2_with fail
    go_end0
    obtain ⟨xs, O', a, s⟩ := HNO.out (by simp)
    exact ⟨⟨_, rfl⟩, .inr ⟨xs, O', a, by simpa using s⟩⟩
end Go.Proofs.Ytdikflklkmfcfaa
