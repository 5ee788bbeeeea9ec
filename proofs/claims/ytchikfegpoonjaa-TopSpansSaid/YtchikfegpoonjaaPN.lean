/-
  Package sight: a number repeated (slices.Repeat); costs are settled.
-/
import Derived.Test.YtchikfegpoonjaaPM
import Derived.Test.YtchikfegpoonjaaShelf
import Derived.Lib.SliceRun
import Derived.Laws.CopyOwn
import Derived.Deep.OwnRows
import Derived.IntWalk
namespace Go.Proofs.Ytchikfegpoonjaa
open Go.RowKit
set_option linter.unusedSimpArgs false
set_option linter.unusedVariables false

/-- A row of one number, as often as wanted. -/
theorem cell_newS (w : World) (C : Array Value) (t : TypeId) (j : Nat) : (w.alloc (.cells C t)).cell? ⟨w.heap.size, j, none⟩ = C[j]? := cell_of_row _ _ j C t (0, 0) (heap_alloc_new w _)
/-- The cells of a row that is filled to the place k. -/
def filC (x : Int) (k n : Nat) : List Value := List.replicate k (.int .i64 x) ++ List.replicate (n - k) (.int .i64 0)
theorem filC_len {x : Int} {k n : Nat} (h : k ≤ n) : (filC x k n).length = n := by simp [filC]; omega
theorem filC_splice {x : Int} {k m n : Nat} (h : k + m ≤ n) : splice (filC x k n) k (List.replicate m (.int .i64 x)) = filC x (k + m) n := by
  simp only [splice, filC]
  rw [List.take_left' (by simp), List.drop_append, List.length_replicate, List.length_replicate]
  have e1 : List.drop (k + m) (List.replicate k (Value.int .i64 x)) = [] := by simp
  rw [e1, List.nil_append, show k + m - k = m by omega, List.drop_replicate, ← List.append_assoc, List.replicate_append_replicate, show n - (k + m) = n - k - m by omega]
theorem filC_at {x : Int} {k n j : Nat} (hj : j < k) : (filC x k n)[j]? = some (.int .i64 x) := by
  rw [filC, List.getElem?_append_left (by simpa using hj)]
  simp [hj]
theorem made_filC (x : Int) (n : Nat) : madeCells #[.int .i64 0] n = (filC x 0 n).toArray := by
  apply Array.ext
  · simp [madeCells, filC]
  · intro i h1 h2
    have e : i % 1 = 0 := by omega
    simp [madeCells, filC, e]
theorem rw_of_fil {w : World} {g n : Nat} {x : Int} (h : w.heap[g]? = some (.cells (filC x n n).toArray 3 (0, 0))) : Rw w g n (fun _ => x) := fun j hj =>
  ⟨(cell_of_row _ _ j _ _ (0, 0) h).trans (by rw [List.getElem?_toArray]; exact filC_at hj), by simp [World.frozen?, h]⟩
theorem add_plainS (b o j : Nat) : (⟨b, o, none⟩ : Addr).add j = ⟨b, o + j, none⟩ := by unfold Addr.add; split <;> simp_all
theorem fil_cell {w : World} {g k n j : Nat} {x : Int} (h : w.heap[g]? = some (.cells (filC x k n).toArray 3 (0, 0))) (hj : j < k) : w.cell? ((⟨g, 0, none⟩ : Addr).add j) = some (.int .i64 x) := by
  rw [add_plainS, Nat.zero_add]
  exact (cell_of_row _ _ j _ _ (0, 0) h).trans (by rw [List.getElem?_toArray]; exact filC_at hj)
/-- What a copy into the row behind its filled part does. -/
theorem run_copy_fil (w w0 : World) (B g n k m : Nat) (x : Int) (hg : w.heap[g]? = some (.cells (filC x k n).toArray 3 (0, 0))) (ad : Addr) (dLen dCap sLen sCap : Nat) (hm : m = Nat.min sLen dLen) (hkm : k + m ≤ n) (hsrc : ∀ j, j < m → w.cell? (ad.add j) = some (.int .i64 x)) (hb : Below B w0 w) (hB : B ≤ g) (ty : TypeId) :
    ∃ w', (Builtin.copy_ #[24, 24] ty #[.slice (some ⟨g, k, none⟩) dLen dCap, .slice (some ad) sLen sCap]).run Try.prog w = .ok (.int .i64 (m : Int)) w' ∧ w'.heap[g]? = some (.cells (filC x (k + m) n).toArray 3 (0, 0)) ∧ Below B w0 w' := by
  have hl : (List.replicate m (Value.int .i64 x)).length = m := List.length_replicate
  have hrun := run_copy_row (P := Try.prog) w 24 24 ty 3 g k dLen dCap ad sLen sCap (filC x k n).toArray 3 (List.replicate m (.int .i64 x)) Try.underlying24 (by kernel_rfl) hg (by rw [hl, hm]) (fun j v hv => by
    have hj := (List.getElem?_eq_some_iff.1 hv).1
    rw [hl] at hj
    obtain ⟨_, e⟩ := List.getElem?_eq_some_iff.1 hv
    rw [hsrc j hj, ← e, List.getElem_replicate]) (by rw [hl]; simpa [filC_len (show k ≤ n by omega)] using hkm) (fun v hv => by rw [List.eq_of_mem_replicate hv]; rfl)
  rw [hl] at hrun
  refine ⟨_, hrun, ?_, below_setRow hb hB _⟩
  have hs := filC_splice (x := x) hkm
  unfold splice at hs
  rw [hl] at hs
  rw [← List.append_assoc] at hs
  simp only [List.toList_toArray, hs]
  exact setRow_heap _ _ _ _ _ _ hg
set_option maxRecDepth 100000 in
set_option maxHeartbeats 3200000 in
theorem repeat_any (b c n : Nat) (x : Int) (w : World) (hx : w.cell? ⟨b, 0, none⟩ = some (.int .i64 x)) (hn : n ≤ 1000) :
    Calls Try.prog 42 #[.slice (some ⟨b, 0, none⟩) 1 c, .int .i64 (n : Int)] w fun e w' => ∃ g cap, e = .returned (.slice (some ⟨g, 0, none⟩) n cap) ∧ w.heap.size ≤ g ∧ g < w'.heap.size ∧ Rw w' g n (fun _ => x) ∧ Bl w w' := by
  have d1 : 1 * n / 18446744073709551616 = 0 := Nat.div_eq_of_lt (by omega)
  have d2 : 1 * n % 18446744073709551616 = n := by omega
  have HM := Lib.hid (show ∀ W, Calls Try.prog 45 #[.int .u64 1, .int .u64 (n : Int)] W fun e w' => e = .returned (.tuple #[.int .u64 0, .int .u64 (n : Int)]) ∧ w' = W from fun W => by
    have h := Try.bits_Mul 1 n (by omega) (by omega) W
    rw [d1, d2] at h
    exact h)
  have hmk : ∀ (W : World), (Instr.makeSlice 24 (.int .i64 (n : Int)) (.int .i64 (n : Int))).run Try.prog W = .ok (.slice (some ⟨W.heap.size, 0, none⟩) n n) (W.alloc (.cells (madeCells #[.int .i64 0] n) 3)) :=
    fun W => run_make_row' _ _ _ 8 Try.underlying24 (by kernel_rfl) rfl .i64 .i64 n (by omega) (by omega) W
  have q1 : ¬ (n : Int) < 0 := by omega
  have q2 : ¬ (9223372036854775807 : Int) < (n : Int) := by omega
  have q3 : IntKind.i64.wrap (n : Int) = (n : Int) := IntWalk.i64_in _ (by omega)
  have q4 : IntKind.u64.wrap (n : Int) = (n : Int) := IntWalk.u64_in _ (by omega)
  clear d1 d2
  go_enter Try.func42, Try.ntmps42
  go_wp2_with fail
  refine (HM.out _).mono ?_
  rintro e1 w1 ⟨rfl, rfl⟩
  have BW : Bl w1 (w1.alloc (.cells (madeCells #[.int .i64 0] n) 3)) := by go_grown
  have HG := Lib.hid (show (w1.alloc (.cells (madeCells #[.int .i64 0] n) 3)).heap[w1.heap.size]? = some (.cells (filC x 0 n).toArray 3 (0, 0)) by rw [made_filC x]; exact heap_alloc_new _ _)
  obtain ⟨W3, hrun3, hg3, hb3⟩ := run_copy_fil _ w1 w1.heap.size w1.heap.size n 0 (Nat.min 1 n) x HG.out ⟨b, 0, none⟩ n n 1 c rfl (by rw [Nat.zero_add]; exact Nat.min_le_right _ _) (fun j hj => by
    have h1 : Nat.min 1 n ≤ 1 := Nat.min_le_left 1 n
    obtain rfl : j = 0 := by omega
    exact kcb BW hx) BW (Nat.le_refl _) 3
  go_wp2_with fail
  obtain ⟨k0, hk0⟩ : ∃ k0, k0 = Nat.min 1 n := ⟨_, rfl⟩
  have h1 : k0 ≤ n := by rw [hk0]; exact Nat.min_le_right _ _
  have h2 : 0 < n → 1 ≤ k0 := fun h => by
    have : Nat.min 1 n = 1 := Nat.min_eq_left h
    omega
  rw [Nat.zero_add] at hg3
  rw [← hk0] at hg3 ⊢
  have HG3 := Lib.hid hg3
  have HB3 := Lib.hid hb3
  clear hrun3 hk0 hg3 hb3 HG BW hmk
  obtain ⟨g, hgg⟩ : ∃ g, g = w1.heap.size := ⟨_, rfl⟩
  have HGW := Lib.hid (show w1.heap.size ≤ g by omega)
  rw [← hgg] at HG3 ⊢
  clear hgg
  go_loopw [8] (fun i wr => ∃ k : Nat, k ≤ n ∧ (0 < n → 1 ≤ k) ∧ i = .int .i64 k ∧ Hid (wr.heap[g]? = some (.cells (filC x k n).toArray 3 (0, 0))) ∧ Hid (Below w1.heap.size w1 wr)) (fun i _ => n - (intOf i).toNat)
  case atStart => exact ⟨k0, h1, h2, rfl, HG3, HB3⟩
  case round =>
    clear HG3 HB3 h1 h2
    obtain ⟨k, hk, hk1, rfl, HGk, HBk⟩ := hrel
    by_cases hlt : k < n
    · have hk1' := hk1 (by omega)
      obtain ⟨m, hm⟩ : ∃ m, m = Nat.min k (n - k) := ⟨_, rfl⟩
      have hm1 : m ≤ n - k := by rw [hm]; exact Nat.min_le_right _ _
      have hm3 : m ≤ k := by rw [hm]; exact Nat.min_le_left _ _
      have hm2 : 1 ≤ m := by
        have : 1 ≤ min k (n - k) := by omega
        rw [hm]; exact this
      obtain ⟨W4, hrun4, hg4, hb4⟩ := run_copy_fil wr.drew w1 w1.heap.size g n k m x HGk.out ⟨g, 0, none⟩ (n - k) (n - k) k n hm (by omega) (fun j hj => fil_cell (w := wr.drew) HGk.out (by omega)) (Below.trans HBk.out ((bl_drS wr).mono HBk.out.size)) HGW.out 3
      clear hm hk1
      have s1 : IntKind.i64.wrap ((k : Int) + (m : Int)) = ((k + m : Nat) : Int) := by rw [IntWalk.i64_in _ (by omega)]; simp
      have hlt' : (k : Int) < (n : Int) := by omega
      have hnk : ¬ n = k := by omega
      have hle' : (k : Int) ≤ (n : Int) := by omega
      go_wp2_with fail
      go_region_law (fail)
      all_goals
        go_wp2_with fail
        refine ⟨⟨.int .i64 ((k : Int) + (m : Int)), _, _, _, _, _, _, _, _, _, _, _, _, _, ⟨k + m, by omega, by omega, by simp, Lib.hid hg4, Lib.hid hb4⟩, rfl⟩, ?_⟩
        show n - ((k : Int) + (m : Int)).toNat < n - (k : Int).toNat
        omega
    · obtain rfl : k = n := by omega
      go_wp2_with fail
      go_ret
      have hlg : g < wr.heap.size := (Array.getElem?_eq_some_iff.1 HGk.out).1
      exact ⟨g, k, rfl, HGW.out, hlg, rw_of_fil HGk.out, HBk.out⟩
end Go.Proofs.Ytchikfegpoonjaa
