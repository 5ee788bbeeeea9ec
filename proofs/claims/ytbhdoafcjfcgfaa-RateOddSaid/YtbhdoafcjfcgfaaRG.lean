/-
  The reference's rates over a number of days.
-/
import Derived.Test.YtbhdoafcjfcgfaaRF
import Derived.Laws.OwnMore
import Derived.Deep.RegionLaw
namespace Go.Proofs.Ytbhdoafcjfcgfaa
open Go.RowKit
set_option linter.unusedSimpArgs false
set_option linter.unusedVariables false

/-- How much the errors differ over d days. -/
def rtF (E : Nat → Int) (d j : Nat) : Int := E (d * (j + 1)) - E (d * j)
theorem rt_cnt {n k d : Nat} (hd : d = 1 ∨ d = 7) (h1 : d * k < n) (h2 : n ≤ d * (k + 1)) : (n - 1) / d = k := by
  rcases hd with rfl | rfl <;> omega

set_option maxRecDepth 100000 in
set_option maxHeartbeats 6400000 in
theorem rates_any (s : ByteArray) (A : Option Addr) (n c d : Nat) (E : Nat → Int) (w : World) (hA : Sl w A n E) (h1 : 1 ≤ n) (h4 : n ≤ 400) (hd : d = 1 ∨ d = 7) (hE : dyTo E n = true) :
    Calls Try.prog 38 #[encB s A n c, .int .i64 d] w (OwnS (w.heap.size + 1) (rtF E d) ((n - 1) / d) w) := by
  obtain ⟨i0, hi0, hz0, hz1, hz2⟩ := info_parts6 int_info
  have HI := Lib.hid (And.intro hi0 (And.intro hz0 (And.intro hz1 hz2)))
  clear hi0 hz0 hz1 hz2
  have HA := Lib.hid hA
  have HE := Lib.hid hE
  have HD := Lib.hid hd
  have d1 : 1 ≤ d ∧ d ≤ 7 := by omega
  obtain ⟨d1, d7⟩ := d1
  clear hA hE hd
  go_enter Try.func38, Try.ntmps38
  go_wp2_with fail
  obtain ⟨W, hW⟩ : ∃ W, W = w.alloc (.cells #[.string s, .slice A n c] 24) := ⟨_, rfl⟩
  have BW : Bl w W := by rw [hW]; go_grown
  have zW : W.heap.size = w.heap.size + 1 := by rw [hW]; simp
  have HX := Lib.hid (show W.cell? ⟨w.heap.size, 1, none⟩ = some (.slice A n c) by rw [hW]; go_cell)
  rw [← hW]
  have NV : World.ownsRow W (w.heap.size + 1) 3 1 (.slice none 0 0) 0 [] := World.ownsRow_nil _ _ _ _
  clear hW
  go_loopw [5, 6] (fun v i wr => ∃ k i1 : Nat, Hid (i1 = d * (k + 1)) ∧ Hid (d * k < n) ∧ i1 ≤ n + 7 ∧ d ≤ i1 ∧ i = .int .i64 i1 ∧ Hid (wr.ownsRow (w.heap.size + 1) 3 1 v k (inC (rtF E d) k)) ∧ Below (w.heap.size + 1) W wr) (fun _ i _ => n + 7 - (RowKit.intOf i).toNat)
  case atStart => exact ⟨0, d, Lib.hid (by simp), Lib.hid (by simp; omega), by omega, Nat.le_refl _, rfl, NV, Below.refl _ _⟩
  case round =>
    obtain ⟨k, i1, HK, HN, hi, hdi, rfl, HO, hB⟩ := hrel
    have zB := hB.size
    have x1 := (hB.cell (p := ⟨w.heap.size, 1, none⟩) (Nat.lt_succ_self _)).trans HX.out
    have lx := ltb x1
    by_cases hlt : i1 < n
    · obtain ⟨b, off, rfl, hbb, hc⟩ := (HA.out.below BW) (by omega)
      obtain ⟨j, hj⟩ : ∃ j, j = d * k := ⟨_, rfl⟩
      have ij : i1 = j + d := by rw [hj, HK.out, Nat.mul_add, Nat.mul_one]
      have hbk : b < w.heap.size + 1 := by omega
      have c0 := (hB.cell (p := ⟨b, off + i1, none⟩) hbk).trans (hc i1 hlt)
      have c1 := (hB.cell (p := ⟨b, off + j, none⟩) hbk).trans (hc j (by omega))
      have e1 : wrap64 ((i1 : Int) - (d : Int)) = (j : Int) := by rw [IntWalk.wrap64_in _ (by omega)]; omega
      have e1' : IntKind.i64.wrap ((i1 : Int) - (d : Int)) = (j : Int) := by rw [IntWalk.i64_in _ (by omega)]; omega
      have jn : j < n := by omega
      have b0 := dyTo_at HE.out hlt
      have b1 := dyTo_at HE.out jn
      obtain ⟨z, hz⟩ : ∃ z, z = E i1 - E j := ⟨_, rfl⟩
      have e2 : wrap64 (E i1 - E j) = z := by rw [IntWalk.wrap64_in _ (by omega), hz]
      have e2' : IntKind.i64.wrap (E i1 - E j) = z := by rw [IntWalk.i64_in _ (by omega), hz]
      have HL := Lib.hid (show inC (rtF E d) (k + 1) = inC (rtF E d) k ++ [.int .i64 z] by rw [inC, rtF, ← HK.out, ← hj, hz])
      have len := inC_len (rtF E d) k
      have HS := Lib.hid (show k ≤ 400 by rcases HD.out with r | r <;> (rw [r] at HK; have := HK.out; omega))
      clear hc hz hj ij b0 b1
      go_wp2_with fail
      go_region_law (first | (refine step_append_lies _ (by rfl) _ _ _ (by rfl) (w.heap.size + 1) 3 i0 _ 1 8 Try.underlying22 HI.out.1 HI.out.2.1 HI.out.2.2.1 HI.out.2.2.2 rfl (by omega) _ k _ (by rfl) ((HO.out.alloc _).drew) ⟨wr.heap.size, 0, none⟩ 1 1 [.int .i64 z] (by rfl) (by rfl) (World.news_of_block (cs := #[.int .i64 z]) (t := 3) (fr := (0, 0)) (heap_alloc_new wr _)) (by simp [Value.oneCell']) (by omega) (by have := HS.out; unfold maxLen; omega) (by have := HS.out; omega) (by simp; omega) (wr.heap.size + 1) (by simp) ?_; intro gg cap w9 hown1 hgrow hat hlt9; have HO9 := Lib.hid (show w9.ownsRow (w.heap.size + 1) 3 1 (.slice (some ⟨gg, 0, none⟩) (k + 1) cap) (k + 1) (inC (rtF E d) (k + 1)) by rw [HL.out]; exact hown1); have hl := HO.out.lt; have X9 : Below (w.heap.size + 1) wr w9 := Below.grown (by go_grown) hgrow (by (try simp only [World.size_alloc, World.size_drew]); omega) (fun j hj => (hl j hj).1)))
      all_goals
        go_wp2_with fail
        go_roundw
        case rel => exact ⟨k + 1, i1 + d, Lib.hid (by rw [HK.out, Nat.mul_add d (k + 1) 1, Nat.mul_one]), Lib.hid (by rw [← HK.out]; exact hlt), by omega, by omega, by go_num, HO9.out, Below.trans hB X9⟩
        case measure => simp [RowKit.intOf]; omega
    · have HC := Lib.hid (rt_cnt HD.out HN.out (by rw [← HK.out]; omega))
      go_wp2_with fail
      go_ret
      exact ⟨BW.tr (hB.mono (by omega)), _, rfl, by rw [HC.out]; exact HO.out⟩
end Go.Proofs.Ytbhdoafcjfcgfaa
