/-
  Contracts of package rate and of its reference: the play of two boxes.
-/
import Derived.Test.YtbhdoafcjfcgfaaQH
import Derived.Test.YtbhdoafcjfcgfaaRL
import Derived.Test.YtbhdoafcjfcgfaaRI
import Derived.Deep.AppendLies
namespace Go.Proofs.Ytbhdoafcjfcgfaa
open Go.RowKit
set_option linter.unusedSimpArgs false
set_option linter.unusedVariables false

/-- By how much two boxes move against each other in n days. -/
def plF (E F : Nat → Int) (n : Nat) : Int := mxF (fun j => E j - F j) n - mnF (fun j => E j - F j) n
theorem pl_bd {E F : Nat → Int} {n : Nat} (hE : dyTo E n = true) (hF : dyTo F n = true) {j : Nat} (hj : j < n) : -172800000 ≤ E j - F j ∧ E j - F j ≤ 172800000 := by
  have a := dyTo_at hE hj
  have b := dyTo_at hF hj
  omega
theorem pl_sym (E F : Nat → Int) (n : Nat) : plF E F n = plF F E n := by
  have e : (fun j => E j - F j) = fun j => -(F j - E j) := by funext j; omega
  rw [plF, e, mn_neg, mx_neg, plF]
  omega

set_option maxRecDepth 100000 in
set_option maxHeartbeats 1600000 in
theorem play_any (s : ByteArray) (A : Option Addr) (n c : Nat) (E : Nat → Int) (t : ByteArray) (B : Option Addr) (d : Nat) (F : Nat → Int) (w : World) (hA : Sl w A n E) (hB : Sl w B n F) (h1 : 1 ≤ n) (h4 : n ≤ 400) (hE : dyTo E n = true) (hF : dyTo F n = true) :
    Calls Try.prog 62 #[encB s A n c, encB t B n d] w fun e w' => e = .returned (.int .i64 (plF E F n)) ∧ Bl w w' := by
  have HA := Lib.hid hA
  have HB := Lib.hid hB
  have HBD := Lib.hid (show bdI (fun j => E j - F j) n from fun j hj => by have := pl_bd hE hF hj; dsimp only; omega)
  have hb2 := mn_bd (f := fun j => E j - F j) (k := n) (B := 172800000) h1 (fun j hj => pl_bd hE hF hj)
  have hle := mn_le_mx (fun j => E j - F j) n
  have HP := Lib.hid (show plF E F n = mxF (fun j => E j - F j) n - mnF (fun j => E j - F j) n from rfl)
  have HEN := Lib.hid (enF_pos (f := fun j => E j - F j) h1)
  clear hA hB hE hF
  obtain ⟨a, ha⟩ : ∃ a, mnF (fun j => E j - F j) n = a := ⟨_, rfl⟩
  obtain ⟨b, hbb⟩ : ∃ b, mxF (fun j => E j - F j) n = b := ⟨_, rfl⟩
  rw [ha, hbb] at hb2 hle HP HEN
  clear ha hbb
  obtain ⟨ba, bb⟩ := hb2
  go_enter Try.func62, Try.ntmps62
  go_wp2_with fail
  refine (diffs_any A B n c n d E F _ (HA.out.below (by go_grown)) (HB.out.below (by go_grown)) (Nat.le_refl _) (by unfold maxLen; omega) HBD.out).mono ?_
  rintro q1 w1 ⟨hb, gf, lb, rfl, hit⟩
  have B1 : Bl w w1 := Below.trans (by go_grown) (hb.mono (by (try simp only [World.size_alloc]); omega))
  have HIT := Lib.hid hit
  clear hb hit
  go_wp2_with fail
  refine (ends_any w1 HIT.out).mono ?_
  rintro q2 w2 ⟨rfl, hb⟩
  rw [HEN.out]
  have B2 := Lib.hid (B1.tr hb)
  clear hb
  dsimp only
  go_wp2_with fail
  go_ret
  exact ⟨ret_int HP.out.symm, B2.out⟩

set_option maxRecDepth 100000 in
set_option maxHeartbeats 3200000 in
theorem rplay_any (s : ByteArray) (A : Option Addr) (n c : Nat) (E : Nat → Int) (t : ByteArray) (B : Option Addr) (d : Nat) (F : Nat → Int) (w : World) (hA : Sl w A n E) (hB : Sl w B n F) (h1 : 1 ≤ n) (h4 : n ≤ 400) (hE : dyTo E n = true) (hF : dyTo F n = true) :
    Calls Try.prog 63 #[encB s A n c, encB t B n d] w fun e w' => e = .returned (.int .i64 (plF E F n)) ∧ Bl w w' := by
  obtain ⟨i0, hi0, hz0, hz1, hz2⟩ := info_parts6 int_info
  have HI := Lib.hid (And.intro hi0 (And.intro hz0 (And.intro hz1 hz2)))
  clear hi0 hz0 hz1 hz2
  have HA := Lib.hid hA
  have HB := Lib.hid hB
  have HPB := Lib.hid (fun j (hj : j < n) => pl_bd hE hF hj)
  have hb2 := mn_bd (f := fun j => E j - F j) (k := n) (B := 172800000) h1 (fun j hj => pl_bd hE hF hj)
  have hle := mn_le_mx (fun j => E j - F j) n
  have HP := Lib.hid (show plF E F n = mxF (fun j => E j - F j) n - mnF (fun j => E j - F j) n from rfl)
  clear hA hB hE hF
  obtain ⟨a, ha⟩ : ∃ a, mnF (fun j => E j - F j) n = a := ⟨_, rfl⟩
  obtain ⟨b, hbb⟩ : ∃ b, mxF (fun j => E j - F j) n = b := ⟨_, rfl⟩
  rw [ha, hbb] at hb2 hle HP
  have HMN := Lib.hid ha
  have HMX := Lib.hid hbb
  clear ha hbb
  obtain ⟨ba, bb⟩ := hb2
  go_enter Try.func63, Try.ntmps63
  go_wp2_with fail
  obtain ⟨W, hW⟩ : ∃ W, W = (w.alloc (.cells #[.string s, .slice A n c] 24)).alloc (.cells #[.string t, .slice B n d] 24) := ⟨_, rfl⟩
  have BW : Bl w W := by rw [hW]; go_grown
  have zW : W.heap.size = w.heap.size + 2 := by rw [hW]; simp
  have HX := Lib.hid (show W.cell? ⟨w.heap.size + 1, 1, none⟩ = some (.slice B n d) by rw [hW]; go_cell)
  rw [← hW]
  have NV : World.ownsRow W (w.heap.size + 2) 3 1 (.slice none 0 0) 0 [] := World.ownsRow_nil _ _ _ _
  clear hW
  go_loopw [5, 11] (fun v i wr => ∃ k : Nat, k ≤ n ∧ i = .int .i64 k ∧ Hid (wr.ownsRow (w.heap.size + 2) 3 1 v k (inC (fun j => E j - F j) k)) ∧ Below (w.heap.size + 2) W wr) (fun _ i _ => n - (RowKit.intOf i).toNat)
  case atStart => exact ⟨0, Nat.zero_le _, rfl, NV, Below.refl _ _⟩
  case round =>
    obtain ⟨k, hk, rfl, HO, hB⟩ := hrel
    have zB := hB.size
    have x1 := (hB.cell (p := ⟨w.heap.size + 1, 1, none⟩) (by show w.heap.size + 1 < _; omega)).trans HX.out
    have lx := ltb x1
    by_cases hlt : k < n
    · obtain ⟨b1, off, rfl, hbb, hc⟩ := (HA.out.below BW) (by omega)
      obtain ⟨b2, off2, rfl, hbb2, hc2⟩ := (HB.out.below BW) (by omega)
      have c0 := (hB.cell (p := ⟨b1, off + k, none⟩) (by show b1 < _; omega)).trans (hc k hlt)
      have d0 := (hB.cell (p := ⟨b2, off2 + k, none⟩) (by show b2 < _; omega)).trans (hc2 k hlt)
      have hz := HPB.out k hlt
      obtain ⟨u, hu⟩ : ∃ u, u = E k := ⟨_, rfl⟩
      obtain ⟨v2, hv2⟩ : ∃ v2, v2 = F k := ⟨_, rfl⟩
      have HL := Lib.hid (show inC (fun j => E j - F j) (k + 1) = inC (fun j => E j - F j) k ++ [.int .i64 (u - v2)] by rw [inC, hu, hv2])
      have len := inC_len (fun j => E j - F j) k
      rw [← hu] at c0 hz
      rw [← hv2] at d0 hz
      obtain ⟨z0, z1⟩ := hz
      have hnew := Lib.hid (heap_alloc_new wr (.cells #[.int .i64 (u - v2)] 3))
      clear hc hc2 hu hv2
      go_wp2_with (at_builtin; refine wpList_append_lies _ rfl _ _ _ rfl (w.heap.size + 2) 3 i0 _ 1 8 Try.underlying22 HI.out.1 HI.out.2.1 HI.out.2.2.1 HI.out.2.2.2 rfl (by omega) _ k _ rfl (HO.out.alloc _) ⟨wr.heap.size, 0, none⟩ 1 1 [.int .i64 (u - v2)] rfl rfl (World.news_of_block hnew.out) (by simp [Value.oneCell']) (by omega) (by unfold maxLen; omega) (by omega) (by (try simp only [World.size_alloc]); omega) _ rfl ?_; intro gg cap w9 hown1 hgrow hat hlt9)
      have HO9 := Lib.hid (show w9.ownsRow (w.heap.size + 2) 3 1 (.slice (some ⟨gg, 0, none⟩) (k + 1) cap) (k + 1) (inC (fun j => E j - F j) (k + 1)) by rw [HL.out]; exact hown1)
      have hl := HO.out.lt
      have X9 : Below (w.heap.size + 2) wr w9 := Below.grown (w := wr.alloc (.cells #[.int .i64 (u - v2)] 3)) (by go_grown) hgrow (by (try simp only [World.size_alloc]); omega) (fun j hj => (hl j hj).1)
      clear hown1 hgrow hat
      go_roundw
      case rel => exact ⟨k + 1, by omega, by go_num, HO9.out, Below.trans hB X9⟩
      case measure => simp [RowKit.intOf]; omega
    · obtain rfl : k = n := by omega
      obtain ⟨A', cap', rfl, q1, q2, hsl⟩ := sl_of_own HO.out
      have HSL := Lib.hid hsl
      have BB := Lib.hid (BW.tr (hB.mono (by omega)))
      clear hsl
      go_wp2_with fail
      refine (greatest_any A' k cap' (fun j => E j - F j) _ HSL.out h1 (by unfold maxLen; omega)).mono ?_
      rintro e1 w1 ⟨rfl, rfl⟩
      rw [HMX.out]
      go_wp2_with fail
      refine (least_any A' k cap' (fun j => E j - F j) _ HSL.out h1 (by unfold maxLen; omega)).mono ?_
      rintro e1 w1 ⟨rfl, rfl⟩
      rw [HMN.out]
      go_wp2_with fail
      go_ret
      exact ⟨ret_int HP.out.symm, BB.out⟩
end Go.Proofs.Ytbhdoafcjfcgfaa
