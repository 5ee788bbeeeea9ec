/-
  Contracts of package night: slices.Compare, cmp.Or, the scale that compares lists.
-/
import Derived.Test.YtbmenpfpeadckaaNF
namespace Go.Proofs.Ytbmenpfpeadckaa
open Go.RowKit
set_option linter.unusedSimpArgs false
set_option linter.unusedVariables false

theorem lex_step {l1 l2 : List Int} {k : Nat} (h1 : k < l1.length) (h2 : k < l2.length) :
    lexL (l1.drop k) (l2.drop k) = if l1.getD k 0 < l2.getD k 0 then -1 else if l2.getD k 0 < l1.getD k 0 then 1 else lexL (l1.drop (k + 1)) (l2.drop (k + 1)) := by
  rw [List.drop_eq_getElem_cons h1, List.drop_eq_getElem_cons h2, lexL]
  simp only [List.getD, List.getElem?_eq_getElem h1, List.getElem?_eq_getElem h2, Option.getD_some]
theorem lex_over {l1 l2 : List Int} {k : Nat} (h1 : k < l1.length) (h2 : l2.length ≤ k) : lexL (l1.drop k) (l2.drop k) = 1 := by
  rw [List.drop_eq_getElem_cons h1, List.drop_eq_nil_of_le h2, lexL]
theorem lex_under {l1 l2 : List Int} {k : Nat} (h1 : l1.length ≤ k) (h2 : k < l2.length) : lexL (l1.drop k) (l2.drop k) = -1 := by
  rw [List.drop_eq_nil_of_le h1, List.drop_eq_getElem_cons h2, lexL]
theorem lex_end {l1 l2 : List Int} {k : Nat} (h1 : l1.length ≤ k) (h2 : l2.length ≤ k) : lexL (l1.drop k) (l2.drop k) = 0 := by
  rw [List.drop_eq_nil_of_le h1, List.drop_eq_nil_of_le h2, lexL]

set_option maxRecDepth 100000 in
set_option maxHeartbeats 1600000 in
theorem lexN_any (u v : Value) (l1 l2 : List Int) (w : World) (lo lo' : Nat) (hu : IsL w lo u l1) (hv : IsL w lo' v l2) (h1 : l1.length ≤ 400) (h2 : l2.length ≤ 400) :
    Calls Try.prog 75 #[u, v] w fun e w' => e = .returned (.int .i64 (lexL l1 l2)) ∧ w = w' := by
  obtain ⟨A, c, rfl, q1, q2, hsA, _⟩ := hu
  obtain ⟨B, d, rfl, r1, r2, hsB, _⟩ := hv
  have HA := Lib.hid hsA
  have HB := Lib.hid hsB
  have HST := Lib.hid (fun k => lex_step (l1 := l1) (l2 := l2) (k := k))
  have HOV := Lib.hid (fun k => lex_over (l1 := l1) (l2 := l2) (k := k))
  have HUN := Lib.hid (fun k => lex_under (l1 := l1) (l2 := l2) (k := k))
  have HEN := Lib.hid (fun k => lex_end (l1 := l1) (l2 := l2) (k := k))
  have H0 := Lib.hid (show lexL l1 l2 = lexL (l1.drop 0) (l2.drop 0) from rfl)
  obtain ⟨n, hn⟩ : ∃ n, n = l1.length := ⟨_, rfl⟩
  obtain ⟨m, hm⟩ : ∃ m, m = l2.length := ⟨_, rfl⟩
  rw [← hn] at HA HST HOV HUN HEN h1 q1 ⊢
  rw [← hm] at HB HST HOV HUN HEN h2 r1 ⊢
  clear hsA hsB hn hm
  go_enter Try.func75, Try.ntmps75
  go_wp2_with fail
  go_loop [11] (fun i => ∃ k : Nat, k ≤ n ∧ k ≤ m ∧ i = .int .i64 k ∧ Hid (lexL l1 l2 = lexL (l1.drop k) (l2.drop k))) (fun i => n - (intOf i).toNat)
  case atStart => exact ⟨0, Nat.zero_le _, Nat.zero_le _, rfl, H0.out⟩
  case round =>
    obtain ⟨k, hk, hkm, rfl, HL⟩ := hrel
    by_cases hlt : k < n
    · obtain ⟨b, off, rfl, hbb, hc⟩ := HA.out (by omega)
      have c0 := hc k hlt
      clear hc
      by_cases hm : m ≤ k
      · have HR := Lib.hid (show lexL l1 l2 = 1 by rw [HL.out]; exact HOV.out k hlt hm)
        have hm' : (m : Int) ≤ (k : Int) := by omega
        go_wp2_with fail
        go_ret
        exact ⟨ret_intN HR.out.symm, rfl⟩
      · obtain ⟨b2, off2, rfl, hbb2, hc2⟩ := HB.out (by omega)
        have d0 := hc2 k (by omega)
        have hs := HST.out k hlt (by omega)
        clear hc2
        have hm' : ¬ ((m : Int) ≤ (k : Int)) := by omega
        dsimp only at c0 d0
        obtain ⟨x, hx⟩ : ∃ x, x = l1.getD k 0 := ⟨_, rfl⟩
        obtain ⟨y, hy⟩ : ∃ y, y = l2.getD k 0 := ⟨_, rfl⟩
        rw [← hx] at c0 hs
        rw [← hy] at d0 hs
        have HS := Lib.hid hs
        clear hs hx hy
        by_cases h3 : x < y
        · have HR := Lib.hid (show lexL l1 l2 = -1 by rw [HL.out, HS.out, if_pos h3])
          have HG := Lib.hid (sgn_lt h3)
          go_wp2_with fail
          refine (compareN_any x y _).mono ?_
          rintro e1 w1 ⟨rfl, rfl⟩
          rw [HG.out]
          go_wp2_with fail
          go_ret
          exact ⟨ret_intN HR.out.symm, rfl⟩
        · by_cases h4 : y < x
          · have HR := Lib.hid (show lexL l1 l2 = 1 by rw [HL.out, HS.out, if_neg h3, if_pos h4])
            have HG := Lib.hid (sgn_gt h4)
            go_wp2_with fail
            refine (compareN_any x y _).mono ?_
            rintro e1 w1 ⟨rfl, rfl⟩
            rw [HG.out]
            go_wp2_with fail
            go_ret
            exact ⟨ret_intN HR.out.symm, rfl⟩
          · have HR := Lib.hid (show lexL l1 l2 = lexL (l1.drop (k + 1)) (l2.drop (k + 1)) by rw [HL.out, HS.out, if_neg h3, if_neg h4])
            have HG := Lib.hid (sgn_eq (show x = y by omega))
            go_wp2_with fail
            refine (compareN_any x y _).mono ?_
            rintro e1 w1 ⟨rfl, rfl⟩
            rw [HG.out]
            go_wp2_with fail
            go_round
            case rel => exact ⟨k + 1, by omega, by omega, by go_num, HR.out⟩
            case measure => simp [intOf]; omega
    · obtain rfl : k = n := by omega
      by_cases hm : k < m
      · have HR := Lib.hid (show lexL l1 l2 = -1 by rw [HL.out]; exact HUN.out k (Nat.le_refl _) hm)
        have hm' : (k : Int) < (m : Int) := by omega
        go_wp2_with fail
        go_ret
        exact ⟨ret_intN HR.out.symm, rfl⟩
      · have HR := Lib.hid (show lexL l1 l2 = 0 by rw [HL.out]; exact HEN.out k (Nat.le_refl _) (by omega))
        have hm' : ¬ ((k : Int) < (m : Int)) := by omega
        go_wp2_with fail
        go_ret
        exact ⟨ret_intN HR.out.symm, rfl⟩
set_option maxRecDepth 100000 in
set_option maxHeartbeats 1600000 in
theorem orN_any (b : Nat) (x y z : Int) (w : World) (h0 : w.cell? ⟨b, 0, none⟩ = some (.int .i64 x)) (h1 : w.cell? ⟨b, 1, none⟩ = some (.int .i64 y)) (h2 : w.cell? ⟨b, 2, none⟩ = some (.int .i64 z)) :
    Calls Try.prog 73 #[.slice (some ⟨b, 0, none⟩) 3 3] w fun e w' => e = .returned (.int .i64 (orF x y z)) ∧ w = w' := by
  go_enter Try.func73, Try.ntmps73
  go_wp2_with fail
  go_loop [8] (fun i => ∃ k : Nat, k ≤ 3 ∧ i = .int .i64 k ∧ Hid ((0 < k → x = 0) ∧ (1 < k → y = 0) ∧ (2 < k → z = 0))) (fun i => 3 - (intOf i).toNat)
  case atStart => exact ⟨0, by omega, rfl, by omega, by omega, by omega⟩
  case round =>
    obtain ⟨k, hk, rfl, HH⟩ := hrel
    rcases (show k = 0 ∨ k = 1 ∨ k = 2 ∨ k = 3 by omega) with rfl | rfl | rfl | rfl
    · by_cases q : x = 0
      · have q' : (x != 0) = false := by simp [q]
        go_wp2_with fail
        go_round
        case rel => exact ⟨1, by omega, by go_num, fun _ => q, fun h => absurd h (by omega), fun h => absurd h (by omega)⟩
        case measure => simp [intOf]
      · have q' : (x != 0) = true := by simp [q]
        have HR := Lib.hid (show orF x y z = x from if_pos q)
        go_wp2_with fail
        go_ret
        exact ⟨ret_intN HR.out.symm, rfl⟩
    · have p := Lib.hid (HH.out.1 (by omega))
      by_cases q : y = 0
      · have q' : (y != 0) = false := by simp [q]
        go_wp2_with fail
        go_round
        case rel => exact ⟨2, by omega, by go_num, fun _ => p.out, fun _ => q, fun h => absurd h (by omega)⟩
        case measure => simp [intOf]
      · have q' : (y != 0) = true := by simp [q]
        have HR := Lib.hid (show orF x y z = y by rw [orF, if_neg (fun h => h p.out), if_pos q])
        go_wp2_with fail
        go_ret
        exact ⟨ret_intN HR.out.symm, rfl⟩
    · have p := Lib.hid (HH.out.1 (by omega))
      have p2 := Lib.hid (HH.out.2.1 (by omega))
      by_cases q : z = 0
      · have q' : (z != 0) = false := by simp [q]
        go_wp2_with fail
        go_round
        case rel => exact ⟨3, by omega, by go_num, fun _ => p.out, fun _ => p2.out, fun _ => q⟩
        case measure => simp [intOf]
      · have q' : (z != 0) = true := by simp [q]
        have HR := Lib.hid (show orF x y z = z by rw [orF, if_neg (fun h => h p.out), if_neg (fun h => h p2.out)])
        go_wp2_with fail
        go_ret
        exact ⟨ret_intN HR.out.symm, rfl⟩
    · have p := Lib.hid (HH.out.1 (by omega))
      have p2 := Lib.hid (HH.out.2.1 (by omega))
      have p3 := Lib.hid (HH.out.2.2 (by omega))
      have HR := Lib.hid (show orF x y z = 0 by rw [orF, if_neg (fun h => h p.out), if_neg (fun h => h p2.out), p3.out])
      go_wp2_with fail
      go_ret
      exact ⟨ret_intN HR.out.symm, rfl⟩
end Go.Proofs.Ytbmenpfpeadckaa
