/-
  The walk of RateHolds.
-/
import Derived.Test.YtflajochohbokaaRM
import Derived.Test.YtflajochohbokaaRL
namespace Go.Proofs.Ytflajochohbokaa
open Go.RowKit
set_option linter.unusedSimpArgs false
set_option linter.unusedVariables false

theorem al_eq {E : Nat → Int} {n L K : Nat} (hK : K = n - 1 - L) : mnF (fun j => rtF E 1 (j + K)) L = alF E n L ∧ mxF (fun j => rtF E 1 (j + K)) L = agF E n L := by
  have e : ∀ j, rtF E 1 (j + K) = stF (laF E n L) j := fun j => by
    unfold rtF stF laF
    rw [← hK, Nat.one_mul, Nat.one_mul, show j + K + 1 = j + 1 + K by omega]
  exact ⟨mn_congr (e 0) (fun j _ => e j), mx_congr (e 0) (fun j _ => e j)⟩

set_option maxRecDepth 100000 in
set_option maxHeartbeats 3200000 in
theorem holds_walk (X : Bx) (last : Int) (B : Option Addr) (m d : Nat) (S : Nat → Int) (w : World) (hX : BxOk w X) (hm : m ≤ d ∧ d ≤ maxLen) (hB : Sl w B m S) :
    Calls Try.prog 9 #[encB X.s X.A X.n X.c, .int .i64 last, .slice B m d] w fun e w' => e = .returned (.bool true) ∧ Bl w w' := by
  obtain ⟨s, A, n, c, E⟩ := X
  have HX := Lib.hid hX
  obtain ⟨hs, hn, hc, hA⟩ := hX
  dsimp only at hs hn hc hA
  obtain ⟨hm, hd⟩ := hm
  have HA := Lib.hid hA
  have HB := Lib.hid hB
  have HS := Lib.hid hs
  have HC := Lib.hid hc
  have HNC := Lib.hid hn
  have HN := Lib.hid (show n ≤ maxLen by omega)
  clear hA hs hB
  unfold maxLen at hc hd
  by_cases hf : ftF (fun _ => ⟨s, A, n, c, E⟩) 1 = true
  rotate_left
  · have HF := Lib.hid (show ftF (fun _ => ⟨s, A, n, c, E⟩) 1 = false by simpa using hf)
    clear hf
    go_enter Try.func9, Try.ntmps9
    go_wp2_with fail
    refine (fit_any _ 1 1 (fun _ => ⟨s, A, n, c, E⟩) _ (bxl_one (x := ⟨s, A, n, c, E⟩) (by go_cell) (by go_cell)) (fun j _ => HX.out.below (by go_grown)) (by decide)).mono ?_
    rintro q1 w1 ⟨rfl, hb⟩
    have x0 := kcb hb (b := w.heap.size) (o := 0) (v := .string s) (by first | assumption | (refine cellUp ?_; assumption) | go_cell)
    have x1 := kcb hb (b := w.heap.size) (o := 1) (v := .slice A n c) (by first | assumption | (refine cellUp ?_; assumption) | go_cell)
    have B1 : Bl w w1 := Below.trans (by go_grown) (hb.mono (by (try simp only [World.size_alloc, World.size_setCell, World.size_drew]); omega))
    have l1 := ltb x1
    have zz1 := B1.size
    clear hb
    rw [HF.out]
    go_wp2_with fail
    refine (awakeR_any _).mono ?_
    rintro e w2 ⟨rfl, hb⟩
    go_wp2_with fail
    go_ret
    exact ⟨rfl, B1.tr hb⟩
  · have HF := Lib.hid hf
    clear hf
    by_cases q1 : 20 < m
    · skip
      go_enter Try.func9, Try.ntmps9
      go_wp2_with fail
      refine (fit_any _ 1 1 (fun _ => ⟨s, A, n, c, E⟩) _ (bxl_one (x := ⟨s, A, n, c, E⟩) (by go_cell) (by go_cell)) (fun j _ => HX.out.below (by go_grown)) (by decide)).mono ?_
      rintro q1 w1 ⟨rfl, hb⟩
      have x0 := kcb hb (b := w.heap.size) (o := 0) (v := .string s) (by first | assumption | (refine cellUp ?_; assumption) | go_cell)
      have x1 := kcb hb (b := w.heap.size) (o := 1) (v := .slice A n c) (by first | assumption | (refine cellUp ?_; assumption) | go_cell)
      have B1 : Bl w w1 := Below.trans (by go_grown) (hb.mono (by (try simp only [World.size_alloc, World.size_setCell, World.size_drew]); omega))
      have l1 := ltb x1
      have zz1 := B1.size
      clear hb
      rw [HF.out]
      go_wp2_with fail
      refine (awakeR_any _).mono ?_
      rintro e w2 ⟨rfl, hb⟩
      go_wp2_with fail
      go_ret
      exact ⟨rfl, B1.tr hb⟩
    · have q1' : m ≤ 20 := by omega
      clear q1
      by_cases q2 : last < 1
      · skip
        go_enter Try.func9, Try.ntmps9
        go_wp2_with fail
        refine (fit_any _ 1 1 (fun _ => ⟨s, A, n, c, E⟩) _ (bxl_one (x := ⟨s, A, n, c, E⟩) (by go_cell) (by go_cell)) (fun j _ => HX.out.below (by go_grown)) (by decide)).mono ?_
        rintro q1 w1 ⟨rfl, hb⟩
        have x0 := kcb hb (b := w.heap.size) (o := 0) (v := .string s) (by first | assumption | (refine cellUp ?_; assumption) | go_cell)
        have x1 := kcb hb (b := w.heap.size) (o := 1) (v := .slice A n c) (by first | assumption | (refine cellUp ?_; assumption) | go_cell)
        have B1 : Bl w w1 := Below.trans (by go_grown) (hb.mono (by (try simp only [World.size_alloc, World.size_setCell, World.size_drew]); omega))
        have l1 := ltb x1
        have zz1 := B1.size
        clear hb
        rw [HF.out]
        go_wp2_with fail
        refine (awakeR_any _).mono ?_
        rintro e w2 ⟨rfl, hb⟩
        go_wp2_with fail
        go_ret
        exact ⟨rfl, B1.tr hb⟩
      · have q2' : 1 ≤ last := by omega
        clear q2
        go_enter Try.func9, Try.ntmps9
        go_wp2_with fail
        refine (fit_any _ 1 1 (fun _ => ⟨s, A, n, c, E⟩) _ (bxl_one (x := ⟨s, A, n, c, E⟩) (by go_cell) (by go_cell)) (fun j _ => HX.out.below (by go_grown)) (by decide)).mono ?_
        rintro q1 w1 ⟨rfl, hb⟩
        have x0 := kcb hb (b := w.heap.size) (o := 0) (v := .string s) (by first | assumption | (refine cellUp ?_; assumption) | go_cell)
        have x1 := kcb hb (b := w.heap.size) (o := 1) (v := .slice A n c) (by first | assumption | (refine cellUp ?_; assumption) | go_cell)
        have B1 : Bl w w1 := Below.trans (by go_grown) (hb.mono (by (try simp only [World.size_alloc, World.size_setCell, World.size_drew]); omega))
        have l1 := ltb x1
        have zz1 := B1.size
        clear hb
        rw [HF.out]
        go_wp2_with fail
        refine (daily_any s A n c E _ HS.out (HA.out.below B1) HNC.out HC.out).mono ?_
        rintro q2 w2 ⟨hb, ⟨hv, he⟩ | ⟨hv, A1, c1, he, k1, k1', hA1⟩⟩
        · skip
          have x0 := kcb hb (b := w.heap.size) (o := 0) (v := .string s) (by first | assumption | (refine cellUp ?_; assumption) | go_cell)
          have x1 := kcb hb (b := w.heap.size) (o := 1) (v := .slice A n c) (by first | assumption | (refine cellUp ?_; assumption) | go_cell)
          have B2 := B1.tr hb
          have l2 := ltb x0
          have zz2 := B2.size
          clear hb
          unfold LstNo at he
          subst he
          go_wp2_with fail
          refine (awakeR_any _).mono ?_
          rintro e w3 ⟨rfl, hb⟩
          go_wp2_with fail
          go_ret
          exact ⟨rfl, B2.tr hb⟩
        · skip
          have x0 := kcb hb (b := w.heap.size) (o := 0) (v := .string s) (by first | assumption | (refine cellUp ?_; assumption) | go_cell)
          have x1 := kcb hb (b := w.heap.size) (o := 1) (v := .slice A n c) (by first | assumption | (refine cellUp ?_; assumption) | go_cell)
          have B2 := B1.tr hb
          have l2 := ltb x0
          have zz2 := B2.size
          clear hb
          subst he
          obtain ⟨_, n2, n4, hE⟩ := vbB_iff.1 hv
          have HE := Lib.hid hE
          have HV := Lib.hid hv
          clear hv hE
          rw [Nat.div_one] at k1 hA1 ⊢
          obtain ⟨p, hp⟩ : ∃ p, p = n - 1 := ⟨_, rfl⟩
          rw [← hp] at k1 hA1 ⊢
          by_cases q3 : (p : Int) < last
          · skip
            go_wp2_with fail
            refine (awakeR_any _).mono ?_
            rintro e w3 ⟨rfl, hb⟩
            go_wp2_with fail
            go_ret
            exact ⟨rfl, B2.tr hb⟩
          · skip
            have q3' : last ≤ (p : Int) := by omega
            clear q3
            obtain ⟨L, rfl⟩ : ∃ L : Nat, last = (L : Int) := ⟨last.toNat, by omega⟩
            have L1 : 1 ≤ L := by omega
            have Lp : L ≤ p := by omega
            have Ln : L ≤ n - 1 := by omega
            obtain ⟨K, hK⟩ : ∃ K, K = n - 1 - L := ⟨_, rfl⟩
            have kk : p - K = L := by omega
            have kp : K ≤ p := by omega
            have HD := Lib.hid (al_eq (E := E) (n := n) (L := L) (K := K) hK)
            have HAL := Lib.hid (al_bd HE.out L1 Ln)
            obtain ⟨b1, off1, rfl, hb1, hc1⟩ := hA1 (by omega)
            have HT := Lib.hid (show Sl w2 (some ⟨b1, off1 + K, none⟩) L (fun j => rtF E 1 (j + K)) by rw [← kk]; exact hA1.tail _ (by omega))
            have eK : IntKind.i64.wrap ((p : Int) - (L : Int)) = (K : Int) := by rw [IntWalk.i64_in _ (by omega)]; omega
            have eK' : wrap64 ((p : Int) - (L : Int)) = (K : Int) := by rw [IntWalk.wrap64_in _ (by omega)]; omega
            obtain ⟨b, off, rfl, hb0, hc0⟩ := HA.out (by omega)
            obtain ⟨u, hu⟩ : ∃ u, u = E (n - 1) := ⟨_, rfl⟩
            have cu := (B2.cell (p := ⟨b, off + (n - 1), none⟩) hb0).trans (hc0 (n - 1) (by omega))
            have ub : -86400000 ≤ u ∧ u ≤ 86400000 := by rw [hu]; exact dyTo_at HE.out (by omega)
            obtain ⟨ub1, ub2⟩ := ub
            rw [← hu] at cu
            have tN : ((n : Int) - 1).toNat = n - 1 := by omega
            have HAH := Lib.hid (fun (e : Int) (h1 : 1 ≤ e ∧ e ≤ 400) => (show ahR s n E L e = spV (u + e * alF E n L) (u + e * agF E n L) 0 by rw [hu]; exact ahR_ok HV.out ⟨L1, h1⟩ Ln n2))
            have K1 := Lib.hid k1'
            have c1b : c1 ≤ 2 ^ 63 - 1 := by have := K1.out; unfold maxLen at this; exact this
            clear hA1 hc1 hc0 hu k1' hp hK
            obtain ⟨a, ha⟩ : ∃ a, a = alF E n L := ⟨_, rfl⟩
            obtain ⟨g, hg⟩ : ∃ g, g = agF E n L := ⟨_, rfl⟩
            rw [← ha, ← hg] at HAH HD HAL
            obtain ⟨al1, al2, al3⟩ := HAL.out
            clear ha hg
            have ck : c1 - K ≤ 2 ^ 63 - 1 := by omega
            have cne : ¬ c1 = K := by omega
            go_wp2_with fail
            go_region_law (first | (go_simp; go_at_call 43; refine (least_any (some ⟨b1, off1 + K, none⟩) L (c1 - K) (fun j => rtF E 1 (j + K)) _ (HT.out.below (by go_grown)) L1 (by unfold maxLen; omega)).mono ?_; rintro e9 v9 ⟨rfl, rfl⟩; rw [HD.out.1]) | (go_simp; go_at_call 44; refine (greatest_any (some ⟨b1, off1 + K, none⟩) L (c1 - K) (fun j => rtF E 1 (j + K)) _ (HT.out.below (by go_grown)) L1 (by unfold maxLen; omega)).mono ?_; rintro e9 v9 ⟨rfl, rfl⟩; rw [HD.out.2]))
            clear HT HD eK eK' cne ck kk kp hb1 k1
            go_wp2_with fail
            obtain ⟨V, hV⟩ : ∃ V, V = w2.drew := ⟨_, rfl⟩
            have BV0 : Bl w2 V := by rw [hV]; go_grown
            have BV : Bl w V := B2.tr BV0
            rw [← hV]
            have HX0 := Lib.hid (And.intro (kcb BV0 x0) (kcb BV0 x1))
            clear hV x0 x1 cu
            go_loopw [11, 68] (fun v i wr => ∃ (k : Nat) (t : Int), k ≤ m ∧ v = .int .i64 t ∧ i = .int .i64 k ∧ Hid (u + (k : Int) * a ≤ t ∧ t ≤ u + (k : Int) * g) ∧ -86400000 - 172800000 * (k : Int) ≤ t ∧ t ≤ 86400000 + 172800000 * (k : Int) ∧ Hid (wr.cell? ⟨w.heap.size, 0, none⟩ = some (.string s) ∧ wr.cell? ⟨w.heap.size, 1, none⟩ = some (.slice (some ⟨b, off, none⟩) n c)) ∧ Bl w wr) (fun _ i _ => m - (RowKit.intOf i).toNat)
            case atStart => exact ⟨0, u, Nat.zero_le _, rfl, rfl, Lib.hid ⟨by simp, by simp⟩, by simp; omega, by simp; omega, HX0, BV⟩
            case round =>
              obtain ⟨k, t, hk, rfl, rfl, HI, t1, t2, HXr, hB⟩ := hrel
              have zB := hB.size
              obtain ⟨x0, x1⟩ := HXr.out
              have lx := ltb x0
              by_cases hlt : k < m
              · obtain ⟨b3, off3, rfl, hb3, hc3⟩ := (HB.out.below hB) (by omega)
                have c0 := hc3 k hlt
                clear hc3
                obtain ⟨q, hq⟩ : ∃ q, max a (min g (S k)) = q := ⟨_, rfl⟩
                have qb : a ≤ q ∧ q ≤ g := by omega
                obtain ⟨qb1, qb2⟩ := qb
                have HP := Lib.hid (HAH.out ((k : Int) + 1) (by omega))
                obtain ⟨P, hP⟩ : ∃ P, P = u + ((k : Int) + 1) * a := ⟨_, rfl⟩
                obtain ⟨Q, hQ⟩ : ∃ Q, Q = u + ((k : Int) + 1) * g := ⟨_, rfl⟩
                rw [← hP, ← hQ] at HP
                have f1 : P ≤ t + q := by have := HI.out.1; rw [hP, Int.add_mul, Int.one_mul]; omega
                have f2 : t + q ≤ Q := by have := HI.out.2; rw [hQ, Int.add_mul, Int.one_mul]; omega
                have HJ := Lib.hid (show u + ((k + 1 : Nat) : Int) * a ≤ t + q ∧ t + q ≤ u + ((k + 1 : Nat) : Int) * g by
                  rw [Int.natCast_add, show ((1 : Nat) : Int) = 1 from rfl, ← hP, ← hQ]; exact ⟨f1, f2⟩)
                clear hP hQ
                unfold spV at HP
                go_wp2_with fail
                refine (ahead_any s (some ⟨b, off, none⟩) n c E (L : Int) ((k : Int) + 1) _ HS.out (HA.out.below hB) HNC.out HC.out).mono ?_
                rintro q4 w4 ⟨rfl, hb⟩
                rw [HP.out]
                have x0 := kcb hb x0
                have x1 := kcb hb x1
                have B4 := hB.tr hb
                have z4 := B4.size
                have lx4 := ltb x0
                clear hb
                go_wp2_with fail
                go_roundw
                case rel => exact ⟨k + 1, t + q, by omega, rfl, by go_num, HJ, by omega, by omega, Lib.hid ⟨by first | assumption | (refine cellUp ?_; assumption) | go_cell, by first | assumption | (refine cellUp ?_; assumption) | go_cell⟩, B4.tr (by go_grown)⟩
                case measure => simp [RowKit.intOf]; omega
              · obtain rfl : k = m := by omega
                go_wp2_with fail
                refine (awakeR_any _).mono ?_
                rintro e w5 ⟨rfl, hb⟩
                go_wp2_with fail
                go_ret
                exact ⟨rfl, hB.tr hb⟩
end Go.Proofs.Ytflajochohbokaa
