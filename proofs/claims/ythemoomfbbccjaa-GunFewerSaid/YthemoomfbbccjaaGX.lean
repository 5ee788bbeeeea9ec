/-
  Contracts of Mirrored, both.
-/
import Derived.Test.YthemoomfbbccjaaGT
import Derived.Test.YthemoomfbbccjaaGJ
namespace Go.Proofs.Ythemoomfbbccjaa
open Go.RowKit
set_option linter.unusedSimpArgs false
set_option linter.unusedVariables false

theorem shot_info : (Try.prog.info? 44).map (fun i => (i.zero, i.size, i.bytes)) = some (some (.agg #[.int .i64 0, .int .i64 0, .int .i64 0, .int .i64 0]), 4, 32) := by kernel_rfl
def cellsH (s : Sho) : List Value := [.int .i64 s.p.x, .int .i64 s.p.y, .int .i64 s.lo, .int .i64 s.hi]
/-- The cells of the first k shots. -/
def shC (S : Nat → Sho) : Nat → List Value
  | 0 => []
  | k + 1 => shC S k ++ cellsH (S k)
theorem shC_len (S : Nat → Sho) (k : Nat) : (shC S k).length = k * 4 := by
  induction k with
  | zero => rfl
  | succ k ih => simp [shC, ih, cellsH]; omega
theorem shC_at (S : Nat → Sho) {n j i : Nat} (hj : j < n) (hi : i < 4) : (shC S n)[j * 4 + i]? = (cellsH (S j))[i]? := by
  induction n with
  | zero => omega
  | succ n ih =>
    by_cases e : j = n
    · subst e
      rw [shC, List.getElem?_append_right (by rw [shC_len]; omega), shC_len, show j * 4 + i - j * 4 = i by omega]
    · rw [shC, List.getElem?_append_left (by rw [shC_len]; omega)]
      exact ih (by omega)
theorem shC_congr {f g : Nat → Sho} {n : Nat} (h : ∀ j, j < n → f j = g j) : shC f n = shC g n := by
  induction n with
  | zero => rfl
  | succ n ih => rw [shC, shC, ih (fun j hj => h j (by omega)), h n (by omega)]
theorem shC_set (S T : Nat → Sho) {n k : Nat} (x : Int) (hk : k < n) (h1 : T k = ⟨⟨x, (S k).p.y⟩, (S k).lo, (S k).hi⟩) (h2 : ∀ j, j < n → j ≠ k → T j = S j) : (shC S n).set (k * 4) (.int .i64 x) = shC T n := by
  induction n with
  | zero => omega
  | succ n ih =>
    by_cases e : k = n
    · subst e
      rw [shC, shC, List.set_append_right _ _ (by rw [shC_len]; omega), shC_len, show k * 4 - k * 4 = 0 by omega, shC_congr (f := T) (g := S) (fun j hj => h2 j (by omega) (by omega)), h1]
      rfl
    · rw [shC, shC, List.set_append_left _ _ (by rw [shC_len]; omega), ih (by omega) (fun j hj hn => h2 j (by omega) hn), h2 n (by omega) (by omega)]
theorem shC_one (S : Nat → Sho) (n : Nat) : ∀ u ∈ shC S n, u.oneCell' = true := by
  induction n with
  | zero => intro u hu; cases hu
  | succ n ih =>
    intro u hu
    rcases List.mem_append.1 hu with h | h
    · exact ih u h
    · simp only [cellsH, List.mem_cons, List.not_mem_nil, or_false] at h
      rcases h with rfl | rfl | rfl | rfl <;> rfl
theorem sh_news {w : World} {ad : Addr} {n : Nat} {S : Nat → Sho} (h : Shl w (some ad) n S) : ∀ j u, (shC S n)[j]? = some u → w.cell? (ad.add j) = some u := fun j u hu => by
  have hj : j < n * 4 := by have := (List.getElem?_eq_some_iff.1 hu).1; rwa [shC_len] at this
  obtain ⟨b', off', e, _, hc⟩ := h (by omega)
  obtain rfl : ad = ⟨b', off', none⟩ := Option.some.inj e
  obtain ⟨c0, c1, c2, c3⟩ := hc (j / 4) (by omega)
  have hd : (shC S n)[j / 4 * 4 + j % 4]? = (cellsH (S (j / 4)))[j % 4]? := shC_at S (by omega) (by omega)
  rw [show j / 4 * 4 + j % 4 = j by omega, hu] at hd
  rw [show (⟨b', off', none⟩ : Addr).add j = ⟨b', off' + j, none⟩ by unfold Addr.add; split <;> simp_all]
  rcases (show j % 4 = 0 ∨ j % 4 = 1 ∨ j % 4 = 2 ∨ j % 4 = 3 by omega) with r | r | r | r
  · rw [r] at hd
    rw [show off' + j = off' + j / 4 * 4 by omega, c0]; exact hd.symm
  · rw [r] at hd
    rw [show off' + j = off' + j / 4 * 4 + 1 by omega, c1]; exact hd.symm
  · rw [r] at hd
    rw [show off' + j = off' + j / 4 * 4 + 2 by omega, c2]; exact hd.symm
  · rw [r] at hd
    rw [show off' + j = off' + j / 4 * 4 + 3 by omega, c3]; exact hd.symm
theorem shl_of_own {w : World} {base : Nat} {e : TypeId} {v : Value} {n : Nat} {S : Nat → Sho} (h : w.ownsRow base e 4 v n (shC S n)) : ∃ A cap, v = .slice A n cap ∧ n ≤ cap ∧ cap ≤ maxLen ∧ Shl w A n S := by
  rcases h.2 with ⟨rfl, rfl⟩ | ⟨g, cap, cur, rfl, hb, hg, hnc, hcm, _⟩
  · exact ⟨none, 0, rfl, Nat.le_refl _, by decide, fun h => absurd h (by omega)⟩
  · refine ⟨some ⟨g, 0, none⟩, cap, rfl, hnc, hcm, fun hn => ⟨g, 0, rfl, (Array.getElem?_eq_some_iff.1 hg).1, fun j hj => ?_⟩⟩
    have hat : ∀ i, i < 4 → w.cell? ⟨g, 0 + j * 4 + i, none⟩ = (cellsH (S j))[i]? := fun i hi => by
      rw [Nat.zero_add, h.cellAt (j * 4 + i) (by omega), shC_at S hj hi]
    exact ⟨hat 0 (by omega), hat 1 (by omega), hat 2 (by omega), hat 3 (by omega)⟩
theorem own_cap {w : World} {base : Nat} {e : TypeId} {size g n cap : Nat} {xs : List Value} (h : w.ownsRow base e size (.slice (some ⟨g, 0, none⟩) n cap) n xs) : n ≤ cap ∧ cap ≤ maxLen ∧ base ≤ g ∧ g < w.heap.size := by
  rcases h.2 with ⟨h', _⟩ | ⟨g', cap', cur, h', hb, hg, hnc, hcm, _⟩
  · simp at h'
  · simp only [Value.slice.injEq, Option.some.injEq, Addr.mk.injEq, and_true, true_and] at h'
    obtain ⟨rfl, rfl⟩ := h'
    exact ⟨hnc, hcm, hb, (Array.getElem?_eq_some_iff.1 hg).1⟩

def mir (s : Sho) : Sho := ⟨⟨-s.p.x, s.p.y⟩, s.lo, s.hi⟩
def mirTo (S : Nat → Sho) (k j : Nat) : Sho := if j < k then mir (S j) else S j
theorem mirTo_zero (S : Nat → Sho) (n : Nat) : shC (mirTo S 0) n = shC S n := shC_congr (fun j _ => by simp [mirTo])
theorem mirTo_all (S : Nat → Sho) (n : Nat) : shC (mirTo S n) n = shC (fun j => mir (S j)) n := shC_congr (fun j hj => by simp [mirTo, hj])
theorem mirTo_step (S : Nat → Sho) {n k : Nat} (hk : k < n) : (shC (mirTo S k) n).set (k * 4) (.int .i64 (-(S k).p.x)) = shC (mirTo S (k + 1)) n :=
  shC_set _ _ _ hk (by simp [mirTo, mir]) (fun j hj hne => by
    unfold mirTo
    by_cases h : j < k
    · rw [if_pos h, if_pos (by omega)]
    · rw [if_neg h, if_neg (by omega)])

/-- What Mirrored returns. -/
def MirPost (S : Nat → Sho) (n : Nat) (w : World) (e : Ending) (w' : World) : Prop :=
  Bl w w' ∧ ((VSh S n ∧ ∃ A cap, e = .returned (.tuple #[.slice A n cap, .int .i64 0]) ∧ n ≤ cap ∧ cap ≤ maxLen ∧ Shl w' A n (fun j => mir (S j))) ∨
    (¬ VSh S n ∧ e = .returned (.tuple #[.slice none 0 0, .int .i64 1])))
theorem mir_some {S : Nat → Sho} {n base : Nat} {w w' : World} {v : Value} (hv : VSh S n) (ho : w'.ownsRow base 44 4 v n (shC (fun j => mir (S j)) n)) (hb : Bl w w') : MirPost S n w (.returned (.tuple #[v, .int .i64 0])) w' := by
  obtain ⟨A, cap, rfl, h1, h2, h3⟩ := shl_of_own ho
  exact ⟨hb, .inl ⟨hv, A, cap, rfl, h1, h2, h3⟩⟩

theorem nil_no (b off n c : Nat) (w : World) : Sem.run Try.prog (binOp .eql 24 (.slice (some ⟨b, off, none⟩) n c) (.slice none 0 0)) w = .ok (.bool false) w := by kernel_rfl
set_option maxRecDepth 100000 in
set_option maxHeartbeats 3200000 in
theorem clone_any (A : Option Addr) (n c : Nat) (S : Nat → Sho) (w : World) (hA : Shl w A n S) (h1 : 1 ≤ n) (h6 : n ≤ 6) :
    Calls Try.prog 35 #[.slice A n c] w fun e w' => ∃ g cap, e = .returned (.slice (some ⟨g, 0, none⟩) n cap) ∧ w'.ownsRow w.heap.size 44 4 (.slice (some ⟨g, 0, none⟩) n cap) n (shC S n) ∧ Bl w w' := by
  obtain ⟨i0, hi0, hz0, hz1, hz2⟩ := info_parts shot_info
  have HI := Lib.hid (And.intro hi0 (And.intro hz0 (And.intro hz1 hz2)))
  clear hi0 hz0 hz1 hz2
  obtain ⟨b, off, rfl, hbb, hc⟩ := hA (by omega)
  have HA := Lib.hid hA
  clear hA hc
  go_enter Try.func35, Try.ntmps35
  have HO := Lib.hid (World.ownsRow_lit (base := w.heap.size) (size := 4) (e := 44) w #[] 0 (Nat.le_refl _) (by decide) rfl)
  have EN := nil_no b off n c
  go_wp2_with (at_builtin; refine wpList_append_lies _ rfl _ _ _ rfl w.heap.size 44 i0 _ 4 32 Try.underlying24 HI.out.1 HI.out.2.1 HI.out.2.2.1 HI.out.2.2.2 rfl (by omega) _ 0 [] rfl HO.out ⟨b, off, none⟩ n c (shC S n) rfl (shC_len S n) (sh_news (HA.out.below (by go_grown))) (shC_one S n) (by omega) (by unfold maxLen; omega) (by omega) (by (try simp only [World.size_alloc]); omega) _ rfl ?_; intro gg cap w9 hown1 hgrow hat hlt9)
  have hown2 : w9.ownsRow w.heap.size 44 4 (.slice (some ⟨gg, 0, none⟩) n cap) n (shC S n) := by have h := hown1; simp only [Nat.zero_add, List.nil_append] at h; exact h
  have HO9 := Lib.hid hown2
  have B9 : Bl w w9 := Below.grown (by go_grown) hgrow (by (try simp only [World.size_alloc]); omega) (fun j hj => by have hj : w.heap.size = j := Option.some.inj hj; omega)
  clear hown1 hown2
  (try simp only [Nat.zero_add])
  go_ret
  exact ⟨gg, cap, rfl, HO9.out, B9⟩

set_option maxRecDepth 100000 in
set_option maxHeartbeats 6400000 in
theorem Mirrored_any (A : Option Addr) (n c : Nat) (S : Nat → Sho) (w : World) (hA : Shl w A n S) (hn : n ≤ maxLen) :
    Calls Try.prog 14 #[.slice A n c] w (MirPost S n w) := by
  have HA := Lib.hid hA
  have HN := Lib.hid hn
  clear hA
  unfold maxLen at hn
  by_cases hv : VSh S n
  · have Q := Lib.hid (show decide (VSh S n) = true from decide_eq_true hv)
    have HV := Lib.hid hv
    have n1 := hv.1
    have n6 := hv.2.1
    clear hv
    go_enter Try.func14, Try.ntmps14
    go_wp2_with fail
    refine (validShots_any A n c S _ HA.out HN.out).mono ?_
    rintro e1 w1 ⟨rfl, B1⟩
    have z1 := B1.size
    rw [Q.out]
    go_wp2_with fail
    refine (clone_any A n c S _ (HA.out.below B1) n1 n6).mono ?_
    rintro e2 w2 ⟨g, cap, rfl, hown, hb⟩
    have B2 := B1.tr hb
    clear hb
    have HO2 := Lib.hid (show w2.ownsRow w1.heap.size 44 4 (.slice (some ⟨g, 0, none⟩) n cap) n (shC (mirTo S 0) n) by rw [mirTo_zero]; exact hown)
    obtain ⟨p1, p2, p3, p4⟩ := own_cap hown
    have HP2 := Lib.hid p2
    unfold maxLen at p2
    clear hown
    go_wp2_with fail
    go_loopw [13] (fun i wr => ∃ k : Nat, k ≤ n ∧ i = .int .i64 k ∧ Hid (wr.ownsRow w1.heap.size 44 4 (.slice (some ⟨g, 0, none⟩) n cap) n (shC (mirTo S k) n)) ∧ Bl w wr) (fun i _ => n - (RowKit.intOf i).toNat)
    case atStart => exact ⟨0, by omega, rfl, HO2.out, B2⟩
    case round =>
      obtain ⟨k, hk, rfl, HO, hB⟩ := hrel
      have zB := hB.size
      by_cases hlt : k < n
      · obtain ⟨x, hx⟩ : ∃ x, x = (S k).p.x := ⟨_, rfl⟩
        have c0 := HO.out.cellAt (k * 4) (by omega)
        rw [show (shC (mirTo S k) n)[k * 4]? = some (.int .i64 x) by
          have := shC_at (mirTo S k) (i := 0) hlt (by omega)
          rw [Nat.add_zero] at this
          rw [this, hx]; simp [cellsH, mirTo]] at c0
        have f0 := HO.out.frozenAt (k * 4)
        have lg := ltb c0
        have HO1 := Lib.hid ((HO.out.stored (k * 4) (.int .i64 (-x))).1)
        have HS := Lib.hid (show (shC (mirTo S k) n).set (k * 4) (.int .i64 (-x)) = shC (mirTo S (k + 1)) n by rw [hx]; exact mirTo_step S hlt)
        have hr := HV.out.2.2 k hlt
        have r1 : -50000 ≤ x := by rw [hx]; exact hr.1.1.1
        have r2 : x ≤ 50000 := by rw [hx]; exact hr.1.1.2
        clear hx hr
        go_wp2_with fail
        go_roundw
        case rel => exact ⟨k + 1, by omega, by go_num, by rw [← HS.out]; exact HO1.out, by go_grown⟩
        case measure => simp [RowKit.intOf]; omega
      · obtain rfl : n = k := by omega
        go_wp2_with fail
        go_ret2
        exact mir_some HV.out (by rw [← mirTo_all]; exact HO.out) hB
  · have Q := Lib.hid (show decide (VSh S n) = false from decide_eq_false hv)
    have HV := Lib.hid hv
    clear hv
    go_enter Try.func14, Try.ntmps14
    go_wp2_with fail
    refine (validShots_any A n c S _ HA.out HN.out).mono ?_
    rintro e1 w1 ⟨rfl, B1⟩
    rw [Q.out]
    go_wp2_with fail
    go_ret2
    exact ⟨B1, .inr ⟨HV.out, rfl⟩⟩