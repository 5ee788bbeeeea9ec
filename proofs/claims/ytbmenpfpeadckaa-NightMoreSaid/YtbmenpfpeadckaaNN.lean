/-
  Contracts of package night and of its reference: names, slices of numbers.
-/
import Derived.Test.YtbmenpfpeadckaaNA
import Derived.Laws.OwnMore
import Derived.Deep.AppendLies
import Derived.Deep.OwnRows
namespace Go.Proofs.Ytbmenpfpeadckaa
open Go.RowKit
set_option linter.unusedSimpArgs false
set_option linter.unusedVariables false

set_option maxHeartbeats 400000 in
theorem smallN_any (n : Nat) (w : World) :
    Calls Try.prog 140 #[.int .u8 (n : Int)] w fun e w' => e = .returned (.bool (smN n)) ∧ w = w' := by
  go_enter Try.func140, Try.ntmps140
  go_wp2
  all_goals (go_ret; exact ⟨ret_boolN (by rw [smN]; first | (simp; omega) | (rw [Bool.eq_iff_iff]; simp; omega)), rfl⟩)
set_option maxHeartbeats 1000000 in
theorem isNameN_any (s : ByteArray) (w : World) (hs : s.size ≤ maxLen) :
    Calls Try.prog 132 #[.string s] w fun e w' => e = .returned (.bool (nmB s)) ∧ w = w' := by
  unfold maxLen at hs
  by_cases h0 : s.size = 0
  · have e1 : s.toList = [] := by
      rw [ByteArray.toList_eq]; exact List.eq_nil_of_length_eq_zero (by simpa using h0)
    have hn : nmB s = false := by simp [nmB, h0]
    have Hn := Lib.hid hn
    clear hn h0
    go_enter Try.func132, Try.ntmps132
    go_wp2_with fail
    go_ret
    exact ⟨ret_boolN Hn.out.symm, rfl⟩
  · have hp : 0 < s.size := by omega
    have e1 : s.toList.isEmpty = false := by
      rw [ByteArray.toList_eq]
      cases h : s.data.toList with
      | nil => have h2 : s.data.toList.length = 0 := by rw [h]; rfl
               have h3 : s.data.toList.length = s.size := by simp
               omega
      | cons a l => rfl
    clear h0
    by_cases h16 : 16 < s.size
    · have hn : nmB s = false := by simp [nmB]; omega
      have Hn := Lib.hid hn
      clear hn
      go_enter Try.func132, Try.ntmps132
      go_wp2_with fail
      go_ret
      exact ⟨ret_boolN Hn.out.symm, rfl⟩
    · have h16' : s.size ≤ 16 := by omega
      clear h16
      have B0 := Lib.hid (byt_eq s 0 hp)
      by_cases hsm : smN (byt s 0) = true
      · have HS := Lib.hid hsm
        clear hsm
        go_enter Try.func132, Try.ntmps132
        go_wp2_with fail
        rw [B0.out]
        refine (smallN_any _ _).mono ?_
        rintro e w1 ⟨rfl, rfl⟩
        rw [HS.out]
        go_wp2_with fail
        go_loop [19] (fun i => ∃ k : Nat, k ≤ s.size ∧ i = .int .i64 k ∧ okTo s k = true) (fun i => s.size - (intOf i).toNat)
        case atStart => exact ⟨0, Nat.zero_le _, rfl, rfl⟩
        case round =>
          obtain ⟨k, hk, rfl, ho⟩ := hrel
          have HO := Lib.hid ho
          clear ho
          by_cases hlt : k < s.size
          · have Bk := Lib.hid (byt_eq s k hlt)
            by_cases hc : smN (byt s k) = true
            · have HC := Lib.hid hc
              clear hc
              go_wp2_with fail
              rw [Bk.out]
              refine (smallN_any _ _).mono ?_
              rintro e w1 ⟨rfl, rfl⟩
              rw [HC.out]
              go_wp2_with fail
              go_round
              case rel => exact ⟨k + 1, by omega, by go_num, by rw [okTo, HO.out, okN, HC.out]; rfl⟩
              case measure => simp [intOf]; omega
            · have HC := Lib.hid (show smN (byt s k) = false by simpa using hc)
              clear hc
              have hk0 : k ≠ 0 := by
                rintro rfl
                have h1 := HC.out
                rw [HS.out] at h1
                cases h1
              have HK := Lib.hid hk0
              clear hk0
              have hT : tlN (byt s k) = true → okN k (byt s k) = true := fun h => by simp [okN, h, HK.out]
              have hF : tlN (byt s k) = false → nmB s = false := fun h => by
                have := okTo_no s (k := k) (n := s.size) hlt (by simp [okN, h, HC.out])
                simp [nmB, this]
              have HT := Lib.hid hT
              have HF := Lib.hid hF
              clear hT hF
              have hb : (s[k].toNat : Int) = byt s k := by rw [Bk.out]
              have HB := Lib.hid hb
              clear hb
              by_cases c1 : 48 ≤ (s[k].toNat : Int)
              · by_cases c2 : (s[k].toNat : Int) ≤ 57
                · have H2 := Lib.hid (HT.out (by have := HB.out; simp [tlN]; left; omega))
                  go_wp2_with fail
                  rw [Bk.out]
                  refine (smallN_any _ _).mono ?_
                  rintro e w1 ⟨rfl, rfl⟩
                  rw [HC.out]
                  go_wp2_with fail
                  go_round
                  case rel => exact ⟨k + 1, by omega, by go_num, by rw [okTo, HO.out, H2.out]; rfl⟩
                  case measure => simp [intOf]; omega
                · have c2' : 57 < (s[k].toNat : Int) := by omega
                  clear c2
                  by_cases c3 : (s[k].toNat : Int) = 95
                  · have H2 := Lib.hid (HT.out (by have := HB.out; simp [tlN]; right; omega))
                    have c4 : ((s[k].toNat : Int) != 95) = false := by simpa using c3
                    clear c3
                    go_wp2_with fail
                    rw [Bk.out]
                    refine (smallN_any _ _).mono ?_
                    rintro e w1 ⟨rfl, rfl⟩
                    rw [HC.out]
                    go_wp2_with fail
                    go_round
                    case rel => exact ⟨k + 1, by omega, by go_num, by rw [okTo, HO.out, H2.out]; rfl⟩
                    case measure => simp [intOf]; omega
                  · have H2 := Lib.hid (HF.out (by have := HB.out; simp [tlN]; constructor <;> omega))
                    have c4 : ((s[k].toNat : Int) != 95) = true := by simpa using c3
                    clear c3
                    go_wp2_with fail
                    rw [Bk.out]
                    refine (smallN_any _ _).mono ?_
                    rintro e w1 ⟨rfl, rfl⟩
                    rw [HC.out]
                    go_wp2_with fail
                    go_ret
                    exact ⟨ret_boolN H2.out.symm, rfl⟩
              · have c1' : (s[k].toNat : Int) < 48 := by omega
                clear c1
                have H2 := Lib.hid (HF.out (by have := HB.out; simp [tlN]; constructor <;> omega))
                have c4 : ((s[k].toNat : Int) != 95) = true := by simp; omega
                go_wp2_with fail
                rw [Bk.out]
                refine (smallN_any _ _).mono ?_
                rintro e w1 ⟨rfl, rfl⟩
                rw [HC.out]
                go_wp2_with fail
                go_ret
                exact ⟨ret_boolN H2.out.symm, rfl⟩
          · go_wp2_with fail
            go_ret
            obtain rfl : k = s.size := by omega
            exact ⟨ret_boolN (by rw [nmB, HO.out]; simp; omega), rfl⟩
      · have hn : nmB s = false := by
          have := okTo_no s (k := 0) (n := s.size) hp (by simp [okN]; simpa using hsm)
          simp [nmB, this]
        have Hn := Lib.hid hn
        clear hn
        have HS := Lib.hid (show smN (byt s 0) = false by simpa using hsm)
        clear hsm
        go_enter Try.func132, Try.ntmps132
        go_wp2_with fail
        rw [B0.out]
        refine (smallN_any _ _).mono ?_
        rintro e w1 ⟨rfl, rfl⟩
        rw [HS.out]
        go_wp2_with fail
        go_ret
        exact ⟨ret_boolN Hn.out.symm, rfl⟩
set_option maxHeartbeats 2000000 in
theorem name8_any (s : ByteArray) (w : World) (hs : s.size ≤ maxLen) :
    Calls Try.prog 131 #[.string s] w fun e w' => e = .returned (.bool (nmB s)) ∧ w = w' := by
  unfold maxLen at hs
  go_enter Try.func131, Try.ntmps131
  go_wp2_with fail
  go_loop [7] (fun i => ∃ k : Nat, k ≤ s.size ∧ i = .int .i64 k ∧ okTo s k = true) (fun i => s.size - (intOf i).toNat)
  case atStart => exact ⟨0, Nat.zero_le _, rfl, rfl⟩
  case round =>
    obtain ⟨k, hk, rfl, ho⟩ := hrel
    have HO := Lib.hid ho
    clear ho
    by_cases hlt : k < s.size
    · have Bk := Lib.hid (show (s[k].toNat : Int) = byt s k by rw [byt_eq s k hlt])
      have hF : okN k (byt s k) = false → nmB s = false := fun h => by
        have := okTo_no s (k := k) (n := s.size) hlt h
        simp [nmB, this]
      have HF := Lib.hid hF
      clear hF
      by_cases q1 : (s[k].toNat : Int) < 97
      · by_cases q2 : k = 0
        · subst q2
          have H2 := Lib.hid (HF.out (by have := Bk.out; simp [okN, smN, tlN]; omega))
          go_wp2_with fail
          go_ret
          exact ⟨ret_boolN H2.out.symm, rfl⟩
        · have e0 : ((k : Int) == 0) = false := by simp; omega
          by_cases q3 : (s[k].toNat : Int) = 95
          · have c9 : ((s[k].toNat : Int) != 95) = false := by simp; omega
            have H2 := Lib.hid (show okN k (byt s k) = true by have := Bk.out; simp [okN, smN, tlN]; omega)
            clear q2 q3
            go_wp2_with fail
            go_round
            case rel => exact ⟨k + 1, by omega, by go_num, by rw [okTo, HO.out, H2.out]; rfl⟩
            case measure => simp [intOf]; omega
          · have c9 : ((s[k].toNat : Int) != 95) = true := by simp; omega
            by_cases q4 : (s[k].toNat : Int) < 48
            · have H2 := Lib.hid (HF.out (by have := Bk.out; simp [okN, smN, tlN]; omega))
              clear q2 q3
              go_wp2_with fail
              go_ret
              exact ⟨ret_boolN H2.out.symm, rfl⟩
            · by_cases q5 : 57 < (s[k].toNat : Int)
              · have H2 := Lib.hid (HF.out (by have := Bk.out; simp [okN, smN, tlN]; omega))
                have q4' : 48 ≤ (s[k].toNat : Int) := by omega
                clear q2 q3 q4
                go_wp2_with fail
                go_ret
                exact ⟨ret_boolN H2.out.symm, rfl⟩
              · have H2 := Lib.hid (show okN k (byt s k) = true by have := Bk.out; simp [okN, smN, tlN]; omega)
                have q4' : 48 ≤ (s[k].toNat : Int) := by omega
                have q5' : (s[k].toNat : Int) ≤ 57 := by omega
                clear q2 q3 q4 q5
                go_wp2_with fail
                go_round
                case rel => exact ⟨k + 1, by omega, by go_num, by rw [okTo, HO.out, H2.out]; rfl⟩
                case measure => simp [intOf]; omega
      · have q1' : 97 ≤ (s[k].toNat : Int) := by omega
        by_cases q6 : 122 < (s[k].toNat : Int)
        · by_cases q2 : k = 0
          · subst q2
            have H2 := Lib.hid (HF.out (by have := Bk.out; simp [okN, smN, tlN]; omega))
            clear q1
            go_wp2_with fail
            go_ret
            exact ⟨ret_boolN H2.out.symm, rfl⟩
          · have e0 : ((k : Int) == 0) = false := by simp; omega
            have c9 : ((s[k].toNat : Int) != 95) = true := by simp; omega
            have H2 := Lib.hid (HF.out (by have := Bk.out; simp [okN, smN, tlN]; omega))
            clear q1 q2
            go_wp2_with fail
            go_ret
            exact ⟨ret_boolN H2.out.symm, rfl⟩
        · have H2 := Lib.hid (show okN k (byt s k) = true by have := Bk.out; simp [okN, smN, tlN]; omega)
          have q6' : (s[k].toNat : Int) ≤ 122 := by omega
          clear q1 q6
          go_wp2_with fail
          go_round
          case rel => exact ⟨k + 1, by omega, by go_num, by rw [okTo, HO.out, H2.out]; rfl⟩
          case measure => simp [intOf]; omega
    · obtain rfl : k = s.size := by omega
      by_cases h1 : 1 ≤ s.size
      · by_cases h16 : s.size ≤ 16
        · have H2 := Lib.hid (show nmB s = true by simp [nmB, HO.out, h1, h16])
          go_wp2_with fail
          go_ret
          exact ⟨ret_boolN (by rw [H2.out]; try (simp; try omega)), rfl⟩
        · have H2 := Lib.hid (show nmB s = false by simp [nmB, h16])
          have h16' : 16 < s.size := by omega
          clear h16
          go_wp2_with fail
          go_ret
          exact ⟨ret_boolN (by rw [H2.out]; try (simp; try omega)), rfl⟩
      · have H2 := Lib.hid (show nmB s = false by simp [nmB]; omega)
        have h1' : s.size = 0 := by omega
        go_wp2_with fail
        go_ret
        exact ⟨ret_boolN (by rw [H2.out]; try (simp; try omega)), rfl⟩
set_option maxHeartbeats 1600000 in
theorem sameIntsN_any (A : Option Addr) (n c : Nat) (f : Nat → Int) (B : Option Addr) (m d : Nat) (g : Nat → Int) (w : World) (hn : n ≤ maxLen) (hm : m ≤ maxLen) (hA : Sl w A n f) (hB : Sl w B m g) :
    Calls Try.prog 14 #[.slice A n c, .slice B m d] w fun e w' => e = .returned (.bool (sIB n f m g)) ∧ ∃ N, w' = w.drewN N := by
  unfold maxLen at hn hm
  have HA := Lib.hid hA
  have HB := Lib.hid hB
  clear hA hB
  by_cases hnm : n = m
  · have q0 : ((n : Int) != (m : Int)) = false := by simp [hnm]
    have HS := Lib.hid (show sIB n f m g = eqTo f g n by simp [sIB, hnm])
    have k1 : n ≤ m := by omega
    clear hnm
    go_enter Try.func14, Try.ntmps14
    go_wp2_with fail
    clear q0
    go_loopw [13] (fun i wr => ∃ k N : Nat, k ≤ n ∧ i = .int .i64 k ∧ Hid (eqTo f g k = true) ∧ wr = w.drewN N) (fun i _ => n - (intOf i).toNat)
    case atStart => exact ⟨0, 0, Nat.zero_le _, rfl, rfl, rfl⟩
    case round =>
      obtain ⟨k, N, hk, rfl, HO, rfl⟩ := hrel
      by_cases hlt : k < n
      · obtain ⟨b, off, eA, hbb, hc⟩ := HA.out (by omega)
        obtain ⟨b', off', eB, hbb', hc'⟩ := HB.out (by omega)
        subst eA eB
        have c1 := hc k hlt
        have c2 := hc' k (by omega)
        clear hc hc'
        by_cases q : f k = g k
        · have q1 : (f k != g k) = false := by simp [q]
          have HY := Lib.hid (show eqTo f g (k + 1) = true by rw [eqTo, HO.out]; simp [q])
          clear q
          go_wp2_with fail
          go_quiet (fail)
          go_wp2_with fail
          go_roundw
          case rel => exact ⟨k + 1, _, by omega, by go_num, HY.out, rfl⟩
          case measure => simp [intOf]; omega
        · have q1 : (f k != g k) = true := by simpa using q
          have HN := Lib.hid (eqTo_no f g (k := k) (n := n) hlt q)
          clear q
          go_wp2_with fail
          go_quiet (fail)
          go_wp2_with fail
          go_ret
          exact ⟨ret_boolN (by rw [HS.out, HN.out]), N + nq, by rw [World.drewN_drewN]⟩
      · obtain rfl : k = n := by omega
        go_wp2_with fail
        go_ret
        exact ⟨ret_boolN (by rw [HS.out, HO.out]), _, rfl⟩
  · have q0 : ((n : Int) != (m : Int)) = true := by simp; omega
    have HS := Lib.hid (show sIB n f m g = false by simp [sIB, hnm])
    clear hnm
    go_enter Try.func14, Try.ntmps14
    go_wp2_with fail
    go_ret
    exact ⟨ret_boolN HS.out.symm, 0, rfl⟩
theorem info_parts6N {P : Program} {t : TypeId} {z : Value} {n b : Nat} (h : (P.info? t).map (fun i => (i.zero, i.size, i.bytes)) = some (some z, n, b)) : ∃ i, P.info? t = some i ∧ i.zero = some z ∧ i.size = n ∧ i.bytes = b := by
  cases hi : P.info? t with
  | none => rw [hi] at h; cases h
  | some i =>
    rw [hi] at h
    simp only [Option.map_some, Option.some.injEq, Prod.mk.injEq] at h
    exact ⟨i, rfl, h.1, h.2.1, h.2.2⟩
theorem int_infoN : (Try.prog.info? 3).map (fun i => (i.zero, i.size, i.bytes)) = some (some (.int .i64 0), 1, 8) := by kernel_rfl
/-- The cells of numbers. -/
def inC8 (f : Nat → Int) : Nat → List Value
  | 0 => []
  | k + 1 => inC8 f k ++ [.int .i64 (f k)]
theorem inC_lenN (f : Nat → Int) (k : Nat) : (inC8 f k).length = k := by
  induction k with
  | zero => rfl
  | succ k ih => simp [inC8, ih]
theorem inC_atN (f : Nat → Int) {n j : Nat} (hj : j < n) : (inC8 f n)[j]? = some (.int .i64 (f j)) := by
  induction n with
  | zero => omega
  | succ n ih =>
    by_cases e : j = n
    · subst e
      rw [inC8, List.getElem?_append_right (by rw [inC_lenN]; omega), inC_lenN]; simp
    · rw [inC8, List.getElem?_append_left (by rw [inC_lenN]; omega)]; exact ih (by omega)
theorem inC_congrN {f g : Nat → Int} {n : Nat} (h : ∀ j, j < n → f j = g j) : inC8 f n = inC8 g n := by
  induction n with
  | zero => rfl
  | succ n ih => rw [inC8, inC8, ih (fun j hj => h j (by omega)), h n (by omega)]
theorem sl_of_ownN {w : World} {base : Nat} {e : TypeId} {v : Value} {n : Nat} {f : Nat → Int} (h : w.ownsRow base e 1 v n (inC8 f n)) : ∃ A cap, v = .slice A n cap ∧ n ≤ cap ∧ cap ≤ maxLen ∧ Sl w A n f := by
  rcases h.2 with ⟨rfl, rfl⟩ | ⟨g, cap, cur, rfl, hb, hg, hnc, hcm, _⟩
  · exact ⟨none, 0, rfl, Nat.le_refl _, by decide, fun h => absurd h (by omega)⟩
  · refine ⟨some ⟨g, 0, none⟩, cap, rfl, hnc, hcm, fun hn => ⟨g, 0, rfl, (Array.getElem?_eq_some_iff.1 hg).1, fun j hj => ?_⟩⟩
    rw [Nat.zero_add]
    exact (h.cellAt j (by omega)).trans (inC_atN f hj)

/-- A slice of n numbers that is the caller's own. -/
theorem nil_no6N (b off n c : Nat) (w : World) : Sem.run Try.prog (binOp .eql 24 (.slice (some ⟨b, off, none⟩) n c) (.slice none 0 0)) w = .ok (.bool false) w := by kernel_rfl
theorem in_newsN {w : World} {ad : Addr} {n : Nat} {f : Nat → Int} (h : Sl w (some ad) n f) : ∀ j u, (inC8 f n)[j]? = some u → w.cell? (ad.add j) = some u := fun j u hu => by
  have hj : j < n := by have := (List.getElem?_eq_some_iff.1 hu).1; rwa [inC_lenN] at this
  obtain ⟨b', off', e, _, hc⟩ := h (by omega)
  obtain rfl : ad = ⟨b', off', none⟩ := Option.some.inj e
  rw [show (⟨b', off', none⟩ : Addr).add j = ⟨b', off' + j, none⟩ by unfold Addr.add; split <;> simp_all, hc j hj, ← hu, inC_atN f hj]
theorem inC_oneN (f : Nat → Int) (n : Nat) : ∀ u ∈ inC8 f n, u.oneCell' = true := by
  induction n with
  | zero => intro u hu; cases hu
  | succ n ih =>
    intro u hu
    rcases List.mem_append.1 hu with h | h
    · exact ih u h
    · simp only [List.mem_cons, List.not_mem_nil, or_false] at h
      rw [h]; rfl
theorem own_cap6N {w : World} {base : Nat} {e : TypeId} {size g n cap : Nat} {xs : List Value} (h : w.ownsRow base e size (.slice (some ⟨g, 0, none⟩) n cap) n xs) : n ≤ cap ∧ cap ≤ maxLen ∧ base ≤ g ∧ g < w.heap.size := by
  rcases h.2 with ⟨h', _⟩ | ⟨g', cap', cur, h', hb, hg, hnc, hcm, _⟩
  · simp at h'
  · simp only [Value.slice.injEq, Option.some.injEq, Addr.mk.injEq, and_true, true_and] at h'
    obtain ⟨rfl, rfl⟩ := h'
    exact ⟨hnc, hcm, hb, (Array.getElem?_eq_some_iff.1 hg).1⟩
set_option maxRecDepth 100000 in
set_option maxHeartbeats 3200000 in
theorem clone6_anyN (A : Option Addr) (n c : Nat) (E : Nat → Int) (w : World) (hA : Sl w A n E) (h1 : 1 ≤ n) (h6 : n ≤ 400) :
    Calls Try.prog 72 #[.slice A n c] w fun e w' => ∃ g cap, e = .returned (.slice (some ⟨g, 0, none⟩) n cap) ∧ w'.ownsRow w.heap.size 3 1 (.slice (some ⟨g, 0, none⟩) n cap) n (inC8 E n) ∧ Bl w w' := by
  obtain ⟨i0, hi0, hz0, hz1, hz2⟩ := info_parts6N int_infoN
  have HI := Lib.hid (And.intro hi0 (And.intro hz0 (And.intro hz1 hz2)))
  clear hi0 hz0 hz1 hz2
  obtain ⟨b, off, rfl, hbb, hc⟩ := hA (by omega)
  have HA := Lib.hid hA
  clear hA hc
  go_enter Try.func72, Try.ntmps72
  have HO := Lib.hid (World.ownsRow_lit (base := w.heap.size) (size := 1) (e := 3) w #[] 0 (Nat.le_refl _) (by decide) rfl)
  have EN := nil_no6N b off n c
  go_wp2_with (at_builtin; refine wpList_append_lies _ rfl _ _ _ rfl w.heap.size 3 i0 _ 1 8 Try.underlying24 HI.out.1 HI.out.2.1 HI.out.2.2.1 HI.out.2.2.2 rfl (by omega) _ 0 [] rfl HO.out ⟨b, off, none⟩ n c (inC8 E n) rfl (by rw [inC_lenN, Nat.mul_one]) (in_newsN (HA.out.below (by go_grown))) (inC_oneN E n) (by omega) (by unfold maxLen; omega) (by omega) (by (try simp only [World.size_alloc]); omega) _ rfl ?_; intro gg cap w9 hown1 hgrow hat hlt9)
  have hown2 : w9.ownsRow w.heap.size 3 1 (.slice (some ⟨gg, 0, none⟩) n cap) n (inC8 E n) := by have h := hown1; simp only [Nat.zero_add, List.nil_append] at h; exact h
  have HO9 := Lib.hid hown2
  have B9 : Bl w w9 := Below.grown (by go_grown) hgrow (by (try simp only [World.size_alloc]); omega) (fun j hj => by have hj : w.heap.size = j := Option.some.inj hj; omega)
  clear hown1 hown2
  (try simp only [Nat.zero_add])
  go_ret
  exact ⟨gg, cap, rfl, HO9.out, B9⟩

end Go.Proofs.Ytbmenpfpeadckaa
