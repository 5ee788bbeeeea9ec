/-
  Package ledger: lists of numbers; the reference's SameInts.
-/
import Derived.Test.YtbmenpfpeadckaaLA
namespace Go.Proofs.Ytbmenpfpeadckaa
open Go.RowKit
set_option linter.unusedSimpArgs false
set_option linter.unusedVariables false

set_option maxHeartbeats 1600000 in
theorem sameIntsN_any (A : Option Addr) (n c : Nat) (f : Nat → Int) (B : Option Addr) (m d : Nat) (g : Nat → Int) (w : World) (hn : n ≤ maxLen) (hm : m ≤ maxLen) (hA : Sl w A n f) (hB : Sl w B m g) :
    Calls Try.prog 55 #[.slice A n c, .slice B m d] w fun e w' => e = .returned (.bool (sIB n f m g)) ∧ ∃ N, w' = w.drewN N := by
  unfold maxLen at hn hm
  have HA := Lib.hid hA
  have HB := Lib.hid hB
  clear hA hB
  by_cases hnm : n = m
  · have q0 : ((n : Int) != (m : Int)) = false := by simp [hnm]
    have HS := Lib.hid (show sIB n f m g = eqTo f g n by simp [sIB, hnm])
    have k1 : n ≤ m := by omega
    clear hnm
    go_enter Try.func55, Try.ntmps55
    go_wp2_with fail
    clear q0
    go_loopw [13] (fun i wr => ∃ k N : Nat, k ≤ n ∧ i = .int .i64 k ∧ Hid (eqTo f g k = true) ∧ wr = w.drewN N) (fun i _ => n - (intOf i).toNat)
    case atStart => exact ⟨0, 0, Nat.zero_le _, rfl, rfl, rfl⟩
    case round =>
      obtain ⟨k, N, hk, rfl, HO, rfl⟩ := hrel
      by_cases hlt : k < n
      · obtain ⟨b, off, eA, hbb, hc⟩ := HA.out (by omega)
        obtain ⟨b', off', eB, hbb', hc'⟩ := HB.out (by omega)
        subst eA eB
        have c1 := hc k hlt
        have c2 := hc' k (by omega)
        clear hc hc'
        by_cases q : f k = g k
        · have q1 : (f k != g k) = false := by simp [q]
          have HY := Lib.hid (show eqTo f g (k + 1) = true by rw [eqTo, HO.out]; simp [q])
          clear q
          go_wp2_with fail
          go_quiet (fail)
          go_wp2_with fail
          go_roundw
          case rel => exact ⟨k + 1, _, by omega, by go_num, HY.out, rfl⟩
          case measure => simp [intOf]; omega
        · have q1 : (f k != g k) = true := by simpa using q
          have HN := Lib.hid (eqTo_no f g (k := k) (n := n) hlt q)
          clear q
          go_wp2_with fail
          go_quiet (fail)
          go_wp2_with fail
          go_ret
          exact ⟨ret_boolE (by rw [HS.out, HN.out]), N + nq, by rw [World.drewN_drewN]⟩
      · obtain rfl : k = n := by omega
        go_wp2_with fail
        go_ret
        exact ⟨ret_boolE (by rw [HS.out, HO.out]), _, rfl⟩
  · have q0 : ((n : Int) != (m : Int)) = true := by simp; omega
    have HS := Lib.hid (show sIB n f m g = false by simp [sIB, hnm])
    clear hnm
    go_enter Try.func55, Try.ntmps55
    go_wp2_with fail
    go_ret
    exact ⟨ret_boolE HS.out.symm, 0, rfl⟩
theorem info_parts6N {P : Program} {t : TypeId} {z : Value} {n b : Nat} (h : (P.info? t).map (fun i => (i.zero, i.size, i.bytes)) = some (some z, n, b)) : ∃ i, P.info? t = some i ∧ i.zero = some z ∧ i.size = n ∧ i.bytes = b := by
  cases hi : P.info? t with
  | none => rw [hi] at h; cases h
  | some i =>
    rw [hi] at h
    simp only [Option.map_some, Option.some.injEq, Prod.mk.injEq] at h
    exact ⟨i, rfl, h.1, h.2.1, h.2.2⟩
theorem int_infoN : (Try.prog.info? 3).map (fun i => (i.zero, i.size, i.bytes)) = some (some (.int .i64 0), 1, 8) := by kernel_rfl
/-- The cells of numbers. -/
def inC8 (f : Nat → Int) : Nat → List Value
  | 0 => []
  | k + 1 => inC8 f k ++ [.int .i64 (f k)]
theorem inC_lenN (f : Nat → Int) (k : Nat) : (inC8 f k).length = k := by
  induction k with
  | zero => rfl
  | succ k ih => simp [inC8, ih]
theorem inC_atN (f : Nat → Int) {n j : Nat} (hj : j < n) : (inC8 f n)[j]? = some (.int .i64 (f j)) := by
  induction n with
  | zero => omega
  | succ n ih =>
    by_cases e : j = n
    · subst e
      rw [inC8, List.getElem?_append_right (by rw [inC_lenN]; omega), inC_lenN]; simp
    · rw [inC8, List.getElem?_append_left (by rw [inC_lenN]; omega)]; exact ih (by omega)
theorem inC_oneN (f : Nat → Int) (n : Nat) : ∀ u ∈ inC8 f n, u.oneCell' = true := by
  induction n with
  | zero => intro u hu; cases hu
  | succ n ih =>
    intro u hu
    rcases List.mem_append.1 hu with h | h
    · exact ih u h
    · simp only [List.mem_cons, List.not_mem_nil, or_false] at h
      rw [h]; rfl
def intL (l : List Int) : List Value := l.map (Value.int .i64)
theorem intL_len (l : List Int) : (intL l).length = l.length := by simp [intL]
theorem intL_snoc (l : List Int) (x : Int) : intL (l ++ [x]) = intL l ++ [.int .i64 x] := by simp [intL]
/-- A slice value reads as a list of numbers, in memory behind a block. -/
def IsL (w : World) (lo : Nat) (v : Value) (l : List Int) : Prop :=
  ∃ A c, v = .slice A l.length c ∧ l.length ≤ c ∧ c ≤ maxLen ∧ Sl w A l.length (fun j => l.getD j 0) ∧ ∀ a, A = some a → lo ≤ a.block
theorem isL_of_own {w : World} {base : Nat} {e : TypeId} {v : Value} {n : Nat} {l : List Int} (hn : n = l.length) (h : w.ownsRow base e 1 v n (intL l)) : IsL w base v l := by
  subst hn
  rcases h.2 with ⟨rfl, h0⟩ | ⟨g, cap, cur, rfl, hb, hg, hnc, hcm, hcs, htake⟩
  · exact ⟨none, 0, by rw [h0], by omega, Nat.zero_le _, fun hn => by omega, fun a e => by cases e⟩
  · refine ⟨some ⟨g, 0, none⟩, cap, rfl, hnc, hcm, fun hn => ⟨g, 0, rfl, (Array.getElem?_eq_some_iff.1 hg).1, fun j hj => ?_⟩, fun a e => by cases e; exact hb⟩
    have := h.cellAt j (by omega)
    rw [Nat.zero_add, this]
    simp [intL, List.getD, List.getElem?_eq_getElem hj]
theorem IsL.below {w w' : World} {lo : Nat} {v : Value} {l : List Int} (h : IsL w lo v l) (hb : Bl w w') : IsL w' lo v l := by
  obtain ⟨A, c, h0, h1, h2, h3, h4⟩ := h
  exact ⟨A, c, h0, h1, h2, h3.below hb, h4⟩
theorem IsL.mono {w : World} {lo lo' : Nat} {v : Value} {l : List Int} (h : IsL w lo v l) (hl : lo' ≤ lo) : IsL w lo' v l := by
  obtain ⟨A, c, h0, h1, h2, h3, h4⟩ := h
  exact ⟨A, c, h0, h1, h2, h3, fun a e => Nat.le_trans hl (h4 a e)⟩
theorem own_bN {w w' : World} {base : Nat} {e : TypeId} {size : Nat} {v : Value} {n : Nat} {xs : List Value} (h : w.ownsRow base e size v n xs) (hb : Bl w w') : w'.ownsRow base e size v n xs := by
  have hg : w.grownBy w' none := ⟨hb.os, hb.tape, hb.output, hb.size, fun i hi _ => hb.block i hi⟩
  refine h.kept hg ?_
  cases hv : v.ownBlock with
  | none => exact .inl rfl
  | some k => exact .inr (by simp)
theorem sIB_sameN (n : Nat) (f : Nat → Int) : sIB n f n f = true := by simp [sIB, eqTo_same]
theorem IsL.kept {w w' : World} {B lo : Nat} {v : Value} {l : List Int} (h : IsL w lo v l) (hg : w.grownBy w' (some B)) (hB : B < lo) : IsL w' lo v l := by
  obtain ⟨A, c, h0, h1, h2, h3, h4⟩ := h
  refine ⟨A, c, h0, h1, h2, fun hn => ?_, h4⟩
  obtain ⟨b, off, e, hl, hc⟩ := h3 hn
  have hb : lo ≤ b := h4 _ e
  exact ⟨b, off, e, Nat.lt_of_lt_of_le hl hg.size, fun j hj => (hg.cell_far ⟨b, off + j, none⟩ hl (by intro q; have : b = B := Option.some.inj q; omega)).trans (hc j hj)⟩
theorem isL_nil (w : World) (lo : Nat) : IsL w lo (.slice none 0 0) [] := ⟨none, 0, rfl, Nat.le_refl _, Nat.zero_le _, fun h => absurd h (by simp), fun a e => by cases e⟩
theorem isL_one {w : World} {lo b : Nat} {i : Int} (h : w.cell? ⟨b, 0, none⟩ = some (.int .i64 i)) (hb : lo ≤ b) : IsL w lo (.slice (some ⟨b, 0, none⟩) 1 1) [i] :=
  ⟨some ⟨b, 0, none⟩, 1, rfl, Nat.le_refl _, by decide, fun _ => ⟨b, 0, rfl, ltb h, fun j hj => by
    have hj : j < 1 := hj
    obtain rfl : j = 0 := by omega
    exact h⟩, fun a e => by cases e; exact hb⟩
theorem inC_intL (l : List Int) : inC8 (fun j => l.getD j 0) l.length = intL l := by
  apply List.ext_getElem?
  intro j
  by_cases hj : j < l.length
  · rw [inC_atN _ hj]; simp [intL, List.getD, List.getElem?_eq_getElem hj]
  · rw [List.getElem?_eq_none (by rw [inC_lenN]; omega), List.getElem?_eq_none (by rw [intL_len]; omega)]
end Go.Proofs.Ytbmenpfpeadckaa
