/-
  Texts of stars: plain functions.
-/
import Derived.Test.YtlpbmcnojkhdcaaDoorTC
import Derived.Test.YtlpbmcnojkhdcaaDoorTX
namespace Go.Proofs.YtlpbmcnojkhdcaaDoor
open Go.Lib
set_option linter.unusedSimpArgs false
set_option linter.unusedVariables false

/-- A star. -/
structure Sta where
  s : ByteArray
  a : Int
  h : Int
  l : Int
def vSta (x : Sta) : Bool := stB x.s x.a x.h x.l
def lineL (n : Str) (a h l : Int) : Str := n ++ 32 :: (itoa a ++ 32 :: (itoa h ++ 32 :: itoa l))
def lineS (x : Sta) : Str := lineL x.s.data.toList x.a x.h x.l

theorem nm_chars {s : ByteArray} (h : nmB s = true) : ∀ c ∈ s.data.toList, 48 ≤ c.toNat := by
  simp only [nmB, Bool.and_eq_true] at h
  have hall : ∀ n, okTo s n = true → ∀ k, k < n → okN k (byt s k) = true := by
    intro n
    induction n with
    | zero => intro _ k hk; omega
    | succ n ih =>
      intro h k hk
      simp only [okTo, Bool.and_eq_true] at h
      by_cases e : k = n
      · subst e; exact h.2
      · exact ih h.1 k (by omega)
  intro c hc
  obtain ⟨k, hk, he⟩ := List.getElem_of_mem hc
  have hk' : k < s.size := by simpa using hk
  have := hall _ h.2 k hk'
  have hb : byt s k = c.toNat := by
    unfold byt
    rw [List.getD_eq_getElem?_getD, List.getElem?_eq_getElem hk, he]
    rfl
  rw [hb] at this
  simp only [okN, smN, tlN, Bool.or_eq_true, Bool.and_eq_true, decide_eq_true_eq] at this
  omega
theorem stB_nm {s : ByteArray} {a h l : Int} (q : stB s a h l = true) : nmB s = true := by
  simp only [stB, Bool.and_eq_true] at q; exact q.1.1.1
theorem stB_bd {s : ByteArray} {a h l : Int} (q : stB s a h l = true) : (0 ≤ a ∧ a ≤ 86399999) ∧ (-10000 ≤ h ∧ h ≤ 10000) ∧ (1000 ≤ l ∧ l ≤ 10000) := (stB_yes (stB_nm q)).1 q
theorem nm_no {s : ByteArray} (h : nmB s = true) (b : UInt8) (hb : b.toNat < 48) : b ∉ s.data.toList := fun hc => by
  have := nm_chars h b hc; omega
theorem split_line {n : ByteArray} (a h l : Int) (hn : (32 : UInt8) ∉ n.data.toList) : splitS (lineL n.data.toList a h l) = [n.data.toList, itoa a, itoa h, itoa l] := by
  have i : ∀ v, (32 : UInt8) ∉ itoa v := fun v => itoa_no v 32 (by decide)
  unfold lineL
  rw [spl_cons _ _ hn, spl_cons _ _ (i a), spl_cons _ _ (i h), spl_one _ (i l)]
theorem line_no10 {x : Sta} (h : vSta x = true) : (10 : UInt8) ∉ lineS x := by
  have hn := nm_no (stB_nm h) 10 (by decide)
  have i : ∀ v, (10 : UInt8) ∉ itoa v := fun v => itoa_no v 10 (by decide)
  unfold lineS lineL
  simp only [List.mem_append, List.mem_cons, not_or]
  exact ⟨hn, by decide, i _, by decide, i _, by decide, i _⟩
theorem line_len {x : Sta} (h : vSta x = true) : (lineS x).length ≤ 90 := by
  have hb := stB_bd h
  have hn := stB_nm h
  simp only [nmB, Bool.and_eq_true, decide_eq_true_eq] at hn
  have e : x.s.data.toList.length = x.s.size := by simp
  have l1 := itoa_length_le x.a (by omega) (by omega)
  have l2 := itoa_length_le x.h (by omega) (by omega)
  have l3 := itoa_length_le x.l (by omega) (by omega)
  unfold lineS lineL
  simp only [List.length_append, List.length_cons]
  omega

/-- The star of a line. -/
def starOfW (t : Str) (w0 w1 w2 w3 : ByteArray) : Option Sta :=
  match atoiAll w1.data.toList, atoiAll w2.data.toList, atoiAll w3.data.toList with
  | .ok a, .ok h, .ok l => if (stB w0 a h l && decide (lineL w0.data.toList a h l = t)) = true then some ⟨w0, a, h, l⟩ else none
  | _, _, _ => none
def starF (t : ByteArray) : Option Sta :=
  match words t with
  | [w0, w1, w2, w3] => starOfW t.data.toList w0 w1 w2 w3
  | _ => none
/-- What the reference reads of a line. -/
def refS (t : ByteArray) : Sta :=
  match words t with
  | [w0, w1, w2, w3] => ⟨w0, av w1.data.toList, av w2.data.toList, av w3.data.toList⟩
  | _ => ⟨⟨#[]⟩, 0, 0, 0⟩
def refOk (t : ByteArray) : Bool := vSta (refS t) && decide (lineS (refS t) = t.data.toList)

theorem starF_line {t : ByteArray} {x : Sta} (h : starF t = some x) : vSta x = true ∧ lineS x = t.data.toList := by
  unfold starF at h
  split at h
  · unfold starOfW at h
    split at h
    · split at h
      · rename_i q
        injection h with h
        subst h
        simp only [Bool.and_eq_true, decide_eq_true_eq] at q
        exact ⟨q.1, q.2⟩
      · cases h
    · cases h
  · cases h
theorem len4 {α : Type} : ∀ l : List α, l.length = 4 → ∃ a b c d, l = [a, b, c, d]
  | [a, b, c, d], _ => ⟨a, b, c, d, rfl⟩
theorem words_line {t : ByteArray} {x : Sta} (hv : vSta x = true) (hl : lineS x = t.data.toList) : ∃ w1 w2 w3, words t = [x.s, w1, w2, w3] ∧ w1.data.toList = itoa x.a ∧ w2.data.toList = itoa x.h ∧ w3.data.toList = itoa x.l := by
  have hw := words_data t
  rw [← hl, lineS, split_line _ _ _ (nm_no (stB_nm hv) 32 (by decide))] at hw
  obtain ⟨w0, w1, w2, w3, hq⟩ := len4 (words t) (by have := congrArg List.length hw; simpa using this)
  rw [hq] at hw ⊢
  simp only [List.map_cons, List.map_nil, List.cons.injEq, and_true] at hw
  exact ⟨w1, w2, w3, by rw [ba_ext hw.1], hw.2.1, hw.2.2.1, hw.2.2.2⟩
/-- A star that is written is read back. -/
theorem starF_of {t : ByteArray} {x : Sta} (hv : vSta x = true) (hl : lineS x = t.data.toList) : starF t = some x := by
  obtain ⟨w1, w2, w3, hw, h1, h2, h3⟩ := words_line hv hl
  have hb := stB_bd hv
  unfold starF
  rw [hw]
  simp only [starOfW, h1, h2, h3, atoi_itoa x.a (by omega) (by omega), atoi_itoa x.h (by omega) (by omega), atoi_itoa x.l (by omega) (by omega)]
  rw [if_pos]
  simp only [Bool.and_eq_true, decide_eq_true_eq]
  exact ⟨hv, hl⟩
theorem ref_star (t : ByteArray) : starF t = if refOk t = true then some (refS t) else none := by
  split
  · rename_i q
    simp only [refOk, Bool.and_eq_true, decide_eq_true_eq] at q
    exact starF_of q.1 q.2
  · rename_i q
    cases h : starF t with
    | none => rfl
    | some x =>
      exfalso
      apply q
      obtain ⟨hv, hl⟩ := starF_line h
      obtain ⟨w1, w2, w3, hw, h1, h2, h3⟩ := words_line hv hl
      have hb := stB_bd hv
      have e : refS t = x := by
        unfold refS
        rw [hw]
        simp only [h1, h2, h3, av_ok (atoi_itoa x.a (by omega) (by omega)), av_ok (atoi_itoa x.h (by omega) (by omega)), av_ok (atoi_itoa x.l (by omega) (by omega))]
      simp only [refOk, e, Bool.and_eq_true, decide_eq_true_eq]
      exact ⟨hv, hl⟩

/-- Lists of stars, read one by one. -/
def vTo (T : Nat → Sta) : Nat → Bool
  | 0 => true
  | k + 1 => vTo T k && vSta (T k)
theorem vTo_no (T : Nat → Sta) {k n : Nat} (hk : k < n) (h : vSta (T k) = false) : vTo T n = false := by
  induction n with
  | zero => omega
  | succ n ih =>
    by_cases e : k = n
    · subst e; simp [vTo, h]
    · simp [vTo, ih (by omega)]
theorem vTo_at {T : Nat → Sta} {k n : Nat} (h : vTo T n = true) (hk : k < n) : vSta (T k) = true := by
  induction n with
  | zero => omega
  | succ n ih =>
    simp only [vTo, Bool.and_eq_true] at h
    by_cases e : k = n
    · subst e; exact h.2
    · exact ih h.1 (by omega)
def fmK (T : Nat → Sta) : Nat → Str
  | 0 => []
  | k + 1 => fmK T k ++ (lineS (T k) ++ [10])
theorem fmK_len {T : Nat → Sta} {n : Nat} (h : vTo T n = true) : (fmK T n).length ≤ 91 * n := by
  induction n with
  | zero => simp [fmK]
  | succ n ih =>
    simp only [vTo, Bool.and_eq_true] at h
    have := ih h.1
    have := line_len h.2
    simp only [fmK, List.length_append, List.length_cons, List.length_nil]
    omega
def fmtF (n : Nat) (T : Nat → Sta) : Str := if (decide (n ≤ 100) && vTo T n) = true then fmK T n else []

/-- What Parse makes of a text. -/
def parseT : Nat → List Sta → ByteArray → List Sta × Nat × Nat
  | 0, acc, _ => (acc, 0, 0)
  | f + 1, acc, s =>
    if s.size = 0 then (acc, 0, 0)
    else if indexByte s.data.toList 10 < 0 then ([], acc.length, 2)
    else match starF (s.extract 0 (indexByte s.data.toList 10).toNat) with
      | none => ([], acc.length, 2)
      | some x => if acc.length = 100 then ([], acc.length, 2) else parseT f (acc ++ [x]) (s.extract ((indexByte s.data.toList 10).toNat + 1) s.size)
def parseF (s : ByteArray) : List Sta × Nat × Nat := if 65536 < s.size then ([], 0, 3) else parseT (s.size + 1) [] s

def fmL : List Sta → Str
  | [] => []
  | x :: r => (lineS x ++ [10]) ++ fmL r
theorem fmL_append (a b : List Sta) : fmL (a ++ b) = fmL a ++ fmL b := by
  induction a with
  | nil => rfl
  | cons x a ih => simp [fmL, ih]
theorem fmK_fmL (T : Nat → Sta) (n : Nat) : fmK T n = fmL ((List.range n).map T) := by
  induction n with
  | zero => rfl
  | succ n ih => rw [List.range_succ, List.map_append, fmL_append, fmK, ih]; simp [fmL]
theorem parse_back : ∀ (L : List Sta) (f : Nat) (acc : List Sta) (s : ByteArray), (∀ x ∈ L, vSta x = true) → s.data.toList = fmL L → L.length < f → acc.length + L.length ≤ 100 → parseT f acc s = (acc ++ L, 0, 0)
  | [], f, acc, s, _, hs, hf, _ => by
    cases f with
    | zero => simp at hf
    | succ f =>
      have : s.size = 0 := by have e : s.data.toList.length = s.size := by simp
                              rw [hs] at e; simpa [fmL] using e.symm
      simp [parseT, this]
  | x :: L, f, acc, s, hv, hs, hf, hl => by
    cases f with
    | zero => simp at hf
    | succ f =>
      have e : s.data.toList.length = s.size := by simp
      have hvx := hv x (by simp)
      have hi : indexByte s.data.toList 10 = ((lineS x).length : Nat) := by
        rw [hs, fmL, List.append_assoc]
        exact ib_at 10 (lineS x) (fmL L) (line_no10 hvx)
      have hne : s.size ≠ 0 := by rw [← e, hs]; simp [fmL]
      have h1 : (s.extract 0 (lineS x).length).data.toList = lineS x := by
        rw [extract_data, hs, fmL]; simp
      have h2 : (s.extract ((lineS x).length + 1) s.size).data.toList = fmL L := by
        rw [extract_to_end, hs, fmL, List.drop_append, List.drop_eq_nil_of_le (by simp)]; simp
      rw [parseT, if_neg hne, hi, if_neg (by omega)]
      simp only [Int.toNat_natCast]
      rw [starF_of hvx h1.symm]
      simp only [List.length_cons] at hl hf
      dsimp only
      rw [if_neg (by omega), parse_back L f (acc ++ [x]) _ (fun y hy => hv y (by simp [hy])) h2 (by omega) (by simp; omega)]
      simp
theorem parse_format {n : Nat} {T : Nat → Sta} (hn : n ≤ 100) (hv : vTo T n = true) : parseF ⟨(fmK T n).toArray⟩ = ((List.range n).map T, 0, 0) := by
  have hl := fmK_len hv
  have hs : (⟨(fmK T n).toArray⟩ : ByteArray).size = (fmK T n).length := by simp [ByteArray.size]
  unfold parseF
  rw [if_neg (by rw [hs]; omega), hs]
  have := parse_back ((List.range n).map T) ((fmK T n).length + 1) [] ⟨(fmK T n).toArray⟩ (fun x hx => by
    obtain ⟨k, hk, rfl⟩ := List.mem_map.1 hx
    exact vTo_at hv (List.mem_range.1 hk)) (by rw [← fmK_fmL]) (by
      have : ∀ L : List Sta, L.length ≤ (fmL L).length := by
        intro L
        induction L with
        | nil => simp
        | cons x L ih => simp only [fmL, List.length_append, List.length_cons, List.length_nil]; omega
      have h2 := this ((List.range n).map T)
      rw [← fmK_fmL] at h2
      omega) (by simp; omega)
  simpa using this
end Go.Proofs.YtlpbmcnojkhdcaaDoor
