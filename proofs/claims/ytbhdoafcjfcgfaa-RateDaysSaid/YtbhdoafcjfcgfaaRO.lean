/-
  slices.Clone of numbers, limited, Shifted of both, SameBox.
-/
import Derived.Test.YtbhdoafcjfcgfaaRL
namespace Go.Proofs.Ytbhdoafcjfcgfaa
open Go.RowKit
set_option linter.unusedSimpArgs false
set_option linter.unusedVariables false

theorem inC_set (f g : Nat → Int) {n k : Nat} (x : Int) (hk : k < n) (h1 : g k = x) (h2 : ∀ j, j < n → j ≠ k → g j = f j) : (inC f n).set k (.int .i64 x) = inC g n := by
  induction n with
  | zero => omega
  | succ n ih =>
    by_cases e : k = n
    · subst e
      rw [inC, inC, List.set_append_right _ _ (by rw [inC_len]; omega), inC_len, Nat.sub_self, inC_congr (f := g) (g := f) (fun j hj => h2 j (by omega) (by omega)), h1]
      rfl
    · rw [inC, inC, List.set_append_left _ _ (by rw [inC_len]; omega), ih (by omega) (fun j hj hn => h2 j (by omega) hn), h2 n (by omega) (by omega)]
theorem inC_one (f : Nat → Int) (n : Nat) : ∀ u ∈ inC f n, u.oneCell' = true := by
  induction n with
  | zero => intro u hu; cases hu
  | succ n ih =>
    intro u hu
    rcases List.mem_append.1 hu with h | h
    · exact ih u h
    · simp only [List.mem_cons, List.not_mem_nil, or_false] at h
      rw [h]; rfl
theorem in_news {w : World} {ad : Addr} {n : Nat} {f : Nat → Int} (h : Sl w (some ad) n f) : ∀ j u, (inC f n)[j]? = some u → w.cell? (ad.add j) = some u := fun j u hu => by
  have hj : j < n := by have := (List.getElem?_eq_some_iff.1 hu).1; rwa [inC_len] at this
  obtain ⟨b', off', e, _, hc⟩ := h (by omega)
  obtain rfl : ad = ⟨b', off', none⟩ := Option.some.inj e
  rw [show (⟨b', off', none⟩ : Addr).add j = ⟨b', off' + j, none⟩ by unfold Addr.add; split <;> simp_all, hc j hj, ← hu, inC_at f hj]
theorem nil_no6 (b off n c : Nat) (w : World) : Sem.run Try.prog (binOp .eql 22 (.slice (some ⟨b, off, none⟩) n c) (.slice none 0 0)) w = .ok (.bool false) w := by kernel_rfl
theorem own_cap6 {w : World} {base : Nat} {e : TypeId} {size g n cap : Nat} {xs : List Value} (h : w.ownsRow base e size (.slice (some ⟨g, 0, none⟩) n cap) n xs) : n ≤ cap ∧ cap ≤ maxLen ∧ base ≤ g ∧ g < w.heap.size := by
  rcases h.2 with ⟨h', _⟩ | ⟨g', cap', cur, h', hb, hg, hnc, hcm, _⟩
  · simp at h'
  · simp only [Value.slice.injEq, Option.some.injEq, Addr.mk.injEq, and_true, true_and] at h'
    obtain ⟨rfl, rfl⟩ := h'
    exact ⟨hnc, hcm, hb, (Array.getElem?_eq_some_iff.1 hg).1⟩
set_option maxRecDepth 100000 in
set_option maxHeartbeats 3200000 in
theorem clone6_any (A : Option Addr) (n c : Nat) (E : Nat → Int) (w : World) (hA : Sl w A n E) (h1 : 1 ≤ n) (h6 : n ≤ 400) :
    Calls Try.prog 60 #[.slice A n c] w fun e w' => ∃ g cap, e = .returned (.slice (some ⟨g, 0, none⟩) n cap) ∧ w'.ownsRow w.heap.size 3 1 (.slice (some ⟨g, 0, none⟩) n cap) n (inC E n) ∧ Bl w w' := by
  obtain ⟨i0, hi0, hz0, hz1, hz2⟩ := info_parts6 int_info
  have HI := Lib.hid (And.intro hi0 (And.intro hz0 (And.intro hz1 hz2)))
  clear hi0 hz0 hz1 hz2
  obtain ⟨b, off, rfl, hbb, hc⟩ := hA (by omega)
  have HA := Lib.hid hA
  clear hA hc
  go_enter Try.func60, Try.ntmps60
  have HO := Lib.hid (World.ownsRow_lit (base := w.heap.size) (size := 1) (e := 3) w #[] 0 (Nat.le_refl _) (by decide) rfl)
  have EN := nil_no6 b off n c
  go_wp2_with (at_builtin; refine wpList_append_lies _ rfl _ _ _ rfl w.heap.size 3 i0 _ 1 8 Try.underlying22 HI.out.1 HI.out.2.1 HI.out.2.2.1 HI.out.2.2.2 rfl (by omega) _ 0 [] rfl HO.out ⟨b, off, none⟩ n c (inC E n) rfl (by rw [inC_len, Nat.mul_one]) (in_news (HA.out.below (by go_grown))) (inC_one E n) (by omega) (by unfold maxLen; omega) (by omega) (by (try simp only [World.size_alloc]); omega) _ rfl ?_; intro gg cap w9 hown1 hgrow hat hlt9)
  have hown2 : w9.ownsRow w.heap.size 3 1 (.slice (some ⟨gg, 0, none⟩) n cap) n (inC E n) := by have h := hown1; simp only [Nat.zero_add, List.nil_append] at h; exact h
  have HO9 := Lib.hid hown2
  have B9 : Bl w w9 := Below.grown (by go_grown) hgrow (by (try simp only [World.size_alloc]); omega) (fun j hj => by have hj : w.heap.size = j := Option.some.inj hj; omega)
  clear hown1 hown2
  (try simp only [Nat.zero_add])
  go_ret
  exact ⟨gg, cap, rfl, HO9.out, B9⟩

def bxZ : Value := .agg #[.string ⟨#[]⟩, .slice none 0 0]
def bxR (s : ByteArray) (A : Option Addr) (n c : Nat) (E : Nat → Int) : Value := if vbB s n E = true then .tuple #[encB s A n c, .int .i64 0] else .tuple #[bxZ, .int .i64 4]

/-- The errors shifted. -/
def shF (E : Nat → Int) (p q : Int) (j : Nat) : Int := E j + (p + q * (j : Int))
def shTo (E : Nat → Int) (p q : Int) (k j : Nat) : Int := if j < k then shF E p q j else E j
theorem sh_zero (E : Nat → Int) (p q : Int) (n : Nat) : inC (shTo E p q 0) n = inC E n := inC_congr fun j _ => by simp [shTo]
theorem sh_all (E : Nat → Int) (p q : Int) (n : Nat) : inC (shTo E p q n) n = inC (shF E p q) n := inC_congr fun j hj => by simp [shTo, hj]
theorem sh_step (E : Nat → Int) (p q : Int) {n k : Nat} (hk : k < n) : (inC (shTo E p q k) n).set k (.int .i64 (shF E p q k)) = inC (shTo E p q (k + 1)) n :=
  inC_set _ _ _ hk (by simp [shTo]) (fun j hj hne => by
    unfold shTo
    by_cases h : j < k
    · rw [if_pos h, if_pos (by omega)]
    · rw [if_neg h, if_neg (by omega)])
def shOk (p q : Int) : Bool := inB p (-86400000) 86400000 && inB q (-1000000) 1000000
theorem shOk_iff {p q : Int} : shOk p q = true ↔ (-86400000 ≤ p ∧ p ≤ 86400000) ∧ -1000000 ≤ q ∧ q ≤ 1000000 := by simp [shOk, inB_iff]
/-- What Shifted returns. -/
def ShPost (s : ByteArray) (n : Nat) (E : Nat → Int) (p q : Int) (w : World) (e : Ending) (w' : World) : Prop :=
  Bl w w' ∧ ((vbB s n E = false ∧ e = .returned (.tuple #[bxZ, .int .i64 1])) ∨ (vbB s n E = true ∧ shOk p q = false ∧ e = .returned (.tuple #[bxZ, .int .i64 7])) ∨
    (vbB s n E = true ∧ shOk p q = true ∧ vbB s n (shF E p q) = false ∧ e = .returned (.tuple #[bxZ, .int .i64 4])) ∨
    (vbB s n E = true ∧ shOk p q = true ∧ vbB s n (shF E p q) = true ∧ ∃ A cap, e = .returned (.tuple #[encB s A n cap, .int .i64 0]) ∧ n ≤ cap ∧ cap ≤ maxLen ∧ Sl w' A n (shF E p q)))
theorem mulj_bd {q : Int} {j : Nat} (hq : -1000000 ≤ q ∧ q ≤ 1000000) (hj : j ≤ 400) : -400000000 ≤ q * (j : Int) ∧ q * (j : Int) ≤ 400000000 := by
  have h1 : q * (j : Int) ≤ 1000000 * (j : Int) := Int.mul_le_mul_of_nonneg_right hq.2 (by omega)
  have h2 : -1000000 * (j : Int) ≤ q * (j : Int) := Int.mul_le_mul_of_nonneg_right hq.1 (by omega)
  omega

theorem sl_of_own' {w : World} {base : Nat} {e : TypeId} {g n cap : Nat} {f : Nat → Int} (h : w.ownsRow base e 1 (.slice (some ⟨g, 0, none⟩) n cap) n (inC f n)) : Sl w (some ⟨g, 0, none⟩) n f := by
  obtain ⟨A, cap', e1, _, _, h2⟩ := sl_of_own h
  cases e1
  exact h2
theorem Sl.set1 {w : World} {g n : Nat} {f : Nat → Int} (h : Sl w (some ⟨g, 0, none⟩) n f) {b o : Nat} {u : Value} (hb : b ≠ g) : Sl (w.setCell ⟨b, o, none⟩ u) (some ⟨g, 0, none⟩) n f := fun hn => by
  obtain ⟨b', off', e, hl, hc⟩ := h hn
  cases e
  refine ⟨g, 0, rfl, by simpa using hl, fun j hj => ?_⟩
  rw [← hc j hj]
  exact World.cell?_of_block (Below.heap_setCell _ _ _ g (fun e => hb (by rw [e])))
theorem Sl.set2 {w : World} {g n : Nat} {f : Nat → Int} (h : Sl w (some ⟨g, 0, none⟩) n f) {b : Nat} {u v : Value} (hb : b ≠ g) : Sl ((w.setCell ⟨b, 0, none⟩ u).setCell ⟨b, 1, none⟩ v) (some ⟨g, 0, none⟩) n f := (h.set1 hb).set1 hb
