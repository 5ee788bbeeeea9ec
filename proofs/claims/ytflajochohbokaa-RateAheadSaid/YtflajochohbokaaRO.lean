/-
  slices.Clone of numbers, limited, Shifted of both, SameBox.
-/
import Derived.Test.YtflajochohbokaaRL
namespace Go.Proofs.Ytflajochohbokaa
open Go.RowKit
set_option linter.unusedSimpArgs false
set_option linter.unusedVariables false

theorem inC_set (f g : Nat → Int) {n k : Nat} (x : Int) (hk : k < n) (h1 : g k = x) (h2 : ∀ j, j < n → j ≠ k → g j = f j) : (inC f n).set k (.int .i64 x) = inC g n := by
  induction n with
  | zero => omega
  | succ n ih =>
    by_cases e : k = n
    · subst e
      rw [inC, inC, List.set_append_right _ _ (by rw [inC_len]; omega), inC_len, Nat.sub_self, inC_congr (f := g) (g := f) (fun j hj => h2 j (by omega) (by omega)), h1]
      rfl
    · rw [inC, inC, List.set_append_left _ _ (by rw [inC_len]; omega), ih (by omega) (fun j hj hn => h2 j (by omega) hn), h2 n (by omega) (by omega)]
theorem inC_one (f : Nat → Int) (n : Nat) : ∀ u ∈ inC f n, u.oneCell' = true := by
  induction n with
  | zero => intro u hu; cases hu
  | succ n ih =>
    intro u hu
    rcases List.mem_append.1 hu with h | h
    · exact ih u h
    · simp only [List.mem_cons, List.not_mem_nil, or_false] at h
      rw [h]; rfl
theorem in_news {w : World} {ad : Addr} {n : Nat} {f : Nat → Int} (h : Sl w (some ad) n f) : ∀ j u, (inC f n)[j]? = some u → w.cell? (ad.add j) = some u := fun j u hu => by
  have hj : j < n := by have := (List.getElem?_eq_some_iff.1 hu).1; rwa [inC_len] at this
  obtain ⟨b', off', e, _, hc⟩ := h (by omega)
  obtain rfl : ad = ⟨b', off', none⟩ := Option.some.inj e
  rw [show (⟨b', off', none⟩ : Addr).add j = ⟨b', off' + j, none⟩ by unfold Addr.add; split <;> simp_all, hc j hj, ← hu, inC_at f hj]
theorem nil_no6 (b off n c : Nat) (w : World) : Sem.run Try.prog (binOp .eql 22 (.slice (some ⟨b, off, none⟩) n c) (.slice none 0 0)) w = .ok (.bool false) w := by kernel_rfl
theorem own_cap6 {w : World} {base : Nat} {e : TypeId} {size g n cap : Nat} {xs : List Value} (h : w.ownsRow base e size (.slice (some ⟨g, 0, none⟩) n cap) n xs) : n ≤ cap ∧ cap ≤ maxLen ∧ base ≤ g ∧ g < w.heap.size := by
  rcases h.2 with ⟨h', _⟩ | ⟨g', cap', cur, h', hb, hg, hnc, hcm, _⟩
  · simp at h'
  · simp only [Value.slice.injEq, Option.some.injEq, Addr.mk.injEq, and_true, true_and] at h'
    obtain ⟨rfl, rfl⟩ := h'
    exact ⟨hnc, hcm, hb, (Array.getElem?_eq_some_iff.1 hg).1⟩
set_option maxRecDepth 100000 in
set_option maxHeartbeats 3200000 in
theorem clone6_any (A : Option Addr) (n c : Nat) (E : Nat → Int) (w : World) (hA : Sl w A n E) (h1 : 1 ≤ n) (h6 : n ≤ 400) :
    Calls Try.prog 74 #[.slice A n c] w fun e w' => ∃ g cap, e = .returned (.slice (some ⟨g, 0, none⟩) n cap) ∧ w'.ownsRow w.heap.size 3 1 (.slice (some ⟨g, 0, none⟩) n cap) n (inC E n) ∧ Bl w w' := by
  obtain ⟨i0, hi0, hz0, hz1, hz2⟩ := info_parts6 int_info
  have HI := Lib.hid (And.intro hi0 (And.intro hz0 (And.intro hz1 hz2)))
  clear hi0 hz0 hz1 hz2
  obtain ⟨b, off, rfl, hbb, hc⟩ := hA (by omega)
  have HA := Lib.hid hA
  clear hA hc
  go_enter Try.func74, Try.ntmps74
  have HO := Lib.hid (World.ownsRow_lit (base := w.heap.size) (size := 1) (e := 3) w #[] 0 (Nat.le_refl _) (by decide) rfl)
  have EN := nil_no6 b off n c
  go_wp2_with (at_builtin; refine wpList_append_lies _ rfl _ _ _ rfl w.heap.size 3 i0 _ 1 8 Try.underlying22 HI.out.1 HI.out.2.1 HI.out.2.2.1 HI.out.2.2.2 rfl (by omega) _ 0 [] rfl HO.out ⟨b, off, none⟩ n c (inC E n) rfl (by rw [inC_len, Nat.mul_one]) (in_news (HA.out.below (by go_grown))) (inC_one E n) (by omega) (by unfold maxLen; omega) (by omega) (by (try simp only [World.size_alloc]); omega) _ rfl ?_; intro gg cap w9 hown1 hgrow hat hlt9)
  have hown2 : w9.ownsRow w.heap.size 3 1 (.slice (some ⟨gg, 0, none⟩) n cap) n (inC E n) := by have h := hown1; simp only [Nat.zero_add, List.nil_append] at h; exact h
  have HO9 := Lib.hid hown2
  have B9 : Bl w w9 := Below.grown (by go_grown) hgrow (by (try simp only [World.size_alloc]); omega) (fun j hj => by have hj : w.heap.size = j := Option.some.inj hj; omega)
  clear hown1 hown2
  (try simp only [Nat.zero_add])
  go_ret
  exact ⟨gg, cap, rfl, HO9.out, B9⟩

def bxZ : Value := .agg #[.string ⟨#[]⟩, .slice none 0 0]
def bxR (s : ByteArray) (A : Option Addr) (n c : Nat) (E : Nat → Int) : Value := if vbB s n E = true then .tuple #[encB s A n c, .int .i64 0] else .tuple #[bxZ, .int .i64 4]

set_option maxRecDepth 100000 in
set_option maxHeartbeats 1600000 in
theorem limited6_any (s : ByteArray) (A : Option Addr) (n c : Nat) (E : Nat → Int) (w : World) (hs : s.size ≤ maxLen) (hn : n ≤ maxLen) (hA : Sl w A n E) :
    Calls Try.prog 75 #[encB s A n c] w fun e w' => e = .returned (bxR s A n c E) ∧ Bl w w' := by
  have HA := Lib.hid hA
  have HS := Lib.hid hs
  have HN := Lib.hid hn
  clear hA hs hn
  by_cases hv : vbB s n E = true
  · have HV := Lib.hid hv
    have HR := Lib.hid (show bxR s A n c E = .tuple #[encB s A n c, .int .i64 0] by rw [bxR, if_pos hv])
    clear hv
    go_enter Try.func75, Try.ntmps75
    go_wp2_with fail
    refine (validBox_any s A n c E _ HS.out HN.out (HA.out.below (by go_grown))).mono ?_
    rintro q1 w1 ⟨rfl, hb⟩
    have x0 := kcb hb (b := w.heap.size) (o := 0) (v := .string s) (by first | assumption | (refine cellUp ?_; assumption) | go_cell)
    have x1 := kcb hb (b := w.heap.size) (o := 1) (v := .slice A n c) (by first | assumption | (refine cellUp ?_; assumption) | go_cell)
    have r0 := kcb hb (b := w.heap.size + 1) (o := 0) (v := .string ⟨#[]⟩) (by first | assumption | (refine cellUp ?_; assumption) | go_cell)
    have r1 := kcb hb (b := w.heap.size + 1) (o := 1) (v := .slice none 0 0) (by first | assumption | (refine cellUp ?_; assumption) | go_cell)
    have f0 := fzb hb (b := w.heap.size + 1) (o := 0) (by (try simp only [frozen?_alloc_cells, World.frozen?_setCell, World.frozen?_drew]); first | assumption | exact fz_new (by (try simp only [World.size_alloc, World.size_setCell, World.size_drew]); omega)) (by (try simp only [World.size_alloc, World.size_setCell, World.size_drew]); omega)
    have f1 := fzb hb (b := w.heap.size + 1) (o := 1) (by (try simp only [frozen?_alloc_cells, World.frozen?_setCell, World.frozen?_drew]); first | assumption | exact fz_new (by (try simp only [World.size_alloc, World.size_setCell, World.size_drew]); omega)) (by (try simp only [World.size_alloc, World.size_setCell, World.size_drew]); omega)
    have B1 : Bl w w1 := Below.trans (by go_grown) (hb.mono (by (try simp only [World.size_alloc, World.size_setCell, World.size_drew]); omega))
    have l1 := ltb r1
    have l1_1 := ltb x1
    have zz1 := B1.size
    clear hb
    rw [HV.out]
    go_wp2_with fail
    (try simp only [Exit.inBlock, Exit.then])
    refine bodyPost_ret (v := bxR s A n c E) (by rw [HR.out]; simp [results, Try.results75, go_sem, bxZ, r0, r1]) rfl ⟨rfl, Below.trans B1 (by go_grown)⟩
  · have HV := Lib.hid (show vbB s n E = false by simpa using hv)
    have HR := Lib.hid (show bxR s A n c E = .tuple #[bxZ, .int .i64 4] by rw [bxR, if_neg hv])
    clear hv
    go_enter Try.func75, Try.ntmps75
    go_wp2_with fail
    refine (validBox_any s A n c E _ HS.out HN.out (HA.out.below (by go_grown))).mono ?_
    rintro q1 w1 ⟨rfl, hb⟩
    have x0 := kcb hb (b := w.heap.size) (o := 0) (v := .string s) (by first | assumption | (refine cellUp ?_; assumption) | go_cell)
    have x1 := kcb hb (b := w.heap.size) (o := 1) (v := .slice A n c) (by first | assumption | (refine cellUp ?_; assumption) | go_cell)
    have r0 := kcb hb (b := w.heap.size + 1) (o := 0) (v := .string ⟨#[]⟩) (by first | assumption | (refine cellUp ?_; assumption) | go_cell)
    have r1 := kcb hb (b := w.heap.size + 1) (o := 1) (v := .slice none 0 0) (by first | assumption | (refine cellUp ?_; assumption) | go_cell)
    have f0 := fzb hb (b := w.heap.size + 1) (o := 0) (by (try simp only [frozen?_alloc_cells, World.frozen?_setCell, World.frozen?_drew]); first | assumption | exact fz_new (by (try simp only [World.size_alloc, World.size_setCell, World.size_drew]); omega)) (by (try simp only [World.size_alloc, World.size_setCell, World.size_drew]); omega)
    have f1 := fzb hb (b := w.heap.size + 1) (o := 1) (by (try simp only [frozen?_alloc_cells, World.frozen?_setCell, World.frozen?_drew]); first | assumption | exact fz_new (by (try simp only [World.size_alloc, World.size_setCell, World.size_drew]); omega)) (by (try simp only [World.size_alloc, World.size_setCell, World.size_drew]); omega)
    have B1 : Bl w w1 := Below.trans (by go_grown) (hb.mono (by (try simp only [World.size_alloc, World.size_setCell, World.size_drew]); omega))
    have l1 := ltb r1
    have l1_1 := ltb x1
    have zz1 := B1.size
    clear hb
    rw [HV.out]
    go_wp2_with fail
    (try simp only [Exit.inBlock, Exit.then])
    refine bodyPost_ret (v := bxR s A n c E) (by rw [HR.out]; simp [results, Try.results75, go_sem, bxZ, r0, r1]) rfl ⟨rfl, Below.trans B1 (by go_grown)⟩

/-- The errors shifted. -/
def shF (E : Nat → Int) (p q : Int) (j : Nat) : Int := E j + (p + q * (j : Int))
def shTo (E : Nat → Int) (p q : Int) (k j : Nat) : Int := if j < k then shF E p q j else E j
theorem sh_zero (E : Nat → Int) (p q : Int) (n : Nat) : inC (shTo E p q 0) n = inC E n := inC_congr fun j _ => by simp [shTo]
theorem sh_all (E : Nat → Int) (p q : Int) (n : Nat) : inC (shTo E p q n) n = inC (shF E p q) n := inC_congr fun j hj => by simp [shTo, hj]
theorem sh_step (E : Nat → Int) (p q : Int) {n k : Nat} (hk : k < n) : (inC (shTo E p q k) n).set k (.int .i64 (shF E p q k)) = inC (shTo E p q (k + 1)) n :=
  inC_set _ _ _ hk (by simp [shTo]) (fun j hj hne => by
    unfold shTo
    by_cases h : j < k
    · rw [if_pos h, if_pos (by omega)]
    · rw [if_neg h, if_neg (by omega)])
def shOk (p q : Int) : Bool := inB p (-86400000) 86400000 && inB q (-1000000) 1000000
theorem shOk_iff {p q : Int} : shOk p q = true ↔ (-86400000 ≤ p ∧ p ≤ 86400000) ∧ -1000000 ≤ q ∧ q ≤ 1000000 := by simp [shOk, inB_iff]
/-- What Shifted returns. -/
def ShPost (s : ByteArray) (n : Nat) (E : Nat → Int) (p q : Int) (w : World) (e : Ending) (w' : World) : Prop :=
  Bl w w' ∧ ((vbB s n E = false ∧ e = .returned (.tuple #[bxZ, .int .i64 1])) ∨ (vbB s n E = true ∧ shOk p q = false ∧ e = .returned (.tuple #[bxZ, .int .i64 7])) ∨
    (vbB s n E = true ∧ shOk p q = true ∧ vbB s n (shF E p q) = false ∧ e = .returned (.tuple #[bxZ, .int .i64 4])) ∨
    (vbB s n E = true ∧ shOk p q = true ∧ vbB s n (shF E p q) = true ∧ ∃ A cap, e = .returned (.tuple #[encB s A n cap, .int .i64 0]) ∧ n ≤ cap ∧ cap ≤ maxLen ∧ Sl w' A n (shF E p q)))
theorem mulj_bd {q : Int} {j : Nat} (hq : -1000000 ≤ q ∧ q ≤ 1000000) (hj : j ≤ 400) : -400000000 ≤ q * (j : Int) ∧ q * (j : Int) ≤ 400000000 := by
  have h1 : q * (j : Int) ≤ 1000000 * (j : Int) := Int.mul_le_mul_of_nonneg_right hq.2 (by omega)
  have h2 : -1000000 * (j : Int) ≤ q * (j : Int) := Int.mul_le_mul_of_nonneg_right hq.1 (by omega)
  omega

theorem sl_of_own' {w : World} {base : Nat} {e : TypeId} {g n cap : Nat} {f : Nat → Int} (h : w.ownsRow base e 1 (.slice (some ⟨g, 0, none⟩) n cap) n (inC f n)) : Sl w (some ⟨g, 0, none⟩) n f := by
  obtain ⟨A, cap', e1, _, _, h2⟩ := sl_of_own h
  cases e1
  exact h2
theorem Sl.set1 {w : World} {g n : Nat} {f : Nat → Int} (h : Sl w (some ⟨g, 0, none⟩) n f) {b o : Nat} {u : Value} (hb : b ≠ g) : Sl (w.setCell ⟨b, o, none⟩ u) (some ⟨g, 0, none⟩) n f := fun hn => by
  obtain ⟨b', off', e, hl, hc⟩ := h hn
  cases e
  refine ⟨g, 0, rfl, by simpa using hl, fun j hj => ?_⟩
  rw [← hc j hj]
  exact World.cell?_of_block (Below.heap_setCell _ _ _ g (fun e => hb (by rw [e])))
theorem Sl.set2 {w : World} {g n : Nat} {f : Nat → Int} (h : Sl w (some ⟨g, 0, none⟩) n f) {b : Nat} {u v : Value} (hb : b ≠ g) : Sl ((w.setCell ⟨b, 0, none⟩ u).setCell ⟨b, 1, none⟩ v) (some ⟨g, 0, none⟩) n f := (h.set1 hb).set1 hb

set_option maxRecDepth 100000 in
set_option maxHeartbeats 3200000 in
theorem shifted_any (s : ByteArray) (A : Option Addr) (n c : Nat) (E : Nat → Int) (p q : Int) (w : World) (hs : s.size ≤ maxLen) (hA : Sl w A n E) (hn : n ≤ c) (hc : c ≤ maxLen) :
    Calls Try.prog 34 #[encB s A n c, .int .i64 p, .int .i64 q] w (ShPost s n E p q w) := by
  have HA := Lib.hid hA
  have HS := Lib.hid hs
  have HC := Lib.hid hc
  have HN := Lib.hid (show n ≤ maxLen by omega)
  have HNC := Lib.hid hn
  clear hA hs
  unfold maxLen at hc
  by_cases hv : vbB s n E = true
  rotate_left
  · have HV := Lib.hid (show vbB s n E = false by simpa using hv)
    clear hv
    go_enter Try.func34, Try.ntmps34
    go_wp2_with fail
    refine (validBox_any s A n c E _ HS.out HN.out (HA.out.below (by go_grown))).mono ?_
    rintro q1 w1 ⟨rfl, hb⟩
    have x0 := kcb hb (b := w.heap.size) (o := 0) (v := .string s) (by first | assumption | (refine cellUp ?_; assumption) | go_cell)
    have x1 := kcb hb (b := w.heap.size) (o := 1) (v := .slice A n c) (by first | assumption | (refine cellUp ?_; assumption) | go_cell)
    have r0 := kcb hb (b := w.heap.size + 1) (o := 0) (v := .string ⟨#[]⟩) (by first | assumption | (refine cellUp ?_; assumption) | go_cell)
    have r1 := kcb hb (b := w.heap.size + 1) (o := 1) (v := .slice none 0 0) (by first | assumption | (refine cellUp ?_; assumption) | go_cell)
    have f0 := fzb hb (b := w.heap.size + 1) (o := 0) (by (try simp only [frozen?_alloc_cells, World.frozen?_setCell, World.frozen?_drew]); first | assumption | exact fz_new (by (try simp only [World.size_alloc, World.size_setCell, World.size_drew]); omega)) (by (try simp only [World.size_alloc, World.size_setCell, World.size_drew]); omega)
    have f1 := fzb hb (b := w.heap.size + 1) (o := 1) (by (try simp only [frozen?_alloc_cells, World.frozen?_setCell, World.frozen?_drew]); first | assumption | exact fz_new (by (try simp only [World.size_alloc, World.size_setCell, World.size_drew]); omega)) (by (try simp only [World.size_alloc, World.size_setCell, World.size_drew]); omega)
    have B1 : Bl w w1 := Below.trans (by go_grown) (hb.mono (by (try simp only [World.size_alloc, World.size_setCell, World.size_drew]); omega))
    have l1 := ltb r1
    have l1_1 := ltb x1
    have zz1 := B1.size
    clear hb
    rw [HV.out]
    go_wp2_with fail
    (try simp only [Exit.inBlock, Exit.then])
    refine bodyPost_ret (v := .tuple #[bxZ, .int .i64 1]) (by simp [results, Try.results34, go_sem, bxZ, r0, r1]) rfl ⟨Below.trans B1 (by go_grown), .inl ⟨HV.out, rfl⟩⟩
  · have HV := Lib.hid hv
    obtain ⟨_, n2, n4, hE⟩ := vbB_iff.1 hv
    have HE := Lib.hid hE
    clear hv hE
    by_cases h1 : inB p (-86400000) 86400000 = true
    rotate_left
    · have H1 := Lib.hid (show inB p (-86400000) 86400000 = false by simpa using h1)
      clear h1
      go_enter Try.func34, Try.ntmps34
      go_wp2_with fail
      refine (validBox_any s A n c E _ HS.out HN.out (HA.out.below (by go_grown))).mono ?_
      rintro q1 w1 ⟨rfl, hb⟩
      have x0 := kcb hb (b := w.heap.size) (o := 0) (v := .string s) (by first | assumption | (refine cellUp ?_; assumption) | go_cell)
      have x1 := kcb hb (b := w.heap.size) (o := 1) (v := .slice A n c) (by first | assumption | (refine cellUp ?_; assumption) | go_cell)
      have r0 := kcb hb (b := w.heap.size + 1) (o := 0) (v := .string ⟨#[]⟩) (by first | assumption | (refine cellUp ?_; assumption) | go_cell)
      have r1 := kcb hb (b := w.heap.size + 1) (o := 1) (v := .slice none 0 0) (by first | assumption | (refine cellUp ?_; assumption) | go_cell)
      have f0 := fzb hb (b := w.heap.size + 1) (o := 0) (by (try simp only [frozen?_alloc_cells, World.frozen?_setCell, World.frozen?_drew]); first | assumption | exact fz_new (by (try simp only [World.size_alloc, World.size_setCell, World.size_drew]); omega)) (by (try simp only [World.size_alloc, World.size_setCell, World.size_drew]); omega)
      have f1 := fzb hb (b := w.heap.size + 1) (o := 1) (by (try simp only [frozen?_alloc_cells, World.frozen?_setCell, World.frozen?_drew]); first | assumption | exact fz_new (by (try simp only [World.size_alloc, World.size_setCell, World.size_drew]); omega)) (by (try simp only [World.size_alloc, World.size_setCell, World.size_drew]); omega)
      have B1 : Bl w w1 := Below.trans (by go_grown) (hb.mono (by (try simp only [World.size_alloc, World.size_setCell, World.size_drew]); omega))
      have l1 := ltb r1
      have l1_1 := ltb x1
      have zz1 := B1.size
      clear hb
      rw [HV.out]
      go_wp2_with fail
      refine (withinR_any _ _ _ (by omega) (by omega)).mono ?_
      rintro e w1 ⟨rfl, rfl⟩
      rw [H1.out]
      go_wp2_with fail
      (try simp only [Exit.inBlock, Exit.then])
      refine bodyPost_ret (v := .tuple #[bxZ, .int .i64 7]) (by simp [results, Try.results34, go_sem, bxZ, r0, r1]) rfl ⟨Below.trans B1 (by go_grown), .inr (.inl ⟨HV.out, by simp [shOk, H1.out], rfl⟩)⟩
    · have H1 := Lib.hid h1
      clear h1
      by_cases h2 : inB q (-1000000) 1000000 = true
      rotate_left
      · have H2 := Lib.hid (show inB q (-1000000) 1000000 = false by simpa using h2)
        clear h2
        go_enter Try.func34, Try.ntmps34
        go_wp2_with fail
        refine (validBox_any s A n c E _ HS.out HN.out (HA.out.below (by go_grown))).mono ?_
        rintro q1 w1 ⟨rfl, hb⟩
        have x0 := kcb hb (b := w.heap.size) (o := 0) (v := .string s) (by first | assumption | (refine cellUp ?_; assumption) | go_cell)
        have x1 := kcb hb (b := w.heap.size) (o := 1) (v := .slice A n c) (by first | assumption | (refine cellUp ?_; assumption) | go_cell)
        have r0 := kcb hb (b := w.heap.size + 1) (o := 0) (v := .string ⟨#[]⟩) (by first | assumption | (refine cellUp ?_; assumption) | go_cell)
        have r1 := kcb hb (b := w.heap.size + 1) (o := 1) (v := .slice none 0 0) (by first | assumption | (refine cellUp ?_; assumption) | go_cell)
        have f0 := fzb hb (b := w.heap.size + 1) (o := 0) (by (try simp only [frozen?_alloc_cells, World.frozen?_setCell, World.frozen?_drew]); first | assumption | exact fz_new (by (try simp only [World.size_alloc, World.size_setCell, World.size_drew]); omega)) (by (try simp only [World.size_alloc, World.size_setCell, World.size_drew]); omega)
        have f1 := fzb hb (b := w.heap.size + 1) (o := 1) (by (try simp only [frozen?_alloc_cells, World.frozen?_setCell, World.frozen?_drew]); first | assumption | exact fz_new (by (try simp only [World.size_alloc, World.size_setCell, World.size_drew]); omega)) (by (try simp only [World.size_alloc, World.size_setCell, World.size_drew]); omega)
        have B1 : Bl w w1 := Below.trans (by go_grown) (hb.mono (by (try simp only [World.size_alloc, World.size_setCell, World.size_drew]); omega))
        have l1 := ltb r1
        have l1_1 := ltb x1
        have zz1 := B1.size
        clear hb
        rw [HV.out]
        go_wp2_with fail
        refine (withinR_any _ _ _ (by omega) (by omega)).mono ?_
        rintro e w1 ⟨rfl, rfl⟩
        rw [H1.out]
        go_wp2_with fail
        refine (withinR_any _ _ _ (by omega) (by omega)).mono ?_
        rintro e w1 ⟨rfl, rfl⟩
        rw [H2.out]
        go_wp2_with fail
        (try simp only [Exit.inBlock, Exit.then])
        refine bodyPost_ret (v := .tuple #[bxZ, .int .i64 7]) (by simp [results, Try.results34, go_sem, bxZ, r0, r1]) rfl ⟨Below.trans B1 (by go_grown), .inr (.inl ⟨HV.out, by simp [shOk, H2.out], rfl⟩)⟩
      · have H2 := Lib.hid h2
        have HOK := Lib.hid (show shOk p q = true by simp [shOk, H1.out, H2.out])
        obtain ⟨⟨p1, p2⟩, q1, q2⟩ := shOk_iff.1 HOK.out
        clear h2
        go_enter Try.func34, Try.ntmps34
        go_wp2_with fail
        refine (validBox_any s A n c E _ HS.out HN.out (HA.out.below (by go_grown))).mono ?_
        rintro q1 w1 ⟨rfl, hb⟩
        have x0 := kcb hb (b := w.heap.size) (o := 0) (v := .string s) (by first | assumption | (refine cellUp ?_; assumption) | go_cell)
        have x1 := kcb hb (b := w.heap.size) (o := 1) (v := .slice A n c) (by first | assumption | (refine cellUp ?_; assumption) | go_cell)
        have r0 := kcb hb (b := w.heap.size + 1) (o := 0) (v := .string ⟨#[]⟩) (by first | assumption | (refine cellUp ?_; assumption) | go_cell)
        have r1 := kcb hb (b := w.heap.size + 1) (o := 1) (v := .slice none 0 0) (by first | assumption | (refine cellUp ?_; assumption) | go_cell)
        have f0 := fzb hb (b := w.heap.size + 1) (o := 0) (by (try simp only [frozen?_alloc_cells, World.frozen?_setCell, World.frozen?_drew]); first | assumption | exact fz_new (by (try simp only [World.size_alloc, World.size_setCell, World.size_drew]); omega)) (by (try simp only [World.size_alloc, World.size_setCell, World.size_drew]); omega)
        have f1 := fzb hb (b := w.heap.size + 1) (o := 1) (by (try simp only [frozen?_alloc_cells, World.frozen?_setCell, World.frozen?_drew]); first | assumption | exact fz_new (by (try simp only [World.size_alloc, World.size_setCell, World.size_drew]); omega)) (by (try simp only [World.size_alloc, World.size_setCell, World.size_drew]); omega)
        have B1 : Bl w w1 := Below.trans (by go_grown) (hb.mono (by (try simp only [World.size_alloc, World.size_setCell, World.size_drew]); omega))
        have l1 := ltb r1
        have l1_1 := ltb x1
        have zz1 := B1.size
        clear hb
        rw [HV.out]
        go_wp2_with fail
        refine (withinR_any _ _ _ (by omega) (by omega)).mono ?_
        rintro e w1 ⟨rfl, rfl⟩
        rw [H1.out]
        go_wp2_with fail
        refine (withinR_any _ _ _ (by omega) (by omega)).mono ?_
        rintro e w1 ⟨rfl, rfl⟩
        rw [H2.out]
        go_wp2_with fail
        refine (clone6_any A n c E _ (HA.out.below (by exact B1)) (by omega) n4).mono ?_
        rintro q2' w2 ⟨g, cap, rfl, hown, hb⟩
        have x0 := kcb hb (b := w.heap.size) (o := 0) (v := .string s) (by first | assumption | (refine cellUp ?_; assumption) | go_cell)
        have x1 := kcb hb (b := w.heap.size) (o := 1) (v := .slice A n c) (by first | assumption | (refine cellUp ?_; assumption) | go_cell)
        have r0 := kcb hb (b := w.heap.size + 1) (o := 0) (v := .string ⟨#[]⟩) (by first | assumption | (refine cellUp ?_; assumption) | go_cell)
        have r1 := kcb hb (b := w.heap.size + 1) (o := 1) (v := .slice none 0 0) (by first | assumption | (refine cellUp ?_; assumption) | go_cell)
        have f0 := fzb hb (b := w.heap.size + 1) (o := 0) (by (try simp only [frozen?_alloc_cells, World.frozen?_setCell, World.frozen?_drew]); first | assumption | exact fz_new (by (try simp only [World.size_alloc, World.size_setCell, World.size_drew]); omega)) (by (try simp only [World.size_alloc, World.size_setCell, World.size_drew]); omega)
        have f1 := fzb hb (b := w.heap.size + 1) (o := 1) (by (try simp only [frozen?_alloc_cells, World.frozen?_setCell, World.frozen?_drew]); first | assumption | exact fz_new (by (try simp only [World.size_alloc, World.size_setCell, World.size_drew]); omega)) (by (try simp only [World.size_alloc, World.size_setCell, World.size_drew]); omega)
        have B2 := B1.tr hb
        have z2 := B2.size
        have HO2 := Lib.hid (show w2.ownsRow w1.heap.size 3 1 (.slice (some ⟨g, 0, none⟩) n cap) n (inC (shTo E p q 0) n) by rw [sh_zero]; exact hown)
        obtain ⟨g1, g2, g3, g4⟩ := own_cap6 hown
        have HG2 := Lib.hid g2
        unfold maxLen at g2
        have HBX := Lib.hid (And.intro x0 (And.intro r0 (And.intro r1 (And.intro f0 f1))))
        have lr := ltb r0
        clear hown hb x0 x1 r0 r1 f0 f1
        go_wp2_with fail
        go_loopw [28] (fun i wr => ∃ k : Nat, k ≤ n ∧ i = .int .i64 k ∧ Hid (wr.ownsRow w1.heap.size 3 1 (.slice (some ⟨g, 0, none⟩) n cap) n (inC (shTo E p q k) n)) ∧ Below w1.heap.size w2 wr) (fun i _ => n - (RowKit.intOf i).toNat)
        case atStart => exact ⟨0, by omega, rfl, HO2.out, Below.refl _ _⟩
        case round =>
          obtain ⟨k, hk, rfl, HO, hB⟩ := hrel
          have zB := hB.size
          by_cases hlt : k < n
          · have c0 := HO.out.cellAt k (by omega)
            rw [show (inC (shTo E p q k) n)[k]? = some (.int .i64 (E k)) by rw [inC_at _ hlt]; simp [shTo]] at c0
            have fz := HO.out.frozenAt k
            have lg := ltb c0
            have eb := dyTo_at HE.out hlt
            obtain ⟨eb1, eb2⟩ := eb
            obtain ⟨P, hP⟩ : ∃ P, P = q * (k : Int) := ⟨_, rfl⟩
            have pb : -400000000 ≤ P ∧ P ≤ 400000000 := by rw [hP]; exact mulj_bd ⟨q1, q2⟩ (by omega)
            obtain ⟨pb1, pb2⟩ := pb
            have m1 : IntKind.i64.wrap (q * (k : Int)) = P := by rw [IntWalk.i64_in _ (by omega), hP]
            have m2 : wrap64 (q * (k : Int)) = P := by rw [IntWalk.wrap64_in _ (by omega), hP]
            have HO1 := Lib.hid ((HO.out.stored k (.int .i64 (E k + (p + P)))).1)
            have HSS := Lib.hid (show (inC (shTo E p q k) n).set k (.int .i64 (E k + (p + P))) = inC (shTo E p q (k + 1)) n by rw [hP]; exact sh_step E p q hlt)
            clear hP
            go_wp2_with fail
            go_roundw
            case rel => exact ⟨k + 1, by omega, by go_num, by rw [← HSS.out]; exact HO1.out, hB.setCell (p := ⟨g, k, none⟩) g3 _⟩
            case measure => simp [RowKit.intOf]; omega
          · obtain rfl : n = k := by omega
            obtain ⟨x0, r0, r1, f0, f1⟩ := HBX.out
            have x0 := (hB.cell (p := ⟨w.heap.size, 0, none⟩) (show w.heap.size < w1.heap.size by omega)).trans x0
            have r0 := (hB.cell (p := ⟨w.heap.size + 1, 0, none⟩) (show w.heap.size + 1 < w1.heap.size by omega)).trans r0
            have r1 := (hB.cell (p := ⟨w.heap.size + 1, 1, none⟩) (show w.heap.size + 1 < w1.heap.size by omega)).trans r1
            have f0 := (hB.frozen (p := ⟨w.heap.size + 1, 0, none⟩) (show w.heap.size + 1 < w1.heap.size by omega)).trans f0
            have f1 := (hB.frozen (p := ⟨w.heap.size + 1, 1, none⟩) (show w.heap.size + 1 < w1.heap.size by omega)).trans f1
            have lx := ltb x0
            have lrr := ltb r0
            have B3 : Bl w wr := Below.trans B2 (hB.mono (by omega))
            have HO := Lib.hid (show wr.ownsRow w1.heap.size 3 1 (.slice (some ⟨g, 0, none⟩) n cap) n (inC (shF E p q) n) by rw [← sh_all]; exact HO.out)
            have HSL := Lib.hid (sl_of_own' HO.out)
            go_wp2_with fail
            refine (limited6_any s (some ⟨g, 0, none⟩) n cap (shF E p q) _ HS.out HN.out HSL.out).mono ?_
            rintro q4 w4 ⟨rfl, hb⟩
            have x0 := kcb hb (b := w.heap.size) (o := 0) (v := .string s) (by first | assumption | (refine cellUp ?_; assumption) | go_cell)
            have r0 := kcb hb (b := w.heap.size + 1) (o := 0) (v := .string ⟨#[]⟩) (by first | assumption | (refine cellUp ?_; assumption) | go_cell)
            have r1 := kcb hb (b := w.heap.size + 1) (o := 1) (v := .slice none 0 0) (by first | assumption | (refine cellUp ?_; assumption) | go_cell)
            have f0 := fzb hb (b := w.heap.size + 1) (o := 0) (by (try simp only [frozen?_alloc_cells, World.frozen?_setCell, World.frozen?_drew]); first | assumption | exact fz_new (by (try simp only [World.size_alloc, World.size_setCell, World.size_drew]); omega)) (by (try simp only [World.size_alloc, World.size_setCell, World.size_drew]); omega)
            have f1 := fzb hb (b := w.heap.size + 1) (o := 1) (by (try simp only [frozen?_alloc_cells, World.frozen?_setCell, World.frozen?_drew]); first | assumption | exact fz_new (by (try simp only [World.size_alloc, World.size_setCell, World.size_drew]); omega)) (by (try simp only [World.size_alloc, World.size_setCell, World.size_drew]); omega)
            have B4 : Bl w w4 := B3.tr hb
            have l4 := ltb r0
            have z4 := B4.size
            have HSL4 := Lib.hid (HSL.out.below hb)
            clear hb
            by_cases hv2 : vbB s n (shF E p q) = true
            · have HW := Lib.hid hv2
              rw [show bxR s (some ⟨g, 0, none⟩) n cap (shF E p q) = .tuple #[encB s (some ⟨g, 0, none⟩) n cap, .int .i64 0] by rw [bxR, if_pos hv2]]
              clear hv2
              go_wp2_with fail
              (try simp only [Exit.inBlock, Exit.then])
              refine bodyPost_ret (v := .tuple #[encB s (some ⟨g, 0, none⟩) n cap, .int .i64 0]) (by simp [results, Try.results34, go_sem, r0, r1]) rfl ⟨Below.trans B4 (by go_grown), .inr (.inr (.inr ⟨HV.out, HOK.out, HW.out, _, _, rfl, g1, HG2.out, ?_⟩))⟩
              exact HSL4.out.set2 (b := w.heap.size + 1) (by omega)
            · have HW := Lib.hid (show vbB s n (shF E p q) = false by simpa using hv2)
              rw [show bxR s (some ⟨g, 0, none⟩) n cap (shF E p q) = .tuple #[bxZ, .int .i64 4] by rw [bxR, if_neg hv2]]
              unfold bxZ
              clear hv2
              go_wp2_with fail
              (try simp only [Exit.inBlock, Exit.then])
              refine bodyPost_ret (v := .tuple #[bxZ, .int .i64 4]) (by simp [results, Try.results34, go_sem, bxZ, r0, r1]) rfl ⟨Below.trans B4 (by go_grown), .inr (.inr (.inl ⟨HV.out, HOK.out, HW.out, rfl⟩))⟩
end Go.Proofs.Ytflajochohbokaa
