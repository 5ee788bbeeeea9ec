/-
  The walk of RateJoined.
-/
import Derived.Test.YtalofhbmkllifaaQB
import Derived.Deep.AppendLies
namespace Go.Proofs.Ytalofhbmkllifaa
open Go.RowKit
set_option linter.unusedSimpArgs false
set_option linter.unusedVariables false

theorem wpList_app_gd {P : Program} {w : World} {ops : Array Oper} {rest : List Oper} {o : Oper} {a : Act} {Q : Exit → Act → World → Prop} (hw : Region.wanted o (yielded ops a.tmps) = true) (s x : Operand) (t : TypeId)
    (ho : o.op = .call { callee := .builtin .append, args := #[s, x], argTypes := #[t, t] })
    (base : Nat) (e : TypeId) (i : TypeInfo) (z : Value) (size bytes : Nat) (ht : P.underlying t = some (.slice e)) (hi : P.info? e = some i) (hz : i.zero = some z)
    (hsize : i.size = size) (hby : i.bytes = bytes) (hzs : z.cells.size = size) (hsz : 0 < size)
    (v : Value) (n : Nat) (xs : List Value) (hs : a.eval s = v) (hown : w.ownsRow base e size v n xs)
    (ad : Addr) (m c : Nat) (news : List Value) (hx : a.eval x = .slice (some ad) m c) (hl : news.length = m * size) (hnews : ∀ j u, news[j]? = some u → w.cell? (ad.add j) = some u) (h1 : ∀ u ∈ news, u.oneCell' = true)
    (hm : 0 < m) (h63 : n + m ≤ maxLen) (hbytes : (n + m) * bytes ≤ 140737488355328) (hbase : base ≤ w.heap.size)
    (h : ∀ g cap w', w'.ownsRow base e size (.slice (some ⟨g, 0, none⟩) (n + m) cap) (n + m) (xs ++ news) → w.grownBy w' v.ownBlock → wpList P ops Q rest (a.put o.dst (.slice (some ⟨g, 0, none⟩) (n + m) cap)) w') : wpList P ops Q (o :: rest) a w :=
  BigFrame.wpList_want hw fun K hK => wp_append_lies w s x t ho base e i z size bytes ht hi hz hsize hby hzs hsz v n xs hs hown ad m c news hx hl hnews h1 hm h63 hbytes hbase _ rfl fun g cap w' h2 h3 _ _ => hK _ _ (h g cap w' h2 h3)
theorem dy_use6 {s : ByteArray} {n : Nat} {E : Nat → Int} {w : World} {e : Ending} {w' : World} (hv : vbB s n E = true) (h : DayPost s n E w e w') :
    Bl w w' ∧ ∃ A c, e = .returned (.tuple #[.slice A (n - 1) c, .int .i64 0]) ∧ n - 1 ≤ c ∧ c ≤ maxLen ∧ Sl w' A (n - 1) (rtF E 1) := by
  obtain ⟨hb, ⟨h1, _⟩ | ⟨_, A, c, he, k1, k2, h3⟩⟩ := h
  · rw [hv] at h1; cases h1
  · rw [Nat.div_one] at he k1 h3
    exact ⟨hb, A, c, he, k1, k2, h3⟩
/-- The rates of what is joined are those of both. -/
theorem jn_rates (n : Nat) (E F : Nat → Int) (h1 : 1 ≤ n) (k : Nat) : inC (rtF (jnF n E F) 1) (n - 1 + k) = inC (rtF E 1) (n - 1) ++ inC (rtF F 1) k := by
  induction k with
  | zero =>
    rw [Nat.add_zero, inC, List.append_nil]
    refine inC_congr fun j hj => ?_
    unfold rtF jnF
    rw [Nat.one_mul, Nat.one_mul, if_pos (by omega), if_pos (by omega)]
  | succ k ih =>
    have e : rtF (jnF n E F) 1 (n - 1 + k) = rtF F 1 k := by
      unfold rtF jnF
      rw [Nat.one_mul, Nat.one_mul, Nat.one_mul, Nat.one_mul, if_neg (by omega), show n - 1 + k + 1 + 1 - n = k + 1 by omega]
      by_cases hk : k = 0
      · subst hk; rw [if_pos (by omega)]; simp only [Nat.add_zero, Nat.zero_add]; omega
      · rw [if_neg (by omega), show n - 1 + k + 1 - n = k by omega]; omega
    rw [show n - 1 + (k + 1) = n - 1 + k + 1 by omega, inC, ih, e, inC, List.append_assoc]
theorem lit_nil6 (W : World) : (W.alloc (.cells #[] 3)).ownsRow W.heap.size 3 1 (.slice (some ⟨W.heap.size, 0, none⟩) 0 0) 0 [] := World.ownsRow_lit (base := W.heap.size) (size := 1) (e := 3) W #[] 0 (Nat.le_refl _) (by decide) rfl
set_option maxRecDepth 100000 in
set_option maxHeartbeats 12800000 in
theorem joined_walk (X Y : Bx) (w : World) (hX : BxOk w X) (hY : BxOk w Y) :
    Calls Try.prog 3 #[encB X.s X.A X.n X.c, encB Y.s Y.A Y.n Y.c] w fun e w' => e = .returned (.bool true) ∧ Bl w w' := by
  obtain ⟨s, A, n, c, E⟩ := X
  obtain ⟨t, B, m, d, F⟩ := Y
  have HX := Lib.hid hX
  have HY := Lib.hid hY
  obtain ⟨hs, hn, hc, hA⟩ := hX
  obtain ⟨ht, hm, hd, hB⟩ := hY
  dsimp only at hs hn hc hA ht hm hd hB
  have HA := Lib.hid hA
  have HS := Lib.hid hs
  have HC := Lib.hid hc
  have HNC := Lib.hid hn
  have HN := Lib.hid (show n ≤ maxLen by omega)
  have HBB := Lib.hid hB
  have HT := Lib.hid ht
  have HD := Lib.hid hd
  have HMD := Lib.hid hm
  have HM := Lib.hid (show m ≤ maxLen by omega)
  clear hA hs hB ht
  unfold maxLen at hc hd
  by_cases hf : ftF (fun j => if j = 0 then ⟨s, A, n, c, E⟩ else ⟨t, B, m, d, F⟩) 2 = true
  rotate_left
  · have HF := Lib.hid (show ftF (fun j => if j = 0 then (⟨s, A, n, c, E⟩ : Bx) else ⟨t, B, m, d, F⟩) 2 = false by simpa using hf)
    clear hf
    go_enter Try.func3, Try.ntmps3
    go_wp2_with fail
    refine (fit_any _ 2 2 (fun j => if j = 0 then ⟨s, A, n, c, E⟩ else ⟨t, B, m, d, F⟩) _ (bxl_two (x := ⟨s, A, n, c, E⟩) (y := ⟨t, B, m, d, F⟩) (by go_cell) (by go_cell) (by go_cell) (by go_cell)) (fun j _ => by split; exact HX.out.below (by go_grown); exact HY.out.below (by go_grown)) (by decide)).mono ?_
    rintro q1 w1 ⟨rfl, hb⟩
    have x0 := kcb hb (b := w.heap.size) (o := 0) (v := .string s) (by first | assumption | (refine cellUp ?_; assumption) | go_cell)
    have x1 := kcb hb (b := w.heap.size) (o := 1) (v := .slice A n c) (by first | assumption | (refine cellUp ?_; assumption) | go_cell)
    have y0 := kcb hb (b := w.heap.size + 1) (o := 0) (v := .string t) (by first | assumption | (refine cellUp ?_; assumption) | go_cell)
    have y1 := kcb hb (b := w.heap.size + 1) (o := 1) (v := .slice B m d) (by first | assumption | (refine cellUp ?_; assumption) | go_cell)
    have B1 : Bl w w1 := Below.trans (by go_grown) (hb.mono (by (try simp only [World.size_alloc, World.size_setCell, World.size_drew]); omega))
    have l1 := ltb y1
    have l1_1 := ltb x1
    have zz1 := B1.size
    clear hb
    rw [HF.out]
    go_wp2_with fail
    refine (awakeR_any _).mono ?_
    rintro e w2 ⟨rfl, hb⟩
    go_wp2_with fail
    go_ret
    exact ⟨rfl, Below.trans B1 (Below.trans (by go_grown) (hb.mono (by (try simp only [World.size_alloc, World.size_setCell, World.size_drew]); omega)))⟩
  · have HF := Lib.hid hf
    clear hf
    go_enter Try.func3, Try.ntmps3
    go_wp2_with fail
    refine (fit_any _ 2 2 (fun j => if j = 0 then ⟨s, A, n, c, E⟩ else ⟨t, B, m, d, F⟩) _ (bxl_two (x := ⟨s, A, n, c, E⟩) (y := ⟨t, B, m, d, F⟩) (by go_cell) (by go_cell) (by go_cell) (by go_cell)) (fun j _ => by split; exact HX.out.below (by go_grown); exact HY.out.below (by go_grown)) (by decide)).mono ?_
    rintro q1 w1 ⟨rfl, hb⟩
    have x0 := kcb hb (b := w.heap.size) (o := 0) (v := .string s) (by first | assumption | (refine cellUp ?_; assumption) | go_cell)
    have x1 := kcb hb (b := w.heap.size) (o := 1) (v := .slice A n c) (by first | assumption | (refine cellUp ?_; assumption) | go_cell)
    have y0 := kcb hb (b := w.heap.size + 1) (o := 0) (v := .string t) (by first | assumption | (refine cellUp ?_; assumption) | go_cell)
    have y1 := kcb hb (b := w.heap.size + 1) (o := 1) (v := .slice B m d) (by first | assumption | (refine cellUp ?_; assumption) | go_cell)
    have B1 : Bl w w1 := Below.trans (by go_grown) (hb.mono (by (try simp only [World.size_alloc, World.size_setCell, World.size_drew]); omega))
    have l1 := ltb y1
    have l1_1 := ltb x1
    have zz1 := B1.size
    clear hb
    rw [HF.out]
    go_wp2_with fail
    refine (joined_any s A n c E t B m d F _ HS.out (HA.out.below B1) HNC.out HC.out HT.out (HBB.out.below B1) HMD.out HD.out).mono ?_
    rintro q2 w2 ⟨hb, hS⟩
    have x0 := kcb hb (b := w.heap.size) (o := 0) (v := .string s) (by first | assumption | (refine cellUp ?_; assumption) | go_cell)
    have x1 := kcb hb (b := w.heap.size) (o := 1) (v := .slice A n c) (by first | assumption | (refine cellUp ?_; assumption) | go_cell)
    have y0 := kcb hb (b := w.heap.size + 1) (o := 0) (v := .string t) (by first | assumption | (refine cellUp ?_; assumption) | go_cell)
    have y1 := kcb hb (b := w.heap.size + 1) (o := 1) (v := .slice B m d) (by first | assumption | (refine cellUp ?_; assumption) | go_cell)
    have B2 := B1.tr hb
    have l2 := ltb x0
    have l2y := ltb y0
    have zz2 := B2.size
    clear hb
    rcases hS with ⟨hv, he⟩ | ⟨hv, hw, he⟩ | ⟨hv, hw, A2, c2, he, k2, k2', hA2⟩
    · skip
      subst he
      unfold bxZ
      go_wp2_with fail
      refine (rjoined_any s A n c E t B m d F _ HS.out (HA.out.below (Bl.tr B2 (by go_grown))) HNC.out HC.out HT.out (HBB.out.below (Bl.tr B2 (by go_grown))) HMD.out HD.out).mono ?_
      rintro q3 w3 ⟨hb, hS⟩
      have he : q3 = .returned (.tuple #[bxZ, .int .i64 1]) := by
        rcases hS with ⟨hv', he⟩ | ⟨hv', hw', he⟩ | ⟨hv', hw', _, _, he, _⟩
        all_goals first | exact he | (exfalso; simp_all)
      subst he
      unfold bxZ
      clear hS
      have x0 := kcb hb (b := w.heap.size) (o := 0) (v := .string s) (by first | assumption | (refine cellUp ?_; assumption) | go_cell)
      have x1 := kcb hb (b := w.heap.size) (o := 1) (v := .slice A n c) (by first | assumption | (refine cellUp ?_; assumption) | go_cell)
      have y0 := kcb hb (b := w.heap.size + 1) (o := 0) (v := .string t) (by first | assumption | (refine cellUp ?_; assumption) | go_cell)
      have y1 := kcb hb (b := w.heap.size + 1) (o := 1) (v := .slice B m d) (by first | assumption | (refine cellUp ?_; assumption) | go_cell)
      have z0 := kcb hb (b := w2.heap.size) (o := 0) (v := .string ⟨#[]⟩) (by first | assumption | (refine cellUp ?_; assumption) | go_cell)
      have z1 := kcb hb (b := w2.heap.size) (o := 1) (v := .slice none 0 0) (by first | assumption | (refine cellUp ?_; assumption) | go_cell)
      have B3 : Bl w w3 := Below.trans B2 (Below.trans (by go_grown) (hb.mono (by (try simp only [World.size_alloc, World.size_setCell, World.size_drew]); omega)))
      have l3 := ltb x0
      have l3y := ltb y0
      have l3' := ltb z0
      have zz3 := B3.size
      clear hb
      go_wp2_with fail
      refine (sameBox_any ⟨#[]⟩ none 0 0 none 0 (fun _ => 0) _ (by decide) (fun h => absurd h (by omega)) (fun h => absurd h (by omega))).mono ?_
      rintro q4 w4 ⟨rfl, hb⟩
      have x0 := kcb hb (b := w.heap.size) (o := 0) (v := .string s) (by first | assumption | (refine cellUp ?_; assumption) | go_cell)
      have x1 := kcb hb (b := w.heap.size) (o := 1) (v := .slice A n c) (by first | assumption | (refine cellUp ?_; assumption) | go_cell)
      have y0 := kcb hb (b := w.heap.size + 1) (o := 0) (v := .string t) (by first | assumption | (refine cellUp ?_; assumption) | go_cell)
      have y1 := kcb hb (b := w.heap.size + 1) (o := 1) (v := .slice B m d) (by first | assumption | (refine cellUp ?_; assumption) | go_cell)
      have z0 := kcb hb (b := w2.heap.size) (o := 0) (v := .string ⟨#[]⟩) (by first | assumption | (refine cellUp ?_; assumption) | go_cell)
      have z1 := kcb hb (b := w2.heap.size) (o := 1) (v := .slice none 0 0) (by first | assumption | (refine cellUp ?_; assumption) | go_cell)
      have u0 := kcb hb (b := w3.heap.size) (o := 0) (v := .string ⟨#[]⟩) (by first | assumption | (refine cellUp ?_; assumption) | go_cell)
      have u1 := kcb hb (b := w3.heap.size) (o := 1) (v := .slice none 0 0) (by first | assumption | (refine cellUp ?_; assumption) | go_cell)
      have B4 : Bl w w4 := Below.trans (by go_grown) (hb.mono (by (try simp only [World.size_alloc, World.size_setCell, World.size_drew]); omega))
      have l4 := ltb u1
      have l4_1 := ltb z1
      have l4_2 := ltb y1
      have l4_3 := ltb x1
      have zz4 := B4.size
      clear hb
      go_wp2_with fail
      refine (awakeR_any _).mono ?_
      rintro e w5 ⟨rfl, hb⟩
      go_wp2_with fail
      go_ret
      exact ⟨rfl, Below.trans B4 (Below.trans (by go_grown) (hb.mono (by (try simp only [World.size_alloc, World.size_setCell, World.size_drew]); omega)))⟩
    · skip
      subst he
      unfold bxZ
      go_wp2_with fail
      refine (rjoined_any s A n c E t B m d F _ HS.out (HA.out.below (Bl.tr B2 (by go_grown))) HNC.out HC.out HT.out (HBB.out.below (Bl.tr B2 (by go_grown))) HMD.out HD.out).mono ?_
      rintro q3 w3 ⟨hb, hS⟩
      have he : q3 = .returned (.tuple #[bxZ, .int .i64 4]) := by
        rcases hS with ⟨hv', he⟩ | ⟨hv', hw', he⟩ | ⟨hv', hw', _, _, he, _⟩
        all_goals first | exact he | (exfalso; simp_all)
      subst he
      unfold bxZ
      clear hS
      have x0 := kcb hb (b := w.heap.size) (o := 0) (v := .string s) (by first | assumption | (refine cellUp ?_; assumption) | go_cell)
      have x1 := kcb hb (b := w.heap.size) (o := 1) (v := .slice A n c) (by first | assumption | (refine cellUp ?_; assumption) | go_cell)
      have y0 := kcb hb (b := w.heap.size + 1) (o := 0) (v := .string t) (by first | assumption | (refine cellUp ?_; assumption) | go_cell)
      have y1 := kcb hb (b := w.heap.size + 1) (o := 1) (v := .slice B m d) (by first | assumption | (refine cellUp ?_; assumption) | go_cell)
      have z0 := kcb hb (b := w2.heap.size) (o := 0) (v := .string ⟨#[]⟩) (by first | assumption | (refine cellUp ?_; assumption) | go_cell)
      have z1 := kcb hb (b := w2.heap.size) (o := 1) (v := .slice none 0 0) (by first | assumption | (refine cellUp ?_; assumption) | go_cell)
      have B3 : Bl w w3 := Below.trans B2 (Below.trans (by go_grown) (hb.mono (by (try simp only [World.size_alloc, World.size_setCell, World.size_drew]); omega)))
      have l3 := ltb x0
      have l3y := ltb y0
      have l3' := ltb z0
      have zz3 := B3.size
      clear hb
      go_wp2_with fail
      refine (sameBox_any ⟨#[]⟩ none 0 0 none 0 (fun _ => 0) _ (by decide) (fun h => absurd h (by omega)) (fun h => absurd h (by omega))).mono ?_
      rintro q4 w4 ⟨rfl, hb⟩
      have x0 := kcb hb (b := w.heap.size) (o := 0) (v := .string s) (by first | assumption | (refine cellUp ?_; assumption) | go_cell)
      have x1 := kcb hb (b := w.heap.size) (o := 1) (v := .slice A n c) (by first | assumption | (refine cellUp ?_; assumption) | go_cell)
      have y0 := kcb hb (b := w.heap.size + 1) (o := 0) (v := .string t) (by first | assumption | (refine cellUp ?_; assumption) | go_cell)
      have y1 := kcb hb (b := w.heap.size + 1) (o := 1) (v := .slice B m d) (by first | assumption | (refine cellUp ?_; assumption) | go_cell)
      have z0 := kcb hb (b := w2.heap.size) (o := 0) (v := .string ⟨#[]⟩) (by first | assumption | (refine cellUp ?_; assumption) | go_cell)
      have z1 := kcb hb (b := w2.heap.size) (o := 1) (v := .slice none 0 0) (by first | assumption | (refine cellUp ?_; assumption) | go_cell)
      have u0 := kcb hb (b := w3.heap.size) (o := 0) (v := .string ⟨#[]⟩) (by first | assumption | (refine cellUp ?_; assumption) | go_cell)
      have u1 := kcb hb (b := w3.heap.size) (o := 1) (v := .slice none 0 0) (by first | assumption | (refine cellUp ?_; assumption) | go_cell)
      have B4 : Bl w w4 := Below.trans (by go_grown) (hb.mono (by (try simp only [World.size_alloc, World.size_setCell, World.size_drew]); omega))
      have l4 := ltb u1
      have l4_1 := ltb z1
      have l4_2 := ltb y1
      have l4_3 := ltb x1
      have zz4 := B4.size
      clear hb
      go_wp2_with fail
      refine (awakeR_any _).mono ?_
      rintro e w5 ⟨rfl, hb⟩
      go_wp2_with fail
      go_ret
      exact ⟨rfl, Below.trans B4 (Below.trans (by go_grown) (hb.mono (by (try simp only [World.size_alloc, World.size_setCell, World.size_drew]); omega)))⟩
    · skip
      subst he
      obtain ⟨N, hNN⟩ : ∃ N, N = n + (m - 1) := ⟨_, rfl⟩
      have HNE := Lib.hid hNN
      rw [← hNN] at hw k2 hA2
      have HA2 := Lib.hid hA2
      have K2 := Lib.hid k2
      have K2' := Lib.hid k2'
      have HVE := Lib.hid hv.1
      have HVF := Lib.hid hv.2
      have HW := Lib.hid hw
      obtain ⟨_, n2, n4, hE⟩ := vbB_iff.1 hv.1
      obtain ⟨_, m2, m4, hF⟩ := vbB_iff.1 hv.2
      obtain ⟨_, N2, N4, hG⟩ := vbB_iff.1 hw
      rw [← hNN]
      clear hA2 k2' hE hF hG k2 hNN hv hw
      go_wp2_with fail
      refine (rjoined_any s A n c E t B m d F _ HS.out (HA.out.below (Bl.tr B2 (by go_grown))) HNC.out HC.out HT.out (HBB.out.below (Bl.tr B2 (by go_grown))) HMD.out HD.out).mono ?_
      rintro q3 w3 ⟨hb, hS⟩
      rw [← HNE.out] at hS
      have hv := HVE.out
      have hv2 := HVF.out
      have hw := HW.out
      rcases hS with ⟨hv', he⟩ | ⟨hv', hw', he⟩ | ⟨hv', hw', A3, c3, he, k3, k3', hA3⟩
      · exfalso; simp_all
      · exfalso; simp_all
      subst he
      clear hv hv2 hw hv' hw'
      have HA3 := Lib.hid hA3
      have K3 := Lib.hid (And.intro k3 k3')
      clear hA3 k3 k3'
      have HA2 := Lib.hid (HA2.out.below (Below.trans (show Bl w2 (w2.alloc (.cells #[.string s, .slice A2 N c2] 24)) by go_grown) (hb.mono (by simp))))
      have x0 := kcb hb (b := w.heap.size) (o := 0) (v := .string s) (by first | assumption | (refine cellUp ?_; assumption) | go_cell)
      have x1 := kcb hb (b := w.heap.size) (o := 1) (v := .slice A n c) (by first | assumption | (refine cellUp ?_; assumption) | go_cell)
      have y0 := kcb hb (b := w.heap.size + 1) (o := 0) (v := .string t) (by first | assumption | (refine cellUp ?_; assumption) | go_cell)
      have y1 := kcb hb (b := w.heap.size + 1) (o := 1) (v := .slice B m d) (by first | assumption | (refine cellUp ?_; assumption) | go_cell)
      have z0 := kcb hb (b := w2.heap.size) (o := 0) (v := .string s) (by first | assumption | (refine cellUp ?_; assumption) | go_cell)
      have z1 := kcb hb (b := w2.heap.size) (o := 1) (v := .slice A2 N c2) (by first | assumption | (refine cellUp ?_; assumption) | go_cell)
      have B3 : Bl w w3 := Below.trans B2 (Below.trans (by go_grown) (hb.mono (by (try simp only [World.size_alloc, World.size_setCell, World.size_drew]); omega)))
      have l3 := ltb x0
      have l3y := ltb y0
      have l3' := ltb z0
      have zz3 := B3.size
      clear hb
      go_wp2_with fail
      refine (sameBox_any s A2 N c2 A3 c3 (jnF n E F) _ (by unfold maxLen; omega) (HA2.out.below (by go_grown)) (HA3.out.below (by go_grown))).mono ?_
      rintro q4 w4 ⟨rfl, hb⟩
      have x0 := kcb hb (b := w.heap.size) (o := 0) (v := .string s) (by first | assumption | (refine cellUp ?_; assumption) | go_cell)
      have x1 := kcb hb (b := w.heap.size) (o := 1) (v := .slice A n c) (by first | assumption | (refine cellUp ?_; assumption) | go_cell)
      have y0 := kcb hb (b := w.heap.size + 1) (o := 0) (v := .string t) (by first | assumption | (refine cellUp ?_; assumption) | go_cell)
      have y1 := kcb hb (b := w.heap.size + 1) (o := 1) (v := .slice B m d) (by first | assumption | (refine cellUp ?_; assumption) | go_cell)
      have z0 := kcb hb (b := w2.heap.size) (o := 0) (v := .string s) (by first | assumption | (refine cellUp ?_; assumption) | go_cell)
      have z1 := kcb hb (b := w2.heap.size) (o := 1) (v := .slice A2 N c2) (by first | assumption | (refine cellUp ?_; assumption) | go_cell)
      have u0 := kcb hb (b := w3.heap.size) (o := 0) (v := .string s) (by first | assumption | (refine cellUp ?_; assumption) | go_cell)
      have u1 := kcb hb (b := w3.heap.size) (o := 1) (v := .slice A3 N c3) (by first | assumption | (refine cellUp ?_; assumption) | go_cell)
      have B4 : Bl w w4 := Below.trans (by go_grown) (hb.mono (by (try simp only [World.size_alloc, World.size_setCell, World.size_drew]); omega))
      have l4 := ltb u1
      have l4_1 := ltb z1
      have l4_2 := ltb y1
      have l4_3 := ltb x1
      have zz4 := B4.size
      have HA2 := Lib.hid (HA2.out.below (Below.trans (show Bl w3 (w3.alloc (.cells #[.string s, .slice A3 N c3] 24)) by go_grown) (hb.mono (by simp))))
      clear hb
      go_wp2_with fail
      refine (daily_any s A n c E _ HS.out (HA.out.below B4) HNC.out HC.out).mono ?_
      rintro q5 w5 hd5
      obtain ⟨hb, La, Ca, rfl, kla, kqa, hsa⟩ := dy_use6 HVE.out hd5
      clear hd5
      have x0 := kcb hb (b := w.heap.size) (o := 0) (v := .string s) (by first | assumption | (refine cellUp ?_; assumption) | go_cell)
      have x1 := kcb hb (b := w.heap.size) (o := 1) (v := .slice A n c) (by first | assumption | (refine cellUp ?_; assumption) | go_cell)
      have y0 := kcb hb (b := w.heap.size + 1) (o := 0) (v := .string t) (by first | assumption | (refine cellUp ?_; assumption) | go_cell)
      have y1 := kcb hb (b := w.heap.size + 1) (o := 1) (v := .slice B m d) (by first | assumption | (refine cellUp ?_; assumption) | go_cell)
      have z0 := kcb hb (b := w2.heap.size) (o := 0) (v := .string s) (by first | assumption | (refine cellUp ?_; assumption) | go_cell)
      have z1 := kcb hb (b := w2.heap.size) (o := 1) (v := .slice A2 N c2) (by first | assumption | (refine cellUp ?_; assumption) | go_cell)
      have u0 := kcb hb (b := w3.heap.size) (o := 0) (v := .string s) (by first | assumption | (refine cellUp ?_; assumption) | go_cell)
      have u1 := kcb hb (b := w3.heap.size) (o := 1) (v := .slice A3 N c3) (by first | assumption | (refine cellUp ?_; assumption) | go_cell)
      have B5 : Bl w w5 := Bl.tr B4 hb
      have l5 := ltb x0
      have l5y := ltb y0
      have l5z := ltb z0
      have zz5 := B5.size
      have HA2 := Lib.hid (HA2.out.below hb)
      have HLa := Lib.hid hsa
      have KLa := Lib.hid (And.intro kla kqa)
      clear hb hsa kla kqa
      go_wp2_with fail
      refine (daily_any t B m d F _ HT.out (HBB.out.below B5) HMD.out HD.out).mono ?_
      rintro q6 w6 hd6
      obtain ⟨hb, Lb, Cb, rfl, klb, kqb, hsb⟩ := dy_use6 HVF.out hd6
      clear hd6
      have x0 := kcb hb (b := w.heap.size) (o := 0) (v := .string s) (by first | assumption | (refine cellUp ?_; assumption) | go_cell)
      have x1 := kcb hb (b := w.heap.size) (o := 1) (v := .slice A n c) (by first | assumption | (refine cellUp ?_; assumption) | go_cell)
      have y0 := kcb hb (b := w.heap.size + 1) (o := 0) (v := .string t) (by first | assumption | (refine cellUp ?_; assumption) | go_cell)
      have y1 := kcb hb (b := w.heap.size + 1) (o := 1) (v := .slice B m d) (by first | assumption | (refine cellUp ?_; assumption) | go_cell)
      have z0 := kcb hb (b := w2.heap.size) (o := 0) (v := .string s) (by first | assumption | (refine cellUp ?_; assumption) | go_cell)
      have z1 := kcb hb (b := w2.heap.size) (o := 1) (v := .slice A2 N c2) (by first | assumption | (refine cellUp ?_; assumption) | go_cell)
      have u0 := kcb hb (b := w3.heap.size) (o := 0) (v := .string s) (by first | assumption | (refine cellUp ?_; assumption) | go_cell)
      have u1 := kcb hb (b := w3.heap.size) (o := 1) (v := .slice A3 N c3) (by first | assumption | (refine cellUp ?_; assumption) | go_cell)
      have B6 : Bl w w6 := Bl.tr B5 hb
      have l6 := ltb x0
      have l6y := ltb y0
      have l6z := ltb z0
      have zz6 := B6.size
      have HA2 := Lib.hid (HA2.out.below hb)
      have HLa := Lib.hid (HLa.out.below hb)
      have HLb := Lib.hid hsb
      have KLb := Lib.hid (And.intro klb kqb)
      clear hb hsb klb kqb
      go_wp2_with fail
      refine (daily_any s A2 N c2 (jnF n E F) _ HS.out HA2.out K2.out K2'.out).mono ?_
      rintro q7 w7 hd7
      obtain ⟨hb, Lc, Cc, rfl, klc, kqc, hsc⟩ := dy_use6 HW.out hd7
      clear hd7
      have x0 := kcb hb (b := w.heap.size) (o := 0) (v := .string s) (by first | assumption | (refine cellUp ?_; assumption) | go_cell)
      have x1 := kcb hb (b := w.heap.size) (o := 1) (v := .slice A n c) (by first | assumption | (refine cellUp ?_; assumption) | go_cell)
      have y0 := kcb hb (b := w.heap.size + 1) (o := 0) (v := .string t) (by first | assumption | (refine cellUp ?_; assumption) | go_cell)
      have y1 := kcb hb (b := w.heap.size + 1) (o := 1) (v := .slice B m d) (by first | assumption | (refine cellUp ?_; assumption) | go_cell)
      have z0 := kcb hb (b := w2.heap.size) (o := 0) (v := .string s) (by first | assumption | (refine cellUp ?_; assumption) | go_cell)
      have z1 := kcb hb (b := w2.heap.size) (o := 1) (v := .slice A2 N c2) (by first | assumption | (refine cellUp ?_; assumption) | go_cell)
      have u0 := kcb hb (b := w3.heap.size) (o := 0) (v := .string s) (by first | assumption | (refine cellUp ?_; assumption) | go_cell)
      have u1 := kcb hb (b := w3.heap.size) (o := 1) (v := .slice A3 N c3) (by first | assumption | (refine cellUp ?_; assumption) | go_cell)
      have B7 : Bl w w7 := Bl.tr B6 hb
      have l7 := ltb x0
      have l7y := ltb y0
      have l7z := ltb z0
      have zz7 := B7.size
      have HLa := Lib.hid (HLa.out.below hb)
      have HLb := Lib.hid (HLb.out.below hb)
      have HLc := Lib.hid hsc
      have KLc := Lib.hid (And.intro klc kqc)
      clear hb hsc klc kqc
      obtain ⟨ba, offa, rfl, -, -⟩ := HLa.out (by omega)
      obtain ⟨bb, offb, rfl, -, -⟩ := HLb.out (by omega)
      obtain ⟨i0, hi0, hz0, hz1, hz2⟩ := info_parts6 int_info
      have HI := Lib.hid (And.intro hi0 (And.intro hz0 (And.intro hz1 hz2)))
      clear hi0 hz0 hz1 hz2
      have HO0 := Lib.hid (lit_nil6 w7)
      go_wp2_with (first | (refine wpList_app_gd (by rfl) _ _ _ rfl w7.heap.size 3 i0 _ 1 8 Try.underlying22 HI.out.1 HI.out.2.1 HI.out.2.2.1 HI.out.2.2.2 rfl (by decide) _ 0 [] rfl HO0.out ⟨ba, offa, none⟩ (n - 1) Ca (inC (rtF E 1) (n - 1)) rfl (by rw [inC_len, Nat.mul_one]) (in_news (HLa.out.below (by go_grown))) (inC_one _ _) (by omega) (by unfold maxLen; omega) (by omega) (by (try simp only [World.size_alloc]); omega) ?_; intro g1 cp1 w8 hown1 hgrow1; have HO8 := Lib.hid (show w8.ownsRow w7.heap.size 3 1 (.slice (some ⟨g1, 0, none⟩) (n - 1) cp1) (n - 1) (inC (rtF E 1) (n - 1)) from by (have h := hown1; simp only [Nat.zero_add, List.nil_append] at h; exact h)); have B8 := Lib.hid (show Bl w7 w8 from Below.grown (by go_grown) hgrow1 (by (try simp only [World.size_alloc]); omega) (fun j hj => by have hj : w7.heap.size = j := Option.some.inj hj; omega)); have z8 := B8.out.size; (try simp only [Nat.zero_add]); clear hown1 hgrow1) | (refine wpList_app_gd (by rfl) _ _ _ rfl w7.heap.size 3 i0 _ 1 8 Try.underlying22 HI.out.1 HI.out.2.1 HI.out.2.2.1 HI.out.2.2.2 rfl (by decide) _ _ _ rfl HO8.out ⟨bb, offb, none⟩ (m - 1) Cb (inC (rtF F 1) (m - 1)) rfl (by rw [inC_len, Nat.mul_one]) (in_news (HLb.out.below B8.out)) (inC_one _ _) (by omega) (by unfold maxLen; omega) (by omega) (by omega) ?_; intro g2 cp2 w9 hown2 hgrow2; have HO9 := Lib.hid hown2; have B9 := Lib.hid (show Bl w7 w9 from Below.grown B8.out hgrow2 (by omega) (fun j hj => (HO8.out.lt j hj).1)); clear hown2 hgrow2))
      obtain ⟨A9, C9, e9, -, hc9, hs9⟩ := sl_of_own (f := rtF (jnF n E F) 1) (by rw [jn_rates n E F (by omega) (m - 1)]; exact HO9.out)
      injection e9 with e91 _ e92
      subst e91 e92
      have HS9 := Lib.hid hs9
      have HNN := Lib.hid (show n - 1 + (m - 1) = N - 1 from by have := HNE.out; omega)
      have HSI := Lib.hid (show sIB (N - 1) (rtF (jnF n E F) 1) (n - 1 + (m - 1)) (rtF (jnF n E F) 1) = true from by rw [HNN.out]; exact sIB_same _ _)
      clear hs9
      refine (sameInts_any Lc (N - 1) Cc (rtF (jnF n E F) 1) _ (n - 1 + (m - 1)) cp2 (rtF (jnF n E F) 1) _ (by unfold maxLen; omega) (by unfold maxLen; omega) (HLc.out.below B9.out) HS9.out).mono ?_
      rintro e10 w10 ⟨rfl, N10, rfl⟩
      rw [HSI.out]
      have B10 := Lib.hid (Bl.tr (Bl.tr B7 B9.out) (Bl.dn6 w9 N10))
      go_wp2_with fail
      refine (awakeR_any _).mono ?_
      rintro e11 w11 ⟨rfl, hb11⟩
      go_wp2_with fail
      go_ret
      exact ⟨rfl, Bl.tr B10.out hb11⟩
end Go.Proofs.Ytalofhbmkllifaa
