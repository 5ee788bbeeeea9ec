/-
  Contracts of package ledger: Merged; slices.Concat and slices.Grow at entries.
-/
import Derived.Test.YtiaamhlcdnlahaaLL
import Derived.Test.YtiaamhlcdnlahaaLC
namespace Go.Proofs.Ytiaamhlcdnlahaa
open Go.RowKit Go.Maps
set_option linter.unusedSimpArgs false
set_option linter.unusedVariables false

theorem wpList_append_madeE {w : World} {ops : Array Oper} {rest : List Oper} {o : Oper} {a : Act} {Q : Exit → Act → World → Prop} (hgd : o.guard = none) (s x : Operand)
    (ho : o.op = .call { callee := .builtin .append, args := #[s, x], argTypes := #[22, 3] })
    (n : Nat) (hs : a.eval s = .slice none 0 0) (hx : a.eval x = .int .i64 (n : Int)) (h0 : 0 < n) (hn : n ≤ 3000) (base : Nat) (hbase : base ≤ w.heap.size) (g : Nat) (hg : w.heap.size = g)
    (h : ∀ cap w', w'.ownsRow base 46 3 (.slice (some ⟨g, 0, none⟩) 0 cap) 0 [] → Bl w w' → wpList Try.prog ops Q rest (a.put o.dst (.slice (some ⟨g, 0, none⟩) n cap)) w') : wpList Try.prog ops Q (o :: rest) a w := by
  obtain ⟨i0, hi0, hz0, hz1, hz2⟩ := info_parts6N en_info
  obtain ⟨cap, w', hr, h1, h2⟩ := run_append_made w 22 3 o.type 46 i0 _ Try.underlying22 Try.underlying3 hi0 hz0 (by rw [hz1]; rfl) (by rw [hz1]; decide) n h0 hn (by rw [hz2]; decide) base hbase
  rw [hz1] at h1
  subst hg
  refine wpList_plain hgd fun _ hK => ?_
  unfold Oper.wp execOp
  simp only [ho, resolve, invoke, builtin, Sem.run_bind, Sem.run_pure, Result.andThen_ok, List.map_toArray, List.map_cons, List.map_nil, hs, hx, hr]
  exact hK _ _ (h cap w' h1 h2)
set_option maxRecDepth 100000 in
set_option maxHeartbeats 1600000 in
theorem grow_any (k : Nat) (w : World) (hk : k ≤ 3000) :
    Calls Try.prog 93 #[.slice none 0 0, .int .i64 (k : Int)] w fun e w' => (∃ v, e = .returned v ∧ w'.ownsRow w.heap.size 46 3 v 0 []) ∧ Bl w w' := by
  by_cases h0 : k = 0
  · subst h0
    go_enter Try.func93, Try.ntmps93
    go_wp2_with fail
    go_ret
    exact ⟨⟨_, rfl, World.ownsRow_nil _ _ _ _⟩, Bl.rf _⟩
  · have k0 : 0 < k := by omega
    have k1 : IntKind.i64.wrap (k : Int) = (k : Int) := IntWalk.i64_in _ (by omega)
    have k2 : wrap64 (k : Int) = (k : Int) := IntWalk.wrap64_in _ (by omega)
    have k3 : ¬ ((k : Int) < 0) := by omega
    go_enter Try.func93, Try.ntmps93
    go_wp2_with (at_builtin; refine wpList_append_madeE rfl _ _ rfl k rfl rfl k0 hk w.heap.size (Nat.le_refl _) w.heap.size rfl ?_; intro cap w9 hown hb9)
    go_ret
    exact ⟨⟨_, rfl, hown⟩, hb9⟩
theorem cat_zero {L M : Nat → En} (j : Nat) : catE 0 L M j = M j := by unfold catE; rw [if_neg (by omega), Nat.sub_zero]
set_option maxRecDepth 100000 in
set_option maxHeartbeats 3200000 in
theorem concat_any (b0 : Nat) (A : Option Addr) (n c : Nat) (L : Nat → En) (B : Option Addr) (m d : Nat) (M : Nat → En) (w : World) (h0 : w.cell? ⟨b0, 0, none⟩ = some (.slice A n c)) (h1 : w.cell? ⟨b0, 1, none⟩ = some (.slice B m d)) (hA : El w A n L) (hB : El w B m M) (hn : n ≤ 1000) (hm : m ≤ 1000) :
    Calls Try.prog 85 #[.slice (some ⟨b0, 0, none⟩) 2 2] w fun e w' => (∃ v, e = .returned v ∧ w'.ownsRow w.heap.size 46 3 v (n + m) (eC (catE n L M) (n + m))) ∧ Bl w w' := by
  have l0 := ltb h0
  have HA := Lib.hid hA
  have HB := Lib.hid hB
  have H0 := Lib.hid h0
  have H1 := Lib.hid h1
  clear hA hB
  have s1 : wrap64 ((n : Int) + (m : Int)) = ((n + m : Nat) : Int) := by rw [IntWalk.wrap64_in _ (by omega)]; simp
  have s2 : IntKind.i64.wrap ((n : Int) + (m : Int)) = ((n + m : Nat) : Int) := by rw [IntWalk.i64_in _ (by omega)]; simp
  have s3 : wrap64 (n : Int) = (n : Int) := IntWalk.wrap64_in _ (by omega)
  have s4 : IntKind.i64.wrap (n : Int) = (n : Int) := IntWalk.i64_in _ (by omega)
  go_enter Try.func85, Try.ntmps85
  go_wp2_with fail
  go_loopw [3, 11] (fun s i wr => ∃ q t : Nat, q ≤ 2 ∧ i = .int .i64 q ∧ s = .int .i64 t ∧ (q = 0 ∧ t = 0 ∨ q = 1 ∧ t = n ∨ q = 2 ∧ t = n + m) ∧ wr = w) (fun _ i _ => 2 - (RowKit.intOf i).toNat)
  case atStart => exact ⟨0, 0, by omega, rfl, rfl, .inl ⟨rfl, rfl⟩, rfl⟩
  case round =>
    obtain ⟨q, t, hq, rfl, rfl, hqt, rfl⟩ := hrel
    rcases hqt with ⟨rfl, rfl⟩ | ⟨rfl, rfl⟩ | ⟨rfl, rfl⟩
    · go_wp2_with fail
      go_roundw
      case rel => exact ⟨1, n, by omega, by go_num, by go_num, .inr (.inl ⟨rfl, rfl⟩), trivial⟩
      case measure => simp [RowKit.intOf]
    · go_wp2_with fail
      go_roundw
      case rel => exact ⟨2, t + m, by omega, by go_num, by go_num, .inr (.inr ⟨rfl, rfl⟩), trivial⟩
      case measure => simp [RowKit.intOf]
    · clear s1 s2 s3 s4
      obtain ⟨Wo, hWo⟩ : ∃ Wo, Wo = wr := ⟨_, rfl⟩
      subst hWo
      go_wp2_with fail
      refine (grow_any (n + m) _ (by omega)).mono ?_
      rintro e1 w1 ⟨⟨v0, rfl, hown⟩, hb⟩
      have HO := Lib.hid hown
      have HB1 := Lib.hid hb
      clear hown hb
      go_wp2_with fail
      go_loopw [6, 27] (fun v i wz => ∃ (q t : Nat) (sv : Value) (T : Nat → En), sv = v ∧ q ≤ 2 ∧ i = .int .i64 q ∧ Hid (wz.ownsRow Wo.heap.size 46 3 sv t (eC T t)) ∧ (q = 0 ∧ t = 0 ∨ q = 1 ∧ t = n ∧ T = L ∨ q = 2 ∧ t = n + m ∧ T = catE n L M) ∧ Hid (Bl Wo wz)) (fun _ i _ => 2 - (RowKit.intOf i).toNat)
      case atStart => exact ⟨0, 0, _, L, rfl, by omega, rfl, HO.out, .inl ⟨rfl, rfl⟩, HB1.out⟩
      case round =>
        obtain ⟨q, t, sv, T, rfl, hq, rfl, HO, hqt, HB2⟩ := hrel
        have x0 := kcb HB2.out H0.out
        have x1 := kcb HB2.out H1.out
        have lx := ltb x0
        have zz := HB2.out.size
        rcases hqt with ⟨rfl, rfl⟩ | ⟨rfl, rfl, rfl⟩ | ⟨rfl, rfl, rfl⟩
        · go_wp2_with (at_builtin; refine wpList_append_el rfl _ _ rfl Wo.heap.size _ 0 T rfl HO.out A n c L rfl (HA.out.below HB2.out) (by omega) zz ?_; intro v9 w9 hown9 hg9 hl9)
          have HO9 := Lib.hid (show w9.ownsRow Wo.heap.size 46 3 v9 n (eC L n) by rw [Nat.zero_add] at hown9; rw [← eC_congr (L := catE 0 T L) fun j _ => cat_zero j]; exact hown9)
          have HB9 := Lib.hid (below_own HB2.out HO.out (Nat.le_refl _) hg9)
          clear hown9 hg9 hl9
          go_roundw
          case rel => exact ⟨1, n, _, L, rfl, by omega, by go_num, HO9.out, .inr (.inl ⟨rfl, rfl, rfl⟩), HB9.out⟩
          case measure => simp [RowKit.intOf]
        · go_wp2_with (at_builtin; refine wpList_append_el rfl _ _ rfl Wo.heap.size _ t T rfl HO.out B m d M rfl (HB.out.below HB2.out) (by omega) zz ?_; intro v9 w9 hown9 hg9 hl9)
          have HO9 := Lib.hid hown9
          have HB9 := Lib.hid (below_own HB2.out HO.out (Nat.le_refl _) hg9)
          clear hown9 hg9 hl9
          go_roundw
          case rel => exact ⟨2, t + m, _, _, rfl, by omega, by go_num, HO9.out, .inr (.inr ⟨rfl, rfl, rfl⟩), HB9.out⟩
          case measure => simp [RowKit.intOf]
        · go_wp2_with fail
          go_ret
          exact ⟨⟨_, rfl, HO.out⟩, HB2.out⟩
/-- The error code of Merged. -/
def mrgC (L : Nat → En) (n : Nat) (M : Nat → En) (m : Nat) : Int := if vlB L n = true ∧ vlB M m = true then (if n + m ≤ 1000 then 0 else 4) else 1
theorem mrg_v1 {L M : Nat → En} {n m : Nat} (h : vlB L n = false) : mrgC L n M m = 1 := by simp [mrgC, h]
theorem mrg_v2 {L M : Nat → En} {n m : Nat} (h : vlB M m = false) : mrgC L n M m = 1 := by simp [mrgC, h]
theorem mrg_lim {L M : Nat → En} {n m : Nat} (h : vlB L n = true) (h' : vlB M m = true) (hl : ¬ n + m ≤ 1000) : mrgC L n M m = 4 := by rw [mrgC, if_pos ⟨h, h'⟩, if_neg hl]
theorem mrg_ok {L M : Nat → En} {n m : Nat} (h : vlB L n = true) (h' : vlB M m = true) (hl : n + m ≤ 1000) : mrgC L n M m = 0 := by rw [mrgC, if_pos ⟨h, h'⟩, if_pos hl]
theorem mrg_iff {L M : Nat → En} {n m : Nat} : mrgC L n M m = 0 ↔ vlB L n = true ∧ vlB M m = true ∧ n + m ≤ 1000 := by
  unfold mrgC
  split
  · rename_i h
    split
    · rename_i h2; exact ⟨fun _ => ⟨h.1, h.2, h2⟩, fun _ => rfl⟩
    · rename_i h2; exact ⟨fun q => by omega, fun q => absurd q.2.2 h2⟩
  · rename_i h
    exact ⟨fun q => by omega, fun q => absurd ⟨q.1, q.2.1⟩ h⟩
/-- What Merged returns. -/
def MrgPost (C : Int) (N : Nat) (T : Nat → En) (w : World) (e : Ending) (w' : World) : Prop :=
  Bl w w' ∧ ((C ≠ 0 ∧ e = .returned (.tuple #[.slice none 0 0, .int .i64 C])) ∨ (C = 0 ∧ ∃ v, e = .returned (.tuple #[v, .int .i64 0]) ∧ IsEn w' w.heap.size v N T))
set_option maxRecDepth 100000 in
set_option maxHeartbeats 3200000 in
theorem merged_any (A : Option Addr) (n c : Nat) (L : Nat → En) (B : Option Addr) (m d : Nat) (M : Nat → En) (w : World) (hA : El w A n L) (hB : El w B m M) (hn : n ≤ maxLen) (hm : m ≤ maxLen) :
    Calls Try.prog 47 #[.slice A n c, .slice B m d] w (MrgPost (mrgC L n M m) (n + m) (catE n L M) w) := by
  have H1 := Lib.hid (fun (X : World) (hb : Bl w X) => validE_any A n c L X (hA.below hb) hn)
  have H2 := Lib.hid (fun (X : World) (hb : Bl w X) => validE_any B m d M X (hB.below hb) hm)
  have HA := Lib.hid hA
  have HB := Lib.hid hB
  clear hA hB hn hm
  cases hv : vlB L n with
  | false =>
    have HV := Lib.hid hv
    have HC := Lib.hid (show mrgC L n M m = 1 from mrg_v1 hv)
    clear hv
    go_enter Try.func47, Try.ntmps47
    go_wp2_with fail
    refine (H1.out _ (Bl.rf _)).mono ?_
    rintro e1 w1 ⟨rfl, hb⟩
    rw [HV.out]
    go_wp2_with fail
    go_ret2
    exact ⟨hb, .inl ⟨by rw [HC.out]; decide, by rw [HC.out]; rfl⟩⟩
  | true =>
    have HV := Lib.hid hv
    clear hv
    cases hv : vlB M m with
    | false =>
      have HV2 := Lib.hid hv
      have HC := Lib.hid (show mrgC L n M m = 1 from mrg_v2 hv)
      clear hv
      go_enter Try.func47, Try.ntmps47
      go_wp2_with fail
      refine (H1.out _ (Bl.rf _)).mono ?_
      rintro e1 w1 ⟨rfl, hb⟩
      rw [HV.out]
      go_wp2_with fail
      refine (H2.out _ hb).mono ?_
      rintro e2 w2 ⟨rfl, hb2⟩
      rw [HV2.out]
      go_wp2_with fail
      go_ret2
      exact ⟨hb.tr hb2, .inl ⟨by rw [HC.out]; decide, by rw [HC.out]; rfl⟩⟩
    | true =>
      have HV2 := Lib.hid hv
      clear hv
      have n1 := (vl_iff.1 HV.out).1
      have m1 := (vl_iff.1 HV2.out).1
      have s1 : wrap64 ((n : Int) + (m : Int)) = (n : Int) + (m : Int) := by rw [IntWalk.wrap64_in _ (by omega)]
      have s2 : IntKind.i64.wrap ((n : Int) + (m : Int)) = (n : Int) + (m : Int) := by rw [IntWalk.i64_in _ (by omega)]
      by_cases hl : n + m ≤ 1000
      · have HC := Lib.hid (show mrgC L n M m = 0 from mrg_ok HV.out HV2.out hl)
        have hl' : ¬ (1000 < (n : Int) + (m : Int)) := by omega
        go_enter Try.func47, Try.ntmps47
        go_wp2_with fail
        refine (H1.out _ (Bl.rf _)).mono ?_
        rintro e1 w1 ⟨rfl, hb⟩
        rw [HV.out]
        go_wp2_with fail
        refine (H2.out _ hb).mono ?_
        rintro e2 w2 ⟨rfl, hb2⟩
        rw [HV2.out]
        have B2 := Lib.hid (hb.tr hb2)
        have z2 := B2.out.size
        clear hb hb2
        go_wp2_with fail
        refine (concat_any _ A n c L B m d M _ (by go_cell) (by go_cell) (HA.out.below (B2.out.tr (by go_grown))) (HB.out.below (B2.out.tr (by go_grown))) n1 m1).mono ?_
        rintro e3 w3 ⟨⟨v, rfl, hown⟩, hb3⟩
        have HO := Lib.hid (isEn_of_own hown)
        have B3 := Lib.hid (B2.out.tr (Bl.tr (by go_grown) hb3))
        clear hown hb3
        go_wp2_with fail
        go_ret2
        exact ⟨B3.out, .inr ⟨HC.out, v, rfl, HO.out.mono (by (try simp only [World.size_alloc]); omega)⟩⟩
      · have HC := Lib.hid (show mrgC L n M m = 4 from mrg_lim HV.out HV2.out hl)
        have hl' : (1000 : Int) < (n : Int) + (m : Int) := by omega
        go_enter Try.func47, Try.ntmps47
        go_wp2_with fail
        refine (H1.out _ (Bl.rf _)).mono ?_
        rintro e1 w1 ⟨rfl, hb⟩
        rw [HV.out]
        go_wp2_with fail
        refine (H2.out _ hb).mono ?_
        rintro e2 w2 ⟨rfl, hb2⟩
        rw [HV2.out]
        go_wp2_with fail
        go_ret2
        exact ⟨hb.tr hb2, .inl ⟨by rw [HC.out]; decide, by rw [HC.out]; rfl⟩⟩
end Go.Proofs.Ytiaamhlcdnlahaa
