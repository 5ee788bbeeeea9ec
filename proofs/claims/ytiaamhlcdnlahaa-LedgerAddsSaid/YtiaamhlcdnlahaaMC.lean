/-
  The walk of LedgerAdds.
-/
import Derived.Test.YtiaamhlcdnlahaaLR
import Derived.Test.YtiaamhlcdnlahaaLP
import Derived.Test.YtiaamhlcdnlahaaLI
namespace Go.Proofs.Ytiaamhlcdnlahaa
open Go.RowKit Go.Maps
set_option linter.unusedSimpArgs false
set_option linter.unusedVariables false

/-- How many entries a merged ledger has. -/
def numM (C : Int) (N : Nat) : Nat := if C = 0 then N else 0
theorem MrgPost.any {C : Int} {N : Nat} {T : Nat → En} {w : World} {e : Ending} {w' : World} (h : MrgPost C N T w e w') : Bl w w' ∧ ∃ v, e = .returned (.tuple #[v, .int .i64 C]) ∧ IsEn w' 0 v (numM C N) T := by
  obtain ⟨hb, ⟨hne, h1⟩ | ⟨h0, v, h1, h2⟩⟩ := h
  · exact ⟨hb, _, h1, by rw [numM, if_neg hne]; exact isEn_nil _ _ _⟩
  · subst h0; exact ⟨hb, v, h1, by rw [numM, if_pos rfl]; exact h2.mono (Nat.zero_le _)⟩
theorem lst_one {n : Nat} {L : Nat → En} {x : En} {d : Int} {f : Bool} (h : d ≠ x.day) : lst (catE n L (fun _ => x)) d f (n + 1) = lst L d f n := by
  rw [lst_miss (fun q => h (by rw [← q.1]; have := cat_ge n L (fun _ => x) 0; rw [Nat.add_zero] at this; rw [this]))]
  exact lst_congr fun j hj => cat_lt hj
theorem off_one {n : Nat} {L : Nat → En} {x : En} {d : Int} (hc : mrgC L n (fun _ => x) 1 = 0) (h : d ≠ x.day) : offP (catE n L (fun _ => x)) (n + 1) d = offP L n d := by
  have hv := (mrg_iff.1 hc).1
  have hv' := vl_cat hc
  have ho : offO (catE n L (fun _ => x)) (n + 1) d = offO L n d := by unfold offO; rw [lst_one h, lst_one h]
  unfold offP errL
  rw [ho, hv, hv']
set_option maxRecDepth 100000 in
set_option maxHeartbeats 6400000 in
theorem adds_w0 (A : Option Addr) (n c : Nat) (L : Nat → En) (B : Option Addr) (m d : Nat) (M : Nat → En) (x : En) (day : Int) (w : World) (hA : El w A n L) (hB : El w B m M) (hn : n ≤ maxLen) (hm : m ≤ maxLen) (hday : rng day) (hC : mrgC L n (fun _ => x) 1 ≠ 0) :
    Calls Try.prog 9 #[.slice A n c, .slice B m d, encE x, .int .i64 day] w fun e w' => e = .returned (.bool true) ∧ Bl w w' := by
  have HS1 := Lib.hid (fun (X : World) (hX : Bl w X) => added_any A n c L x X (hA.below hX) hn)
  have HS2 := Lib.hid (fun (X : World) (hX : Bl w X) => radded_any A n c L x X (hA.below hX) hn)
  have HM1 := Lib.hid (fun (X : World) (hX : Bl w X) => merged_any A n c L B m d M X (hA.below hX) (hB.below hX) hn hm)
  have HM2 := Lib.hid (fun (X : World) (hX : Bl w X) => rmerged_any A n c L B m d M X (hA.below hX) (hB.below hX) hn hm)
  have HO1 := Lib.hid (fun (X : World) (hX : Bl w X) => offOf_any A n c L day X (hA.below hX) hn hday)
  have HN := Lib.hid hn
  have HN2 := Lib.hid hm
  have HDY := Lib.hid hday
  clear hA hB hn hm hday
  have HC := Lib.hid hC
  clear hC
  have HC1n := Lib.hid (show (mrgC L n (fun _ => x) 1 != 0) = true by simpa using HC.out)
  obtain ⟨C, hCC⟩ : ∃ C, C = mrgC L n (fun _ => x) 1 := ⟨_, rfl⟩
  rw [← hCC] at HC1n HS1 HS2
  clear hCC HC
  have hC1n := HC1n.out
  obtain ⟨D, hDD⟩ : ∃ D, D = mrgC L n M m := ⟨_, rfl⟩
  rw [← hDD] at HM1 HM2
  clear hDD
  go_enter Try.func9, Try.ntmps9
  go_wp2_with fail
  refine (fit_any A n c _ HN.out).mono ?_
  rintro e0 w0 ⟨⟨b0, rfl⟩, rfl⟩
  cases b0 with
  | false =>
    go_wp2_with fail
    refine (awakeL_any _).mono ?_
    rintro ea wa ⟨rfl, ha⟩
    go_wp2_with fail
    go_ret
    exact ⟨rfl, ((by go_grown : Bl w _)).tr ha⟩
  | true =>
    go_wp2_with fail
    refine (fit_any B m d _ HN2.out).mono ?_
    rintro e00 w00 ⟨⟨b1, rfl⟩, rfl⟩
    cases b1 with
    | false =>
      go_wp2_with fail
      refine (awakeL_any _).mono ?_
      rintro ea wa ⟨rfl, ha⟩
      go_wp2_with fail
      go_ret
      exact ⟨rfl, ((by go_grown : Bl w _)).tr ha⟩
    | true =>
      go_wp2_with fail
      refine (HS1.out _ (by go_grown)).mono ?_
      intro e1 w1 hp
      obtain ⟨hb, v1, rfl, q1⟩ := hp.any
      have x0 := kcb hb (b := w.heap.size) (o := 0) (v := .int .i64 x.day) (by go_cell)
      have x1 := kcb hb (b := w.heap.size) (o := 1) (v := .bool x.fo) (by go_cell)
      have x2 := kcb hb (b := w.heap.size) (o := 2) (v := .int .i64 x.er) (by go_cell)
      have B1 := Lib.hid (show Bl w w1 from Bl.tr (by go_grown) hb)
      have lx := ltb x0
      have Q1 := Lib.hid q1
      clear hb hp q1
      go_wp2_with fail
      refine (HS2.out _ B1.out).mono ?_
      intro e2 w2 hp
      obtain ⟨hb, v2, rfl, q2⟩ := hp.any
      have x0 := kcb hb x0
      have x1 := kcb hb x1
      have x2 := kcb hb x2
      have lx := ltb x0
      have B2 := Lib.hid (B1.out.tr hb)
      have Q1 := Lib.hid (Q1.out.below hb)
      have Q2 := Lib.hid q2
      clear hb hp q2
      go_wp2_with fail
      refine (HM1.out _ B2.out).mono ?_
      intro e3 w3 hp
      obtain ⟨hb, v3, rfl, q3⟩ := hp.any
      have x0 := kcb hb x0
      have x1 := kcb hb x1
      have x2 := kcb hb x2
      have lx := ltb x0
      have B3 := Lib.hid (B2.out.tr hb)
      have Q1 := Lib.hid (Q1.out.below hb)
      have Q2 := Lib.hid (Q2.out.below hb)
      have Q3 := Lib.hid q3
      clear hb hp q3
      go_wp2_with fail
      refine (HM2.out _ B3.out).mono ?_
      intro e4 w4 hp
      obtain ⟨hb, v4, rfl, q4⟩ := hp.any
      have x0 := kcb hb x0
      have x1 := kcb hb x1
      have x2 := kcb hb x2
      have lx := ltb x0
      have B4 := Lib.hid (B3.out.tr hb)
      have Q1 := Lib.hid (Q1.out.below hb)
      have Q2 := Lib.hid (Q2.out.below hb)
      have Q3 := Lib.hid (Q3.out.below hb)
      have Q4 := Lib.hid q4
      clear hb hp q4
      go_wp2_with fail
      refine (sameEn_any _ _ _ 0 0 _ _ Q1.out Q2.out).mono ?_
      rintro e5 w5 ⟨rfl, hb⟩
      have x0 := kcb hb x0
      have x1 := kcb hb x1
      have x2 := kcb hb x2
      have lx := ltb x0
      have B5 := Lib.hid (B4.out.tr hb)
      have Q1 := Lib.hid (Q1.out.below hb)
      have Q3 := Lib.hid (Q3.out.below hb)
      have Q4 := Lib.hid (Q4.out.below hb)
      clear hb
      go_wp2_with fail
      refine (sameEn_any _ _ _ 0 0 _ _ Q3.out Q4.out).mono ?_
      rintro e6 w6 ⟨rfl, hb⟩
      have x0 := kcb hb x0
      have x1 := kcb hb x1
      have x2 := kcb hb x2
      have lx := ltb x0
      have B6 := Lib.hid (B5.out.tr hb)
      have Q1 := Lib.hid (Q1.out.below hb)
      clear hb
      go_wp2_with fail
      refine (awakeL_any _).mono ?_
      rintro ea wa ⟨rfl, ha⟩
      go_wp2_with fail
      go_ret
      exact ⟨rfl, (B6.out).tr ha⟩
set_option maxRecDepth 100000 in
set_option maxHeartbeats 6400000 in
theorem adds_w1 (A : Option Addr) (n c : Nat) (L : Nat → En) (B : Option Addr) (m d : Nat) (M : Nat → En) (x : En) (day : Int) (w : World) (hA : El w A n L) (hB : El w B m M) (hn : n ≤ maxLen) (hm : m ≤ maxLen) (hday : rng day) (hC : mrgC L n (fun _ => x) 1 = 0) (hd : day = x.day) :
    Calls Try.prog 9 #[.slice A n c, .slice B m d, encE x, .int .i64 day] w fun e w' => e = .returned (.bool true) ∧ Bl w w' := by
  have HS1 := Lib.hid (fun (X : World) (hX : Bl w X) => added_any A n c L x X (hA.below hX) hn)
  have HS2 := Lib.hid (fun (X : World) (hX : Bl w X) => radded_any A n c L x X (hA.below hX) hn)
  have HM1 := Lib.hid (fun (X : World) (hX : Bl w X) => merged_any A n c L B m d M X (hA.below hX) (hB.below hX) hn hm)
  have HM2 := Lib.hid (fun (X : World) (hX : Bl w X) => rmerged_any A n c L B m d M X (hA.below hX) (hB.below hX) hn hm)
  have HO1 := Lib.hid (fun (X : World) (hX : Bl w X) => offOf_any A n c L day X (hA.below hX) hn hday)
  have HN := Lib.hid hn
  have HN2 := Lib.hid hm
  have HDY := Lib.hid hday
  clear hA hB hn hm hday
  rw [hC] at HS1 HS2
  have hdd : (day == x.day) = true := by simpa using hd
  clear hd hC
  obtain ⟨D, hDD⟩ : ∃ D, D = mrgC L n M m := ⟨_, rfl⟩
  rw [← hDD] at HM1 HM2
  clear hDD
  go_enter Try.func9, Try.ntmps9
  go_wp2_with fail
  refine (fit_any A n c _ HN.out).mono ?_
  rintro e0 w0 ⟨⟨b0, rfl⟩, rfl⟩
  cases b0 with
  | false =>
    go_wp2_with fail
    refine (awakeL_any _).mono ?_
    rintro ea wa ⟨rfl, ha⟩
    go_wp2_with fail
    go_ret
    exact ⟨rfl, ((by go_grown : Bl w _)).tr ha⟩
  | true =>
    go_wp2_with fail
    refine (fit_any B m d _ HN2.out).mono ?_
    rintro e00 w00 ⟨⟨b1, rfl⟩, rfl⟩
    cases b1 with
    | false =>
      go_wp2_with fail
      refine (awakeL_any _).mono ?_
      rintro ea wa ⟨rfl, ha⟩
      go_wp2_with fail
      go_ret
      exact ⟨rfl, ((by go_grown : Bl w _)).tr ha⟩
    | true =>
      go_wp2_with fail
      refine (HS1.out _ (by go_grown)).mono ?_
      intro e1 w1 hp
      obtain ⟨hb, v1, rfl, q1⟩ := hp.any
      have x0 := kcb hb (b := w.heap.size) (o := 0) (v := .int .i64 x.day) (by go_cell)
      have x1 := kcb hb (b := w.heap.size) (o := 1) (v := .bool x.fo) (by go_cell)
      have x2 := kcb hb (b := w.heap.size) (o := 2) (v := .int .i64 x.er) (by go_cell)
      have B1 := Lib.hid (show Bl w w1 from Bl.tr (by go_grown) hb)
      have lx := ltb x0
      have Q1 := Lib.hid q1
      clear hb hp q1
      go_wp2_with fail
      refine (HS2.out _ B1.out).mono ?_
      intro e2 w2 hp
      obtain ⟨hb, v2, rfl, q2⟩ := hp.any
      have x0 := kcb hb x0
      have x1 := kcb hb x1
      have x2 := kcb hb x2
      have lx := ltb x0
      have B2 := Lib.hid (B1.out.tr hb)
      have Q1 := Lib.hid (Q1.out.below hb)
      have Q2 := Lib.hid q2
      clear hb hp q2
      go_wp2_with fail
      refine (HM1.out _ B2.out).mono ?_
      intro e3 w3 hp
      obtain ⟨hb, v3, rfl, q3⟩ := hp.any
      have x0 := kcb hb x0
      have x1 := kcb hb x1
      have x2 := kcb hb x2
      have lx := ltb x0
      have B3 := Lib.hid (B2.out.tr hb)
      have Q1 := Lib.hid (Q1.out.below hb)
      have Q2 := Lib.hid (Q2.out.below hb)
      have Q3 := Lib.hid q3
      clear hb hp q3
      go_wp2_with fail
      refine (HM2.out _ B3.out).mono ?_
      intro e4 w4 hp
      obtain ⟨hb, v4, rfl, q4⟩ := hp.any
      have x0 := kcb hb x0
      have x1 := kcb hb x1
      have x2 := kcb hb x2
      have lx := ltb x0
      have B4 := Lib.hid (B3.out.tr hb)
      have Q1 := Lib.hid (Q1.out.below hb)
      have Q2 := Lib.hid (Q2.out.below hb)
      have Q3 := Lib.hid (Q3.out.below hb)
      have Q4 := Lib.hid q4
      clear hb hp q4
      go_wp2_with fail
      refine (sameEn_any _ _ _ 0 0 _ _ Q1.out Q2.out).mono ?_
      rintro e5 w5 ⟨rfl, hb⟩
      have x0 := kcb hb x0
      have x1 := kcb hb x1
      have x2 := kcb hb x2
      have lx := ltb x0
      have B5 := Lib.hid (B4.out.tr hb)
      have Q1 := Lib.hid (Q1.out.below hb)
      have Q3 := Lib.hid (Q3.out.below hb)
      have Q4 := Lib.hid (Q4.out.below hb)
      clear hb
      go_wp2_with fail
      refine (sameEn_any _ _ _ 0 0 _ _ Q3.out Q4.out).mono ?_
      rintro e6 w6 ⟨rfl, hb⟩
      have x0 := kcb hb x0
      have x1 := kcb hb x1
      have x2 := kcb hb x2
      have lx := ltb x0
      have B6 := Lib.hid (B5.out.tr hb)
      have Q1 := Lib.hid (Q1.out.below hb)
      clear hb
      go_wp2_with fail
      refine (awakeL_any _).mono ?_
      rintro ea wa ⟨rfl, ha⟩
      go_wp2_with fail
      go_ret
      exact ⟨rfl, (B6.out).tr ha⟩
set_option maxRecDepth 100000 in
set_option maxHeartbeats 6400000 in
theorem adds_w2 (A : Option Addr) (n c : Nat) (L : Nat → En) (B : Option Addr) (m d : Nat) (M : Nat → En) (x : En) (day : Int) (w : World) (hA : El w A n L) (hB : El w B m M) (hn : n ≤ maxLen) (hm : m ≤ maxLen) (hday : rng day) (hC : mrgC L n (fun _ => x) 1 = 0) (hd : ¬ day = x.day) :
    Calls Try.prog 9 #[.slice A n c, .slice B m d, encE x, .int .i64 day] w fun e w' => e = .returned (.bool true) ∧ Bl w w' := by
  have HS1 := Lib.hid (fun (X : World) (hX : Bl w X) => added_any A n c L x X (hA.below hX) hn)
  have HS2 := Lib.hid (fun (X : World) (hX : Bl w X) => radded_any A n c L x X (hA.below hX) hn)
  have HM1 := Lib.hid (fun (X : World) (hX : Bl w X) => merged_any A n c L B m d M X (hA.below hX) (hB.below hX) hn hm)
  have HM2 := Lib.hid (fun (X : World) (hX : Bl w X) => rmerged_any A n c L B m d M X (hA.below hX) (hB.below hX) hn hm)
  have HO1 := Lib.hid (fun (X : World) (hX : Bl w X) => offOf_any A n c L day X (hA.below hX) hn hday)
  have HN := Lib.hid hn
  have HN2 := Lib.hid hm
  have HDY := Lib.hid hday
  clear hA hB hn hm hday
  rw [hC] at HS1 HS2
  have hdd : (day == x.day) = false := by simpa using hd
  have HNL := Lib.hid (mrg_iff.1 hC).2.2
  have HOE := Lib.hid (off_one hC hd)
  clear hd hC
  obtain ⟨D, hDD⟩ : ∃ D, D = mrgC L n M m := ⟨_, rfl⟩
  rw [← hDD] at HM1 HM2
  clear hDD
  obtain ⟨z, hz⟩ : ∃ z, z = offP L n day := ⟨_, rfl⟩
  rw [← hz] at HOE HO1
  clear hz
  obtain ⟨z1, z2⟩ := z
  go_enter Try.func9, Try.ntmps9
  go_wp2_with fail
  refine (fit_any A n c _ HN.out).mono ?_
  rintro e0 w0 ⟨⟨b0, rfl⟩, rfl⟩
  cases b0 with
  | false =>
    go_wp2_with fail
    refine (awakeL_any _).mono ?_
    rintro ea wa ⟨rfl, ha⟩
    go_wp2_with fail
    go_ret
    exact ⟨rfl, ((by go_grown : Bl w _)).tr ha⟩
  | true =>
    go_wp2_with fail
    refine (fit_any B m d _ HN2.out).mono ?_
    rintro e00 w00 ⟨⟨b1, rfl⟩, rfl⟩
    cases b1 with
    | false =>
      go_wp2_with fail
      refine (awakeL_any _).mono ?_
      rintro ea wa ⟨rfl, ha⟩
      go_wp2_with fail
      go_ret
      exact ⟨rfl, ((by go_grown : Bl w _)).tr ha⟩
    | true =>
      go_wp2_with fail
      refine (HS1.out _ (by go_grown)).mono ?_
      intro e1 w1 hp
      obtain ⟨hb, v1, rfl, q1⟩ := hp.any
      have x0 := kcb hb (b := w.heap.size) (o := 0) (v := .int .i64 x.day) (by go_cell)
      have x1 := kcb hb (b := w.heap.size) (o := 1) (v := .bool x.fo) (by go_cell)
      have x2 := kcb hb (b := w.heap.size) (o := 2) (v := .int .i64 x.er) (by go_cell)
      have B1 := Lib.hid (show Bl w w1 from Bl.tr (by go_grown) hb)
      have lx := ltb x0
      have Q1 := Lib.hid q1
      clear hb hp q1
      go_wp2_with fail
      refine (HS2.out _ B1.out).mono ?_
      intro e2 w2 hp
      obtain ⟨hb, v2, rfl, q2⟩ := hp.any
      have x0 := kcb hb x0
      have x1 := kcb hb x1
      have x2 := kcb hb x2
      have lx := ltb x0
      have B2 := Lib.hid (B1.out.tr hb)
      have Q1 := Lib.hid (Q1.out.below hb)
      have Q2 := Lib.hid q2
      clear hb hp q2
      go_wp2_with fail
      refine (HM1.out _ B2.out).mono ?_
      intro e3 w3 hp
      obtain ⟨hb, v3, rfl, q3⟩ := hp.any
      have x0 := kcb hb x0
      have x1 := kcb hb x1
      have x2 := kcb hb x2
      have lx := ltb x0
      have B3 := Lib.hid (B2.out.tr hb)
      have Q1 := Lib.hid (Q1.out.below hb)
      have Q2 := Lib.hid (Q2.out.below hb)
      have Q3 := Lib.hid q3
      clear hb hp q3
      go_wp2_with fail
      refine (HM2.out _ B3.out).mono ?_
      intro e4 w4 hp
      obtain ⟨hb, v4, rfl, q4⟩ := hp.any
      have x0 := kcb hb x0
      have x1 := kcb hb x1
      have x2 := kcb hb x2
      have lx := ltb x0
      have B4 := Lib.hid (B3.out.tr hb)
      have Q1 := Lib.hid (Q1.out.below hb)
      have Q2 := Lib.hid (Q2.out.below hb)
      have Q3 := Lib.hid (Q3.out.below hb)
      have Q4 := Lib.hid q4
      clear hb hp q4
      go_wp2_with fail
      refine (sameEn_any _ _ _ 0 0 _ _ Q1.out Q2.out).mono ?_
      rintro e5 w5 ⟨rfl, hb⟩
      have x0 := kcb hb x0
      have x1 := kcb hb x1
      have x2 := kcb hb x2
      have lx := ltb x0
      have B5 := Lib.hid (B4.out.tr hb)
      have Q1 := Lib.hid (Q1.out.below hb)
      have Q3 := Lib.hid (Q3.out.below hb)
      have Q4 := Lib.hid (Q4.out.below hb)
      clear hb
      go_wp2_with fail
      refine (sameEn_any _ _ _ 0 0 _ _ Q3.out Q4.out).mono ?_
      rintro e6 w6 ⟨rfl, hb⟩
      have x0 := kcb hb x0
      have x1 := kcb hb x1
      have x2 := kcb hb x2
      have lx := ltb x0
      have B6 := Lib.hid (B5.out.tr hb)
      have Q1 := Lib.hid (Q1.out.below hb)
      clear hb
      go_wp2_with fail
      refine (HO1.out _ B6.out).mono ?_
      rintro e7 w7 ⟨rfl, hb⟩
      have B7 := Lib.hid (B6.out.tr hb)
      have Q1 := Lib.hid (Q1.out.below hb)
      clear hb x0 x1 x2
      obtain ⟨A1, c1, rfl, -, hc1, hE1, -⟩ := Q1.out
      have HE1 := Lib.hid hE1
      have HC1 := Lib.hid hc1
      clear hE1 hc1
      go_wp2_with fail
      refine (offOf_any A1 (n + 1) c1 (catE n L (fun _ => x)) day _ HE1.out (by have := HNL.out; unfold maxLen; omega) HDY.out).mono ?_
      rintro e8 w8 ⟨rfl, hb⟩
      rw [HOE.out]
      have B8 := Lib.hid (B7.out.tr hb)
      clear hb
      go_wp2_with fail
      refine (awakeL_any _).mono ?_
      rintro ea wa ⟨rfl, ha⟩
      go_wp2_with fail
      go_ret
      exact ⟨rfl, (B8.out).tr ha⟩
theorem adds_walk (A : Option Addr) (n c : Nat) (L : Nat → En) (B : Option Addr) (m d : Nat) (M : Nat → En) (x : En) (day : Int) (w : World) (hA : El w A n L) (hB : El w B m M) (hn : n ≤ maxLen) (hm : m ≤ maxLen) (hday : rng day) :
    Calls Try.prog 9 #[.slice A n c, .slice B m d, encE x, .int .i64 day] w fun e w' => e = .returned (.bool true) ∧ Bl w w' := by
  by_cases hC : mrgC L n (fun _ => x) 1 = 0
  · by_cases hd : day = x.day
    · exact adds_w1 A n c L B m d M x day w hA hB hn hm hday hC hd
    · exact adds_w2 A n c L B m d M x day w hA hB hn hm hday hC hd
  · exact adds_w0 A n c L B m d M x day w hA hB hn hm hday hC
end Go.Proofs.Ytiaamhlcdnlahaa
