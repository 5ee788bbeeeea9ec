/-
  Contracts of package ball and of its reference: May.
-/
import Derived.Test.YtoigbppnfjmojaaBP
import Derived.Test.YtoigbppnfjmojaaBUA
import Derived.Test.YtoigbppnfjmojaaSI
import Derived.Deep.OwnRows
import Derived.Deep.AppendLies
import Derived.Laws.OwnMore
namespace Go.Proofs.Ytoigbppnfjmojaa
open Go.RowKit Go.Shelf
set_option linter.unusedSimpArgs false
set_option linter.unusedVariables false

theorem int_info : (Try.prog.info? 3).map (fun i => (i.zero, i.size, i.bytes)) = some (some (.int .i64 0), 1, 8) := by kernel_rfl
theorem own_bu {w w' : World} {base : Nat} {e : TypeId} {size : Nat} {v : Value} {n : Nat} {xs : List Value} (h : w.ownsRow base e size v n xs) (hb : Bl w w') : w'.ownsRow base e size v n xs := by
  have hg : w.grownBy w' none := ⟨hb.os, hb.tape, hb.output, hb.size, fun i hi _ => hb.block i hi⟩
  refine h.kept hg ?_
  cases hv : v.ownBlock with
  | none => exact .inl rfl
  | some k => exact .inr (by simp)
/-- What May returns. -/
def MayPost (M : Mst) (s : Bal) (t : Int) (w : World) (e : Ending) (w' : World) : Prop :=
  Bl w w' ∧ ∃ A c, e = .returned (.tuple #[.slice A (mayR M s t).1.length c, .int .i64 (mayR M s t).2]) ∧ Sn w' A (mayR M s t).1.length (fun j => (mayR M s t).1.getD j 0)
structure SAt (w : World) (b : Nat) (s : Bal) : Prop where
  c0 : w.cell? ⟨b, 0, none⟩ = some (.int .i64 s.pl)
  c1 : w.cell? ⟨b, 1, none⟩ = some (.int .i64 s.wi)
  c2 : w.cell? ⟨b, 2, none⟩ = some (.bool s.fl)
  c3 : w.cell? ⟨b, 3, none⟩ = some (.int .i64 s.t)
theorem SAt.below {w w' : World} {b : Nat} {s : Bal} (h : SAt w b s) (hb : Bl w w') : SAt w' b s := ⟨kcb hb h.c0, kcb hb h.c1, kcb hb h.c2, kcb hb h.c3⟩
theorem MastAt.b2 {w w' : World} {b N : Nat} {M : Mst} (h : MastAt w b M) (hb : Below N w w') (hl : b < N) : MastAt w' b M :=
  ⟨(hb.cell (p := ⟨b, 0, none⟩) hl).trans h.c0, (hb.cell (p := ⟨b, 1, none⟩) hl).trans h.c1, (hb.cell (p := ⟨b, 2, none⟩) hl).trans h.c2, (hb.cell (p := ⟨b, 3, none⟩) hl).trans h.c3, (hb.cell (p := ⟨b, 4, none⟩) hl).trans h.c4, (hb.cell (p := ⟨b, 5, none⟩) hl).trans h.c5⟩
theorem SAt.b2 {w w' : World} {b N : Nat} {s : Bal} (h : SAt w b s) (hb : Below N w w') (hl : b < N) : SAt w' b s :=
  ⟨(hb.cell (p := ⟨b, 0, none⟩) hl).trans h.c0, (hb.cell (p := ⟨b, 1, none⟩) hl).trans h.c1, (hb.cell (p := ⟨b, 2, none⟩) hl).trans h.c2, (hb.cell (p := ⟨b, 3, none⟩) hl).trans h.c3⟩
theorem may_none {M : Mst} {s : Bal} {t : Int} {w w' : World} {k : Int} (h : mayR M s t = ([], k)) (hb : Bl w w') : MayPost M s t w (.returned (.tuple #[.slice none 0 0, .int .i64 k])) w' :=
  ⟨hb, none, 0, by rw [h]; rfl, fun h0 => by rw [h] at h0; exact absurd h0 (Nat.lt_irrefl 0)⟩
theorem may_some {M : Mst} {s : Bal} {t : Int} {w w' : World} {base : Nat} {v : Value} {l : List Int} (h : mayR M s t = (l, 0)) (ho : w'.ownsRow base 3 1 v l.length (intC l)) (hb : Bl w w') : MayPost M s t w (.returned (.tuple #[v, .int .i64 0])) w' := by
  have hv : ∃ A c, v = .slice A l.length c := by
    rcases ho.2 with ⟨hv, h0⟩ | ⟨g, cap, cur, hv, _⟩
    · exact ⟨none, 0, by rw [hv, h0]⟩
    · exact ⟨_, _, hv⟩
  obtain ⟨A, c, rfl⟩ := hv
  exact ⟨hb, A, c, by rw [h], by rw [h]; exact sn_of_own ho⟩

set_option maxRecDepth 100000 in
set_option maxHeartbeats 3200000 in
theorem bmay_bad (M : Mst) (s : Bal) (t : Int) (w : World) (h : ¬ (VM M ∧ VS s)) : Calls Try.prog 15 #[encM M, encB s, .int .i64 t] w (MayPost M s t w) := by
  have HR := Lib.hid (show mayR M s t = ([], 1) from if_neg h)
  by_cases q : VM M
  · have Q := Lib.hid (show decide (VM M) = true from decide_eq_true q)
    have R := Lib.hid (show decide (VS s) = false from decide_eq_false fun r => h ⟨q, r⟩)
    clear h q
    go_enter Try.func15, Try.ntmps15
    go_wp2_with fail
    refine (validMast_any M _).mono ?_
    rintro q1 w1 ⟨rfl, hb⟩
    have m0 := kcb hb (b := w.heap.size) (o := 0) (v := .int .i64 M.no) (by go_cell)
    have m1 := kcb hb (b := w.heap.size) (o := 1) (v := .int .i64 M.hf) (by go_cell)
    have m2 := kcb hb (b := w.heap.size) (o := 2) (v := .int .i64 M.fu) (by go_cell)
    have m3 := kcb hb (b := w.heap.size) (o := 3) (v := .int .i64 M.la) (by go_cell)
    have m4 := kcb hb (b := w.heap.size) (o := 4) (v := .int .i64 M.ag) (by go_cell)
    have m5 := kcb hb (b := w.heap.size) (o := 5) (v := .int .i64 M.wi) (by go_cell)
    have s0 := kcb hb (b := w.heap.size + 1) (o := 0) (v := .int .i64 s.pl) (by go_cell)
    have s1 := kcb hb (b := w.heap.size + 1) (o := 1) (v := .int .i64 s.wi) (by go_cell)
    have s2 := kcb hb (b := w.heap.size + 1) (o := 2) (v := .bool s.fl) (by go_cell)
    have s3 := kcb hb (b := w.heap.size + 1) (o := 3) (v := .int .i64 s.t) (by go_cell)
    have B1 : Bl w w1 := Below.trans (by go_grown) (hb.mono (by (try simp only [World.size_alloc, World.size_setCell]); omega))
    have l1 := ltb s3
    have zz1 := B1.size
    clear hb
    rw [Q.out]
    have ls1 := ltb s0
    have lm1 := ltb m0
    go_wp2_with fail
    refine (isState_any s _).mono ?_
    rintro q2 w2 ⟨rfl, hb⟩
    have m0 := kcb hb (b := w.heap.size) (o := 0) (v := .int .i64 M.no) (by go_cell)
    have m1 := kcb hb (b := w.heap.size) (o := 1) (v := .int .i64 M.hf) (by go_cell)
    have m2 := kcb hb (b := w.heap.size) (o := 2) (v := .int .i64 M.fu) (by go_cell)
    have m3 := kcb hb (b := w.heap.size) (o := 3) (v := .int .i64 M.la) (by go_cell)
    have m4 := kcb hb (b := w.heap.size) (o := 4) (v := .int .i64 M.ag) (by go_cell)
    have m5 := kcb hb (b := w.heap.size) (o := 5) (v := .int .i64 M.wi) (by go_cell)
    have s0 := kcb hb (b := w.heap.size + 1) (o := 0) (v := .int .i64 s.pl) (by go_cell)
    have s1 := kcb hb (b := w.heap.size + 1) (o := 1) (v := .int .i64 s.wi) (by go_cell)
    have s2 := kcb hb (b := w.heap.size + 1) (o := 2) (v := .bool s.fl) (by go_cell)
    have s3 := kcb hb (b := w.heap.size + 1) (o := 3) (v := .int .i64 s.t) (by go_cell)
    have B2 : Bl w w2 := Below.trans (by go_grown) (hb.mono (by (try simp only [World.size_alloc, World.size_setCell]); omega))
    have l2 := ltb s3
    have zz2 := B2.size
    clear hb
    rw [R.out]
    go_wp2_with fail
    go_ret2
    exact may_none HR.out B2
  · have Q := Lib.hid (show decide (VM M) = false from decide_eq_false q)
    clear h q
    go_enter Try.func15, Try.ntmps15
    go_wp2_with fail
    refine (validMast_any M _).mono ?_
    rintro q1 w1 ⟨rfl, hb⟩
    have m0 := kcb hb (b := w.heap.size) (o := 0) (v := .int .i64 M.no) (by go_cell)
    have m1 := kcb hb (b := w.heap.size) (o := 1) (v := .int .i64 M.hf) (by go_cell)
    have m2 := kcb hb (b := w.heap.size) (o := 2) (v := .int .i64 M.fu) (by go_cell)
    have m3 := kcb hb (b := w.heap.size) (o := 3) (v := .int .i64 M.la) (by go_cell)
    have m4 := kcb hb (b := w.heap.size) (o := 4) (v := .int .i64 M.ag) (by go_cell)
    have m5 := kcb hb (b := w.heap.size) (o := 5) (v := .int .i64 M.wi) (by go_cell)
    have s0 := kcb hb (b := w.heap.size + 1) (o := 0) (v := .int .i64 s.pl) (by go_cell)
    have s1 := kcb hb (b := w.heap.size + 1) (o := 1) (v := .int .i64 s.wi) (by go_cell)
    have s2 := kcb hb (b := w.heap.size + 1) (o := 2) (v := .bool s.fl) (by go_cell)
    have s3 := kcb hb (b := w.heap.size + 1) (o := 3) (v := .int .i64 s.t) (by go_cell)
    have B1 : Bl w w1 := Below.trans (by go_grown) (hb.mono (by (try simp only [World.size_alloc, World.size_setCell]); omega))
    have l1 := ltb s3
    have zz1 := B1.size
    clear hb
    rw [Q.out]
    go_wp2_with fail
    go_ret2
    exact may_none HR.out B1
set_option maxRecDepth 100000 in
set_option maxHeartbeats 6400000 in
theorem bmay_ok (M : Mst) (s : Bal) (t : Int) (w : World) (hM : VM M) (hs : VS s) (h63 : -9223372036854775808 ≤ t ∧ t ≤ 9223372036854775807) : Calls Try.prog 15 #[encM M, encB s, .int .i64 t] w (MayPost M s t w) := by
  obtain ⟨i0, hi0, hz0, hz1, hz2⟩ := info_parts int_info
  have HI := Lib.hid (And.intro hi0 (And.intro hz0 (And.intro hz1 hz2)))
  clear hi0 hz0 hz1 hz2
  have Q := Lib.hid (show decide (VM M) = true from decide_eq_true hM)
  have R := Lib.hid (show decide (VS s) = true from decide_eq_true hs)
  have HM := Lib.hid hM
  have HS := Lib.hid hs
  have st0 := hs.t0
  have st1 := hs.t1
  by_cases ht : s.t ≤ t ∧ isT t
  · have HR := Lib.hid (show mayR M s t = (mayL M s t 6, 0) by unfold mayR; rw [if_pos ⟨hM, hs⟩, if_pos ht])
    have HT := Lib.hid ht
    obtain ⟨t0, t1, t2⟩ := ht
    have QT := Lib.hid (show decide (isT t) = true from decide_eq_true HT.out.2)
    clear hM hs
    go_enter Try.func15, Try.ntmps15
    go_wp2_with fail
    refine (validMast_any M _).mono ?_
    rintro q1 w1 ⟨rfl, hb⟩
    have m0 := kcb hb (b := w.heap.size) (o := 0) (v := .int .i64 M.no) (by go_cell)
    have m1 := kcb hb (b := w.heap.size) (o := 1) (v := .int .i64 M.hf) (by go_cell)
    have m2 := kcb hb (b := w.heap.size) (o := 2) (v := .int .i64 M.fu) (by go_cell)
    have m3 := kcb hb (b := w.heap.size) (o := 3) (v := .int .i64 M.la) (by go_cell)
    have m4 := kcb hb (b := w.heap.size) (o := 4) (v := .int .i64 M.ag) (by go_cell)
    have m5 := kcb hb (b := w.heap.size) (o := 5) (v := .int .i64 M.wi) (by go_cell)
    have s0 := kcb hb (b := w.heap.size + 1) (o := 0) (v := .int .i64 s.pl) (by go_cell)
    have s1 := kcb hb (b := w.heap.size + 1) (o := 1) (v := .int .i64 s.wi) (by go_cell)
    have s2 := kcb hb (b := w.heap.size + 1) (o := 2) (v := .bool s.fl) (by go_cell)
    have s3 := kcb hb (b := w.heap.size + 1) (o := 3) (v := .int .i64 s.t) (by go_cell)
    have B1 : Bl w w1 := Below.trans (by go_grown) (hb.mono (by (try simp only [World.size_alloc, World.size_setCell]); omega))
    have l1 := ltb s3
    have zz1 := B1.size
    clear hb
    rw [Q.out]
    have ls1 := ltb s0
    have lm1 := ltb m0
    go_wp2_with fail
    refine (isState_any s _).mono ?_
    rintro q2 w2 ⟨rfl, hb⟩
    have m0 := kcb hb (b := w.heap.size) (o := 0) (v := .int .i64 M.no) (by go_cell)
    have m1 := kcb hb (b := w.heap.size) (o := 1) (v := .int .i64 M.hf) (by go_cell)
    have m2 := kcb hb (b := w.heap.size) (o := 2) (v := .int .i64 M.fu) (by go_cell)
    have m3 := kcb hb (b := w.heap.size) (o := 3) (v := .int .i64 M.la) (by go_cell)
    have m4 := kcb hb (b := w.heap.size) (o := 4) (v := .int .i64 M.ag) (by go_cell)
    have m5 := kcb hb (b := w.heap.size) (o := 5) (v := .int .i64 M.wi) (by go_cell)
    have s0 := kcb hb (b := w.heap.size + 1) (o := 0) (v := .int .i64 s.pl) (by go_cell)
    have s1 := kcb hb (b := w.heap.size + 1) (o := 1) (v := .int .i64 s.wi) (by go_cell)
    have s2 := kcb hb (b := w.heap.size + 1) (o := 2) (v := .bool s.fl) (by go_cell)
    have s3 := kcb hb (b := w.heap.size + 1) (o := 3) (v := .int .i64 s.t) (by go_cell)
    have B2 : Bl w w2 := Below.trans (by go_grown) (hb.mono (by (try simp only [World.size_alloc, World.size_setCell]); omega))
    have l2 := ltb s3
    have zz2 := B2.size
    clear hb
    rw [R.out]
    have ls2 := ltb s0
    have lm2 := ltb m0
    go_wp2_with fail
    refine (isTime_any t _).mono ?_
    rintro q3 w3 ⟨rfl, rfl⟩
    rw [QT.out]
    go_wp2_with fail
    obtain ⟨V, hV⟩ : ∃ V, V = w2 := ⟨_, rfl⟩
    rw [← hV]
    have MV : MastAt V w.heap.size M := by rw [hV]; exact ⟨m0, m1, m2, m3, m4, m5⟩
    have SV : SAt V (w.heap.size + 1) s := by rw [hV]; exact ⟨s0, s1, s2, s3⟩
    have BV : Bl w V := by rw [hV]; exact B2
    clear hV B1 B2 m0 m1 m2 m3 m4 m5 s0 s1 s2 s3
    go_loopw [8, 9] (fun v kd wr => ∃ k : Nat, k ≤ 6 ∧ kd = .int .i64 ((k : Int) + 1) ∧ Hid (wr.ownsRow (w.heap.size + 2) 3 1 v (mayL M s t k).length (intC (mayL M s t k))) ∧ Hid (MastAt wr w.heap.size M) ∧ Hid (SAt wr (w.heap.size + 1) s) ∧ Bl w wr) (fun _ kd _ => 7 - (RowKit.intOf kd).toNat)
    case atStart => exact ⟨0, by omega, rfl, World.ownsRow_nil _ _ _ _, MV, SV, BV⟩
    case round =>
      obtain ⟨k, hk, rfl, HO, HMM, HSS, hB⟩ := hrel
      have zB := hB.size
      by_cases hlt : k < 6
      · obtain ⟨m0, m1, m2, m3, m4, m5⟩ := HMM.out
        obtain ⟨s0, s1, s2, s3⟩ := HSS.out
        have lm := ltb m0
        have ls := ltb s0
        obtain ⟨r, er, hr⟩ : ∃ r er, nxtF M s ⟨t, (k : Int) + 1, 0⟩ = (r, er) := ⟨_, _, rfl⟩
        have hst : stp M s ⟨t, (k : Int) + 1, 0⟩ = (r, er) := by rw [← hr]; exact (if_pos ⟨HM.out, HS.out⟩).symm
        rw [stp_may HT.out.1 HT.out.2 (by omega) (by omega)] at hst
        have HN := Lib.hid hr
        clear hr
        obtain ⟨pl, wi, fl, st⟩ := r
        by_cases hal : alw M s ((k : Int) + 1) t
        · rw [if_pos hal] at hst
          obtain rfl : 0 = er := (Prod.mk.inj hst).2
          clear hst
          have HL := Lib.hid (show mayL M s t (k + 1) = mayL M s t k ++ [(k : Int) + 1] by rw [mayL, if_pos hal])
          have len := mayL_len M s t k
          clear hal
          go_wp2_with fail
          refine (ballNext_any M s ⟨t, (k : Int) + 1, 0⟩ _).mono ?_
          rintro q4 w4 ⟨rfl, hb⟩
          rw [HN.out]
          have X4 : Bl wr w4 := Below.trans (by go_grown) (hb.mono (by (try simp only [World.size_alloc, World.size_setCell]); omega))
          have z4 := X4.size
          have HO4 := Lib.hid (own_bu HO.out X4)
          have B4 := hB.tr X4
          have hMM4 := Lib.hid (HMM.out.below X4)
          have hSS4 := Lib.hid (HSS.out.below X4)
          clear hb
          clear m0 m1 m2 m3 m4 m5 s0 s1 s2 s3
          have hnew := Lib.hid (show ((w4.alloc (.cells #[.int .i64 pl, .int .i64 wi, .bool fl, .int .i64 st] 34)).alloc (.cells #[.int .i64 ((k : Int) + 1)] 3)).heap[w4.heap.size + 1]? = some (.cells #[.int .i64 ((k : Int) + 1)] 3 (0, 0)) by have h := heap_alloc_new (w4.alloc (.cells #[.int .i64 pl, .int .i64 wi, .bool fl, .int .i64 st] 34)) (.cells #[.int .i64 ((k : Int) + 1)] 3); (try rw [World.size_alloc] at h); exact h)
          go_wp2_with (at_builtin; refine wpList_append_lies _ rfl _ _ _ rfl (w.heap.size + 2) 3 i0 _ 1 8 Try.underlying35 HI.out.1 HI.out.2.1 HI.out.2.2.1 HI.out.2.2.2 rfl (by omega) _ (mayL M s t k).length (intC (mayL M s t k)) rfl ((HO4.out.alloc _).alloc _) ⟨w4.heap.size + 1, 0, none⟩ 1 1 [.int .i64 ((k : Int) + 1)] rfl rfl (World.news_of_block hnew.out) (by simp [Value.oneCell']) (by omega) (by unfold maxLen; omega) (by omega) (by (try simp only [World.size_alloc]); omega) _ rfl ?_; intro gg cap w9 hown1 hgrow hat hlt9)
          have HO9 := Lib.hid (show w9.ownsRow (w.heap.size + 2) 3 1 (.slice (some ⟨gg, 0, none⟩) ((mayL M s t k).length + 1) cap) (mayL M s t (k + 1)).length (intC (mayL M s t (k + 1))) by
            rw [HL.out, intC_snoc, List.length_append, List.length_singleton]; exact hown1)
          have hl := HO.out.lt
          have X9 : Below (w.heap.size + 2) (w4.alloc (.cells #[.int .i64 pl, .int .i64 wi, .bool fl, .int .i64 st] 34)) w9 := Below.grown (w := (w4.alloc (.cells #[.int .i64 pl, .int .i64 wi, .bool fl, .int .i64 st] 34)).alloc (.cells #[.int .i64 ((k : Int) + 1)] 3)) (by go_grown) hgrow (by (try simp only [World.size_alloc]); omega) (fun j hj => (hl j hj).1)
          go_roundw
          case rel => exact ⟨k + 1, by omega, by go_num, HO9.out, (hMM4.out.below (show Bl w4 (w4.alloc (.cells #[.int .i64 pl, .int .i64 wi, .bool fl, .int .i64 st] 34)) from by go_grown)).b2 X9 (by omega), (hSS4.out.below (show Bl w4 (w4.alloc (.cells #[.int .i64 pl, .int .i64 wi, .bool fl, .int .i64 st] 34)) from by go_grown)).b2 X9 (by omega), by first | exact B4.tr (X9.mono (by omega)) | (refine Below.trans (B4.tr (by go_grown)) (X9.mono ?_); omega)⟩
          case measure => simp [RowKit.intOf]; omega
        · rw [if_neg hal] at hst
          obtain rfl : 9 = er := (Prod.mk.inj hst).2
          clear hst
          have HL := Lib.hid (show mayL M s t (k + 1) = mayL M s t k by rw [mayL, if_neg hal])
          clear hal
          go_wp2_with fail
          refine (ballNext_any M s ⟨t, (k : Int) + 1, 0⟩ _).mono ?_
          rintro q4 w4 ⟨rfl, hb⟩
          rw [HN.out]
          have X4 : Bl wr w4 := Below.trans (by go_grown) (hb.mono (by (try simp only [World.size_alloc, World.size_setCell]); omega))
          have z4 := X4.size
          have HO4 := Lib.hid (own_bu HO.out X4)
          clear hb
          clear m0 m1 m2 m3 m4 m5 s0 s1 s2 s3
          go_wp2_with fail
          have X5 : Bl wr (w4.alloc (.cells #[.int .i64 pl, .int .i64 wi, .bool fl, .int .i64 st] 34)) := X4.tr (by first | exact Bl.rf _ | go_grown)
          go_roundw
          case rel => exact ⟨k + 1, by omega, by go_num, by rw [HL.out]; exact own_bu HO.out X5, HMM.out.below X5, HSS.out.below X5, hB.tr X5⟩
          case measure => simp [RowKit.intOf]; omega
      · obtain rfl : k = 6 := by omega
        go_wp2_with fail
        go_ret2
        exact may_some HR.out HO.out hB
  · have HR := Lib.hid (show mayR M s t = ([], 7) by unfold mayR; rw [if_pos ⟨hM, hs⟩, if_neg ht])
    by_cases hlt : t < s.t
    · clear hM hs ht
      go_enter Try.func15, Try.ntmps15
      go_wp2_with fail
      refine (validMast_any M _).mono ?_
      rintro q1 w1 ⟨rfl, hb⟩
      have m0 := kcb hb (b := w.heap.size) (o := 0) (v := .int .i64 M.no) (by go_cell)
      have m1 := kcb hb (b := w.heap.size) (o := 1) (v := .int .i64 M.hf) (by go_cell)
      have m2 := kcb hb (b := w.heap.size) (o := 2) (v := .int .i64 M.fu) (by go_cell)
      have m3 := kcb hb (b := w.heap.size) (o := 3) (v := .int .i64 M.la) (by go_cell)
      have m4 := kcb hb (b := w.heap.size) (o := 4) (v := .int .i64 M.ag) (by go_cell)
      have m5 := kcb hb (b := w.heap.size) (o := 5) (v := .int .i64 M.wi) (by go_cell)
      have s0 := kcb hb (b := w.heap.size + 1) (o := 0) (v := .int .i64 s.pl) (by go_cell)
      have s1 := kcb hb (b := w.heap.size + 1) (o := 1) (v := .int .i64 s.wi) (by go_cell)
      have s2 := kcb hb (b := w.heap.size + 1) (o := 2) (v := .bool s.fl) (by go_cell)
      have s3 := kcb hb (b := w.heap.size + 1) (o := 3) (v := .int .i64 s.t) (by go_cell)
      have B1 : Bl w w1 := Below.trans (by go_grown) (hb.mono (by (try simp only [World.size_alloc, World.size_setCell]); omega))
      have l1 := ltb s3
      have zz1 := B1.size
      clear hb
      rw [Q.out]
      have ls1 := ltb s0
      have lm1 := ltb m0
      go_wp2_with fail
      refine (isState_any s _).mono ?_
      rintro q2 w2 ⟨rfl, hb⟩
      have m0 := kcb hb (b := w.heap.size) (o := 0) (v := .int .i64 M.no) (by go_cell)
      have m1 := kcb hb (b := w.heap.size) (o := 1) (v := .int .i64 M.hf) (by go_cell)
      have m2 := kcb hb (b := w.heap.size) (o := 2) (v := .int .i64 M.fu) (by go_cell)
      have m3 := kcb hb (b := w.heap.size) (o := 3) (v := .int .i64 M.la) (by go_cell)
      have m4 := kcb hb (b := w.heap.size) (o := 4) (v := .int .i64 M.ag) (by go_cell)
      have m5 := kcb hb (b := w.heap.size) (o := 5) (v := .int .i64 M.wi) (by go_cell)
      have s0 := kcb hb (b := w.heap.size + 1) (o := 0) (v := .int .i64 s.pl) (by go_cell)
      have s1 := kcb hb (b := w.heap.size + 1) (o := 1) (v := .int .i64 s.wi) (by go_cell)
      have s2 := kcb hb (b := w.heap.size + 1) (o := 2) (v := .bool s.fl) (by go_cell)
      have s3 := kcb hb (b := w.heap.size + 1) (o := 3) (v := .int .i64 s.t) (by go_cell)
      have B2 : Bl w w2 := Below.trans (by go_grown) (hb.mono (by (try simp only [World.size_alloc, World.size_setCell]); omega))
      have l2 := ltb s3
      have zz2 := B2.size
      clear hb
      rw [R.out]
      have ls2 := ltb s0
      have lm2 := ltb m0
      go_wp2_with fail
      go_ret2
      exact may_none HR.out B2
    · have QT := Lib.hid (show decide (isT t) = false from decide_eq_false fun r => ht ⟨by omega, r⟩)
      clear hM hs ht
      go_enter Try.func15, Try.ntmps15
      go_wp2_with fail
      refine (validMast_any M _).mono ?_
      rintro q1 w1 ⟨rfl, hb⟩
      have m0 := kcb hb (b := w.heap.size) (o := 0) (v := .int .i64 M.no) (by go_cell)
      have m1 := kcb hb (b := w.heap.size) (o := 1) (v := .int .i64 M.hf) (by go_cell)
      have m2 := kcb hb (b := w.heap.size) (o := 2) (v := .int .i64 M.fu) (by go_cell)
      have m3 := kcb hb (b := w.heap.size) (o := 3) (v := .int .i64 M.la) (by go_cell)
      have m4 := kcb hb (b := w.heap.size) (o := 4) (v := .int .i64 M.ag) (by go_cell)
      have m5 := kcb hb (b := w.heap.size) (o := 5) (v := .int .i64 M.wi) (by go_cell)
      have s0 := kcb hb (b := w.heap.size + 1) (o := 0) (v := .int .i64 s.pl) (by go_cell)
      have s1 := kcb hb (b := w.heap.size + 1) (o := 1) (v := .int .i64 s.wi) (by go_cell)
      have s2 := kcb hb (b := w.heap.size + 1) (o := 2) (v := .bool s.fl) (by go_cell)
      have s3 := kcb hb (b := w.heap.size + 1) (o := 3) (v := .int .i64 s.t) (by go_cell)
      have B1 : Bl w w1 := Below.trans (by go_grown) (hb.mono (by (try simp only [World.size_alloc, World.size_setCell]); omega))
      have l1 := ltb s3
      have zz1 := B1.size
      clear hb
      rw [Q.out]
      have ls1 := ltb s0
      have lm1 := ltb m0
      go_wp2_with fail
      refine (isState_any s _).mono ?_
      rintro q2 w2 ⟨rfl, hb⟩
      have m0 := kcb hb (b := w.heap.size) (o := 0) (v := .int .i64 M.no) (by go_cell)
      have m1 := kcb hb (b := w.heap.size) (o := 1) (v := .int .i64 M.hf) (by go_cell)
      have m2 := kcb hb (b := w.heap.size) (o := 2) (v := .int .i64 M.fu) (by go_cell)
      have m3 := kcb hb (b := w.heap.size) (o := 3) (v := .int .i64 M.la) (by go_cell)
      have m4 := kcb hb (b := w.heap.size) (o := 4) (v := .int .i64 M.ag) (by go_cell)
      have m5 := kcb hb (b := w.heap.size) (o := 5) (v := .int .i64 M.wi) (by go_cell)
      have s0 := kcb hb (b := w.heap.size + 1) (o := 0) (v := .int .i64 s.pl) (by go_cell)
      have s1 := kcb hb (b := w.heap.size + 1) (o := 1) (v := .int .i64 s.wi) (by go_cell)
      have s2 := kcb hb (b := w.heap.size + 1) (o := 2) (v := .bool s.fl) (by go_cell)
      have s3 := kcb hb (b := w.heap.size + 1) (o := 3) (v := .int .i64 s.t) (by go_cell)
      have B2 : Bl w w2 := Below.trans (by go_grown) (hb.mono (by (try simp only [World.size_alloc, World.size_setCell]); omega))
      have l2 := ltb s3
      have zz2 := B2.size
      clear hb
      rw [R.out]
      have ls2 := ltb s0
      have lm2 := ltb m0
      go_wp2_with fail
      refine (isTime_any t _).mono ?_
      rintro q3 w3 ⟨rfl, rfl⟩
      rw [QT.out]
      go_wp2_with fail
      go_ret2
      exact may_none HR.out B2

set_option maxRecDepth 100000 in
set_option maxHeartbeats 3200000 in
theorem rmay_bad (M : Mst) (s : Bal) (t : Int) (w : World) (h : ¬ (VM M ∧ VS s)) : Calls Try.prog 16 #[encM M, encB s, .int .i64 t] w (MayPost M s t w) := by
  have HR := Lib.hid (show mayR M s t = ([], 1) from if_neg h)
  by_cases q : VM M
  · have Q := Lib.hid (show decide (VM M) = true from decide_eq_true q)
    have R := Lib.hid (show decide (VS s) = false from decide_eq_false fun r => h ⟨q, r⟩)
    clear h q
    go_enter Try.func16, Try.ntmps16
    go_wp2_with fail
    refine (rvalidMast_any M _).mono ?_
    rintro q1 w1 ⟨rfl, hb⟩
    have m0 := kcb hb (b := w.heap.size) (o := 0) (v := .int .i64 M.no) (by go_cell)
    have m1 := kcb hb (b := w.heap.size) (o := 1) (v := .int .i64 M.hf) (by go_cell)
    have m2 := kcb hb (b := w.heap.size) (o := 2) (v := .int .i64 M.fu) (by go_cell)
    have m3 := kcb hb (b := w.heap.size) (o := 3) (v := .int .i64 M.la) (by go_cell)
    have m4 := kcb hb (b := w.heap.size) (o := 4) (v := .int .i64 M.ag) (by go_cell)
    have m5 := kcb hb (b := w.heap.size) (o := 5) (v := .int .i64 M.wi) (by go_cell)
    have s0 := kcb hb (b := w.heap.size + 1) (o := 0) (v := .int .i64 s.pl) (by go_cell)
    have s1 := kcb hb (b := w.heap.size + 1) (o := 1) (v := .int .i64 s.wi) (by go_cell)
    have s2 := kcb hb (b := w.heap.size + 1) (o := 2) (v := .bool s.fl) (by go_cell)
    have s3 := kcb hb (b := w.heap.size + 1) (o := 3) (v := .int .i64 s.t) (by go_cell)
    have B1 : Bl w w1 := Below.trans (by go_grown) (hb.mono (by (try simp only [World.size_alloc, World.size_setCell]); omega))
    have l1 := ltb s3
    have zz1 := B1.size
    clear hb
    rw [Q.out]
    have ls1 := ltb s0
    have lm1 := ltb m0
    go_wp2_with fail
    refine (rvalidB_any s _).mono ?_
    rintro q2 w2 ⟨rfl, hb⟩
    have m0 := kcb hb (b := w.heap.size) (o := 0) (v := .int .i64 M.no) (by go_cell)
    have m1 := kcb hb (b := w.heap.size) (o := 1) (v := .int .i64 M.hf) (by go_cell)
    have m2 := kcb hb (b := w.heap.size) (o := 2) (v := .int .i64 M.fu) (by go_cell)
    have m3 := kcb hb (b := w.heap.size) (o := 3) (v := .int .i64 M.la) (by go_cell)
    have m4 := kcb hb (b := w.heap.size) (o := 4) (v := .int .i64 M.ag) (by go_cell)
    have m5 := kcb hb (b := w.heap.size) (o := 5) (v := .int .i64 M.wi) (by go_cell)
    have s0 := kcb hb (b := w.heap.size + 1) (o := 0) (v := .int .i64 s.pl) (by go_cell)
    have s1 := kcb hb (b := w.heap.size + 1) (o := 1) (v := .int .i64 s.wi) (by go_cell)
    have s2 := kcb hb (b := w.heap.size + 1) (o := 2) (v := .bool s.fl) (by go_cell)
    have s3 := kcb hb (b := w.heap.size + 1) (o := 3) (v := .int .i64 s.t) (by go_cell)
    have B2 : Bl w w2 := Below.trans (by go_grown) (hb.mono (by (try simp only [World.size_alloc, World.size_setCell]); omega))
    have l2 := ltb s3
    have zz2 := B2.size
    clear hb
    rw [R.out]
    go_wp2_with fail
    go_ret2
    exact may_none HR.out B2
  · have Q := Lib.hid (show decide (VM M) = false from decide_eq_false q)
    clear h q
    go_enter Try.func16, Try.ntmps16
    go_wp2_with fail
    refine (rvalidMast_any M _).mono ?_
    rintro q1 w1 ⟨rfl, hb⟩
    have m0 := kcb hb (b := w.heap.size) (o := 0) (v := .int .i64 M.no) (by go_cell)
    have m1 := kcb hb (b := w.heap.size) (o := 1) (v := .int .i64 M.hf) (by go_cell)
    have m2 := kcb hb (b := w.heap.size) (o := 2) (v := .int .i64 M.fu) (by go_cell)
    have m3 := kcb hb (b := w.heap.size) (o := 3) (v := .int .i64 M.la) (by go_cell)
    have m4 := kcb hb (b := w.heap.size) (o := 4) (v := .int .i64 M.ag) (by go_cell)
    have m5 := kcb hb (b := w.heap.size) (o := 5) (v := .int .i64 M.wi) (by go_cell)
    have s0 := kcb hb (b := w.heap.size + 1) (o := 0) (v := .int .i64 s.pl) (by go_cell)
    have s1 := kcb hb (b := w.heap.size + 1) (o := 1) (v := .int .i64 s.wi) (by go_cell)
    have s2 := kcb hb (b := w.heap.size + 1) (o := 2) (v := .bool s.fl) (by go_cell)
    have s3 := kcb hb (b := w.heap.size + 1) (o := 3) (v := .int .i64 s.t) (by go_cell)
    have B1 : Bl w w1 := Below.trans (by go_grown) (hb.mono (by (try simp only [World.size_alloc, World.size_setCell]); omega))
    have l1 := ltb s3
    have zz1 := B1.size
    clear hb
    rw [Q.out]
    go_wp2_with fail
    go_ret2
    exact may_none HR.out B1
set_option maxRecDepth 100000 in
set_option maxHeartbeats 6400000 in
theorem rmay_ok (M : Mst) (s : Bal) (t : Int) (w : World) (hM : VM M) (hs : VS s) (h63 : -9223372036854775808 ≤ t ∧ t ≤ 9223372036854775807) : Calls Try.prog 16 #[encM M, encB s, .int .i64 t] w (MayPost M s t w) := by
  obtain ⟨i0, hi0, hz0, hz1, hz2⟩ := info_parts int_info
  have HI := Lib.hid (And.intro hi0 (And.intro hz0 (And.intro hz1 hz2)))
  clear hi0 hz0 hz1 hz2
  have Q := Lib.hid (show decide (VM M) = true from decide_eq_true hM)
  have R := Lib.hid (show decide (VS s) = true from decide_eq_true hs)
  have HM := Lib.hid hM
  have HS := Lib.hid hs
  have st0 := hs.t0
  have st1 := hs.t1
  by_cases ht : s.t ≤ t ∧ isT t
  · have HR := Lib.hid (show mayR M s t = (mayL M s t 6, 0) by unfold mayR; rw [if_pos ⟨hM, hs⟩, if_pos ht])
    have HT := Lib.hid ht
    obtain ⟨t0, t1, t2⟩ := ht
    have QT := Lib.hid (show decide (s.t ≤ t ∧ t ≤ 86399999) = true from decide_eq_true ⟨t0, by omega⟩)
    clear hM hs
    go_enter Try.func16, Try.ntmps16
    go_wp2_with fail
    refine (rvalidMast_any M _).mono ?_
    rintro q1 w1 ⟨rfl, hb⟩
    have m0 := kcb hb (b := w.heap.size) (o := 0) (v := .int .i64 M.no) (by go_cell)
    have m1 := kcb hb (b := w.heap.size) (o := 1) (v := .int .i64 M.hf) (by go_cell)
    have m2 := kcb hb (b := w.heap.size) (o := 2) (v := .int .i64 M.fu) (by go_cell)
    have m3 := kcb hb (b := w.heap.size) (o := 3) (v := .int .i64 M.la) (by go_cell)
    have m4 := kcb hb (b := w.heap.size) (o := 4) (v := .int .i64 M.ag) (by go_cell)
    have m5 := kcb hb (b := w.heap.size) (o := 5) (v := .int .i64 M.wi) (by go_cell)
    have s0 := kcb hb (b := w.heap.size + 1) (o := 0) (v := .int .i64 s.pl) (by go_cell)
    have s1 := kcb hb (b := w.heap.size + 1) (o := 1) (v := .int .i64 s.wi) (by go_cell)
    have s2 := kcb hb (b := w.heap.size + 1) (o := 2) (v := .bool s.fl) (by go_cell)
    have s3 := kcb hb (b := w.heap.size + 1) (o := 3) (v := .int .i64 s.t) (by go_cell)
    have B1 : Bl w w1 := Below.trans (by go_grown) (hb.mono (by (try simp only [World.size_alloc, World.size_setCell]); omega))
    have l1 := ltb s3
    have zz1 := B1.size
    clear hb
    rw [Q.out]
    have ls1 := ltb s0
    have lm1 := ltb m0
    go_wp2_with fail
    refine (rvalidB_any s _).mono ?_
    rintro q2 w2 ⟨rfl, hb⟩
    have m0 := kcb hb (b := w.heap.size) (o := 0) (v := .int .i64 M.no) (by go_cell)
    have m1 := kcb hb (b := w.heap.size) (o := 1) (v := .int .i64 M.hf) (by go_cell)
    have m2 := kcb hb (b := w.heap.size) (o := 2) (v := .int .i64 M.fu) (by go_cell)
    have m3 := kcb hb (b := w.heap.size) (o := 3) (v := .int .i64 M.la) (by go_cell)
    have m4 := kcb hb (b := w.heap.size) (o := 4) (v := .int .i64 M.ag) (by go_cell)
    have m5 := kcb hb (b := w.heap.size) (o := 5) (v := .int .i64 M.wi) (by go_cell)
    have s0 := kcb hb (b := w.heap.size + 1) (o := 0) (v := .int .i64 s.pl) (by go_cell)
    have s1 := kcb hb (b := w.heap.size + 1) (o := 1) (v := .int .i64 s.wi) (by go_cell)
    have s2 := kcb hb (b := w.heap.size + 1) (o := 2) (v := .bool s.fl) (by go_cell)
    have s3 := kcb hb (b := w.heap.size + 1) (o := 3) (v := .int .i64 s.t) (by go_cell)
    have B2 : Bl w w2 := Below.trans (by go_grown) (hb.mono (by (try simp only [World.size_alloc, World.size_setCell]); omega))
    have l2 := ltb s3
    have zz2 := B2.size
    clear hb
    rw [R.out]
    have ls2 := ltb s0
    have lm2 := ltb m0
    go_wp2_with fail
    refine (within4_any t s.t 86399999 _).mono ?_
    rintro q3 w3 ⟨rfl, rfl⟩
    rw [QT.out]
    go_wp2_with fail
    obtain ⟨V, hV⟩ : ∃ V, V = w2 := ⟨_, rfl⟩
    rw [← hV]
    have MV : MastAt V w.heap.size M := by rw [hV]; exact ⟨m0, m1, m2, m3, m4, m5⟩
    have SV : SAt V (w.heap.size + 1) s := by rw [hV]; exact ⟨s0, s1, s2, s3⟩
    have BV : Bl w V := by rw [hV]; exact B2
    clear hV B1 B2 m0 m1 m2 m3 m4 m5 s0 s1 s2 s3
    go_loopw [8, 9] (fun v kd wr => ∃ k : Nat, k ≤ 6 ∧ kd = .int .i64 ((k : Int) + 1) ∧ Hid (wr.ownsRow (w.heap.size + 2) 3 1 v (mayL M s t k).length (intC (mayL M s t k))) ∧ Hid (MastAt wr w.heap.size M) ∧ Hid (SAt wr (w.heap.size + 1) s) ∧ Bl w wr) (fun _ kd _ => 7 - (RowKit.intOf kd).toNat)
    case atStart => exact ⟨0, by omega, rfl, World.ownsRow_nil _ _ _ _, MV, SV, BV⟩
    case round =>
      obtain ⟨k, hk, rfl, HO, HMM, HSS, hB⟩ := hrel
      have zB := hB.size
      by_cases hlt : k < 6
      · obtain ⟨m0, m1, m2, m3, m4, m5⟩ := HMM.out
        obtain ⟨s0, s1, s2, s3⟩ := HSS.out
        have lm := ltb m0
        have ls := ltb s0
        have h6 : (k : Int) + 1 = 1 ∨ (k : Int) + 1 = 2 ∨ (k : Int) + 1 = 3 ∨ (k : Int) + 1 = 4 ∨ (k : Int) + 1 = 5 ∨ (k : Int) + 1 = 6 := by omega
        have H6 := Lib.hid h6
        clear h6
        by_cases hal : alw M s ((k : Int) + 1) t
        · have HA := Lib.hid (show decide (alw M s ((k : Int) + 1) t) = true from decide_eq_true hal)
          have HL := Lib.hid (show mayL M s t (k + 1) = mayL M s t k ++ [(k : Int) + 1] by rw [mayL, if_pos hal])
          have len := mayL_len M s t k
          clear hal
          go_wp2_with fail
          refine (rallowed_any M HM.out s t ((k : Int) + 1) 0 H6.out _).mono ?_
          rintro q4 w4 ⟨rfl, hb⟩
          rw [HA.out]
          have X4 : Bl wr w4 := Below.trans (by go_grown) (hb.mono (by (try simp only [World.size_alloc, World.size_setCell]); omega))
          have z4 := X4.size
          have HO4 := Lib.hid (own_bu HO.out X4)
          have B4 := hB.tr X4
          have hMM4 := Lib.hid (HMM.out.below X4)
          have hSS4 := Lib.hid (HSS.out.below X4)
          clear hb
          clear m0 m1 m2 m3 m4 m5 s0 s1 s2 s3
          have hnew := Lib.hid (show (w4.alloc (.cells #[.int .i64 ((k : Int) + 1)] 3)).heap[w4.heap.size]? = some (.cells #[.int .i64 ((k : Int) + 1)] 3 (0, 0)) by have h := heap_alloc_new w4 (.cells #[.int .i64 ((k : Int) + 1)] 3); (try rw [World.size_alloc] at h); exact h)
          go_wp2_with (at_builtin; refine wpList_append_lies _ rfl _ _ _ rfl (w.heap.size + 2) 3 i0 _ 1 8 Try.underlying35 HI.out.1 HI.out.2.1 HI.out.2.2.1 HI.out.2.2.2 rfl (by omega) _ (mayL M s t k).length (intC (mayL M s t k)) rfl (HO4.out.alloc _) ⟨w4.heap.size, 0, none⟩ 1 1 [.int .i64 ((k : Int) + 1)] rfl rfl (World.news_of_block hnew.out) (by simp [Value.oneCell']) (by omega) (by unfold maxLen; omega) (by omega) (by (try simp only [World.size_alloc]); omega) _ rfl ?_; intro gg cap w9 hown1 hgrow hat hlt9)
          have HO9 := Lib.hid (show w9.ownsRow (w.heap.size + 2) 3 1 (.slice (some ⟨gg, 0, none⟩) ((mayL M s t k).length + 1) cap) (mayL M s t (k + 1)).length (intC (mayL M s t (k + 1))) by
            rw [HL.out, intC_snoc, List.length_append, List.length_singleton]; exact hown1)
          have hl := HO.out.lt
          have X9 : Below (w.heap.size + 2) w4 w9 := Below.grown (w := w4.alloc (.cells #[.int .i64 ((k : Int) + 1)] 3)) (by go_grown) hgrow (by (try simp only [World.size_alloc]); omega) (fun j hj => (hl j hj).1)
          go_roundw
          case rel => exact ⟨k + 1, by omega, by go_num, HO9.out, (hMM4.out).b2 X9 (by omega), (hSS4.out).b2 X9 (by omega), by first | exact B4.tr (X9.mono (by omega)) | (refine Below.trans (B4.tr (by go_grown)) (X9.mono ?_); omega)⟩
          case measure => simp [RowKit.intOf]; omega
        · have HA := Lib.hid (show decide (alw M s ((k : Int) + 1) t) = false from decide_eq_false hal)
          have HL := Lib.hid (show mayL M s t (k + 1) = mayL M s t k by rw [mayL, if_neg hal])
          clear hal
          go_wp2_with fail
          refine (rallowed_any M HM.out s t ((k : Int) + 1) 0 H6.out _).mono ?_
          rintro q4 w4 ⟨rfl, hb⟩
          rw [HA.out]
          have X4 : Bl wr w4 := Below.trans (by go_grown) (hb.mono (by (try simp only [World.size_alloc, World.size_setCell]); omega))
          have z4 := X4.size
          have HO4 := Lib.hid (own_bu HO.out X4)
          clear hb
          clear m0 m1 m2 m3 m4 m5 s0 s1 s2 s3
          go_wp2_with fail
          have X5 : Bl wr w4 := X4.tr (by first | exact Bl.rf _ | go_grown)
          go_roundw
          case rel => exact ⟨k + 1, by omega, by go_num, by rw [HL.out]; exact own_bu HO.out X5, HMM.out.below X5, HSS.out.below X5, hB.tr X5⟩
          case measure => simp [RowKit.intOf]; omega
      · obtain rfl : k = 6 := by omega
        go_wp2_with fail
        go_ret2
        exact may_some HR.out HO.out hB
  · have HR := Lib.hid (show mayR M s t = ([], 7) by unfold mayR; rw [if_pos ⟨hM, hs⟩, if_neg ht])
    have QT := Lib.hid (show decide (s.t ≤ t ∧ t ≤ 86399999) = false from decide_eq_false fun r => ht ⟨r.1, by omega, by omega⟩)
    clear hM hs ht
    go_enter Try.func16, Try.ntmps16
    go_wp2_with fail
    refine (rvalidMast_any M _).mono ?_
    rintro q1 w1 ⟨rfl, hb⟩
    have m0 := kcb hb (b := w.heap.size) (o := 0) (v := .int .i64 M.no) (by go_cell)
    have m1 := kcb hb (b := w.heap.size) (o := 1) (v := .int .i64 M.hf) (by go_cell)
    have m2 := kcb hb (b := w.heap.size) (o := 2) (v := .int .i64 M.fu) (by go_cell)
    have m3 := kcb hb (b := w.heap.size) (o := 3) (v := .int .i64 M.la) (by go_cell)
    have m4 := kcb hb (b := w.heap.size) (o := 4) (v := .int .i64 M.ag) (by go_cell)
    have m5 := kcb hb (b := w.heap.size) (o := 5) (v := .int .i64 M.wi) (by go_cell)
    have s0 := kcb hb (b := w.heap.size + 1) (o := 0) (v := .int .i64 s.pl) (by go_cell)
    have s1 := kcb hb (b := w.heap.size + 1) (o := 1) (v := .int .i64 s.wi) (by go_cell)
    have s2 := kcb hb (b := w.heap.size + 1) (o := 2) (v := .bool s.fl) (by go_cell)
    have s3 := kcb hb (b := w.heap.size + 1) (o := 3) (v := .int .i64 s.t) (by go_cell)
    have B1 : Bl w w1 := Below.trans (by go_grown) (hb.mono (by (try simp only [World.size_alloc, World.size_setCell]); omega))
    have l1 := ltb s3
    have zz1 := B1.size
    clear hb
    rw [Q.out]
    have ls1 := ltb s0
    have lm1 := ltb m0
    go_wp2_with fail
    refine (rvalidB_any s _).mono ?_
    rintro q2 w2 ⟨rfl, hb⟩
    have m0 := kcb hb (b := w.heap.size) (o := 0) (v := .int .i64 M.no) (by go_cell)
    have m1 := kcb hb (b := w.heap.size) (o := 1) (v := .int .i64 M.hf) (by go_cell)
    have m2 := kcb hb (b := w.heap.size) (o := 2) (v := .int .i64 M.fu) (by go_cell)
    have m3 := kcb hb (b := w.heap.size) (o := 3) (v := .int .i64 M.la) (by go_cell)
    have m4 := kcb hb (b := w.heap.size) (o := 4) (v := .int .i64 M.ag) (by go_cell)
    have m5 := kcb hb (b := w.heap.size) (o := 5) (v := .int .i64 M.wi) (by go_cell)
    have s0 := kcb hb (b := w.heap.size + 1) (o := 0) (v := .int .i64 s.pl) (by go_cell)
    have s1 := kcb hb (b := w.heap.size + 1) (o := 1) (v := .int .i64 s.wi) (by go_cell)
    have s2 := kcb hb (b := w.heap.size + 1) (o := 2) (v := .bool s.fl) (by go_cell)
    have s3 := kcb hb (b := w.heap.size + 1) (o := 3) (v := .int .i64 s.t) (by go_cell)
    have B2 : Bl w w2 := Below.trans (by go_grown) (hb.mono (by (try simp only [World.size_alloc, World.size_setCell]); omega))
    have l2 := ltb s3
    have zz2 := B2.size
    clear hb
    rw [R.out]
    have ls2 := ltb s0
    have lm2 := ltb m0
    go_wp2_with fail
    refine (within4_any t s.t 86399999 _).mono ?_
    rintro q3 w3 ⟨rfl, rfl⟩
    rw [QT.out]
    go_wp2_with fail
    go_ret2
    exact may_none HR.out B2

end Go.Proofs.Ytoigbppnfjmojaa
