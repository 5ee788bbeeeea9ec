/-
  Contracts of the texts of lists of stars: written.
-/
import Derived.Test.YtlpbmcnojkhdcaaDoorTZ
namespace Go.Proofs.YtlpbmcnojkhdcaaDoor
open Go.RowKit Go.Lib
set_option linter.unusedSimpArgs false
set_option linter.unusedVariables false

/-- A slice of stars reads as a function. -/
def Stl (w : World) (A : Option Addr) (n : Nat) (T : Nat → Sta) : Prop :=
  0 < n → ∃ b off, A = some ⟨b, off, none⟩ ∧ b < w.heap.size ∧ ∀ j, j < n →
    w.cell? ⟨b, off + j * 4, none⟩ = some (.string (T j).s) ∧ w.cell? ⟨b, off + j * 4 + 1, none⟩ = some (.int .i64 (T j).a) ∧ w.cell? ⟨b, off + j * 4 + 2, none⟩ = some (.int .i64 (T j).h) ∧ w.cell? ⟨b, off + j * 4 + 3, none⟩ = some (.int .i64 (T j).l)
theorem Stl.below {w w' : World} {A : Option Addr} {n : Nat} {T : Nat → Sta} (h : Stl w A n T) (hb : Bl w w') : Stl w' A n T := fun hn => by
  obtain ⟨b, off, e, hlt, hc⟩ := h hn
  exact ⟨b, off, e, Nat.lt_of_lt_of_le hlt hb.size, fun j hj => by
    obtain ⟨c0, c1, c2, c3⟩ := hc j hj
    exact ⟨kcz hb c0, kcz hb c1, kcz hb c2, kcz hb c3⟩⟩
theorem isB_bl {T e : TypeId} {B b : Nat} {bs : List Value} {w w' : World} (h : IsBuilder T e B b bs w) (hb : Bl w w') : IsBuilder T e B b bs w' := by
  have step : ∀ p, BuilderAt T e B b p bs w → BuilderAt T e B b p bs w' := fun p ⟨h1, v, h2, h3, h4⟩ => by
    have hlt : b < w.heap.size := by
      rcases Nat.lt_or_ge b w.heap.size with h' | h'
      · exact h'
      · rw [Array.getElem?_eq_none h'] at h2; cases h2
    have hg : w.grownBy w' none := ⟨hb.os, hb.tape, hb.output, hb.size, fun i hi _ => hb.block i hi⟩
    refine ⟨h1, v, (hb.block b hlt).trans h2, h3.kept hg ?_, h4⟩
    cases hv : v.ownBlock with
    | none => exact .inl rfl
    | some k => exact .inr (by simp)
  exact h.elim (fun h => .inl (step _ h)) (fun h => .inr (step _ h))
theorem wrStr (B b : Nat) (bs : List Value) (s : ByteArray) (w : World) (h : Lib.IsBuilder 56 5 B b bs w) (hlen : bs.length + s.size ≤ 140737488355328) (hBw : B ≤ w.heap.size) :
    Calls Tryd.prog 20 #[.pointer (some ⟨b, 0, none⟩), .string s] w fun e w' => e = .returned (.tuple #[.int .i64 s.size, .nilIface]) ∧ (Lib.BuilderAt 56 5 B b (.pointer (some ⟨b, 0, none⟩)) (bs ++ Lib.strCells s) w' ∧ Below B w w') := Any.Builder_WriteString { Tryd.lays156 with } Tryd.Builder_Extra_156 B b bs s w h hlen hBw
theorem cells_snoc (l m : Str) (s : ByteArray) (h : s.data.toList = m) : byteCells l ++ strCells s = byteCells (l ++ m) := by
  subst h; simp [byteCells, strCells]
theorem vSta_bd {x : Sta} (h : vSta x = true) : -9223372036854775808 ≤ x.a ∧ x.a ≤ 9223372036854775807 ∧ -9223372036854775808 ≤ x.h ∧ x.h ≤ 9223372036854775807 ∧ -9223372036854775808 ≤ x.l ∧ x.l ≤ 9223372036854775807 ∧ x.s.size ≤ 16 := by
  have hb := stB_bd h
  have hn := stB_nm h
  simp only [nmB, Bool.and_eq_true, decide_eq_true_eq] at hn
  omega

set_option maxRecDepth 100000 in
set_option maxHeartbeats 1600000 in
theorem rformat_any (A : Option Addr) (n c : Nat) (T : Nat → Sta) (w : World) (hn : n ≤ maxLen) (hs : ∀ j, j < n → (T j).s.size ≤ maxLen) (hA : Stl w A n T) (g : Gv w) :
    Calls Tryd.prog 8 #[.slice A n c] w fun e w' => e = .returned (.string ⟨(fmtF n T).toArray⟩) ∧ Bl w w' := by
  have HG := Lib.hid g
  have HS := Lib.hid hs
  have HA := Lib.hid hA
  clear g hs hA
  unfold maxLen at hn
  go_enter Tryd.func8, Tryd.ntmps8
  go_wp2_with fail
  go_loopw [3, 8] (fun o i wr => ∃ k : Nat, k ≤ n ∧ i = .int .i64 k ∧ o = .string ⟨(fmK T k).toArray⟩ ∧ Hid (vTo T k = true) ∧ Hid (k = 0 ∨ n ≤ 100) ∧ Bl w wr) (fun _ i _ => n - (RowKit.intOf i).toNat)
  case atStart => exact ⟨0, Nat.zero_le _, rfl, rfl, rfl, .inl rfl, Bl.rf _⟩
  case round =>
    obtain ⟨k, hk, rfl, rfl, HV, HK, hB⟩ := hrel
    have zB := hB.size
    by_cases hlt : k < n
    · obtain ⟨b, off, rfl, hbb, hc⟩ := (HA.out.below hB) (by omega)
      obtain ⟨c0, c1, c2, c3⟩ := hc k hlt
      clear hc
      obtain ⟨x, hx⟩ : ∃ x, x = T k := ⟨_, rfl⟩
      rw [← hx] at c0 c1 c2 c3
      have HX := Lib.hid hx
      have HSX := Lib.hid (show x.s.size ≤ maxLen by rw [hx]; exact HS.out k hlt)
      clear hx
      by_cases q : vSta x = true
      · have Q := Lib.hid q
        obtain ⟨a1, a2, h1, h2, l1, l2, s16⟩ := vSta_bd q
        clear q
        by_cases h100 : n ≤ 100
        · have HL := Lib.hid (fmK_len HV.out)
          have HE := Lib.hid (show fmK T (k + 1) = fmK T k ++ (lineS x ++ [10]) by rw [fmK, ← HX.out])
          have HY := Lib.hid (show vTo T (k + 1) = true by rw [vTo, HV.out, ← HX.out, Q.out]; rfl)
          have k1 := add_run (a := ⟨(fmK T k).toArray⟩) (b := ⟨(lineS x ++ [10]).toArray⟩) (c := ⟨(fmK T (k + 1)).toArray⟩) (ba_ext (by rw [app_data, HE.out])) (by
            have e1 := mk_size (fmK T k)
            have e2 := mk_size (lineS x ++ [10])
            have e3 := line_len Q.out
            have e4 := HL.out
            rw [List.length_append, List.length_singleton] at e2
            rw [e1, e2]; omega)
          have q0 : ¬ ((n : Int) > 100) := by omega
          go_wp2_with fail
          refine (rvalidStar_any x.s x.a x.h x.l _ HSX.out).mono ?_
          rintro e1 w1 ⟨rfl, hb⟩
          have y0 := kcz hb (b := wr.heap.size) (o := 0) (v := .string x.s) (by go_cell)
          have y1 := kcz hb (b := wr.heap.size) (o := 1) (v := .int .i64 x.a) (by go_cell)
          have y2 := kcz hb (b := wr.heap.size) (o := 2) (v := .int .i64 x.h) (by go_cell)
          have y3 := kcz hb (b := wr.heap.size) (o := 3) (v := .int .i64 x.l) (by go_cell)
          have B1 : Bl w w1 := Below.trans (by go_grown) (hb.mono (by (try simp only [World.size_alloc]); omega))
          have z1 := B1.size
          clear hb
          rw [show stB x.s x.a x.h x.l = true from Q.out]
          go_wp2_with fail
          refine (line3_any x.s x.a x.h x.l _ (HG.out.below (by go_grown)) a1 a2 h1 h2 l1 l2 (by omega)).mono ?_
          rintro e2 w2 ⟨rfl, hb⟩
          have B2 : Bl w w2 := Below.trans (by go_grown) (hb.mono (by (try simp only [World.size_alloc]); omega))
          clear hb
          go_wp2_with fail
          go_roundw
          case rel => exact ⟨k + 1, by omega, by go_num, rfl, HY.out, .inr h100, B2⟩
          case measure => simp [RowKit.intOf]; omega
        · have q0 : (n : Int) > 100 := by omega
          have HF := Lib.hid (show fmtF n T = [] by rw [fmtF, if_neg]; simp [h100])
          go_wp2_with fail
          refine (rvalidStar_any x.s x.a x.h x.l _ HSX.out).mono ?_
          rintro e1 w1 ⟨rfl, hb⟩
          have B1 : Bl w w1 := Below.trans (by go_grown) (hb.mono (by (try simp only [World.size_alloc]); omega))
          clear hb
          rw [show stB x.s x.a x.h x.l = true from Q.out]
          go_wp2_with fail
          go_ret
          exact ⟨by rw [HF.out]; rfl, B1⟩
      · have Q := Lib.hid (show vSta x = false by simpa using q)
        have HF := Lib.hid (show fmtF n T = [] by rw [fmtF, if_neg]; rw [vTo_no T hlt (by rw [← HX.out]; exact Q.out)]; simp)
        clear q
        go_wp2_with fail
        refine (rvalidStar_any x.s x.a x.h x.l _ HSX.out).mono ?_
        rintro e1 w1 ⟨rfl, hb⟩
        have B1 : Bl w w1 := Below.trans (by go_grown) (hb.mono (by (try simp only [World.size_alloc]); omega))
        clear hb
        rw [show stB x.s x.a x.h x.l = false from Q.out]
        go_wp2_with fail
        go_ret
        exact ⟨by rw [HF.out]; rfl, B1⟩
    · obtain rfl : n = k := by omega
      have HF := Lib.hid (show fmtF n T = fmK T n by
        rcases HK.out with h | h
        · subst h; rfl
        · rw [fmtF, if_pos]; simp [h, HV.out])
      go_wp2_with fail
      go_ret
      exact ⟨by rw [HF.out]; rfl, hB⟩

set_option maxRecDepth 100000 in
set_option maxHeartbeats 1600000 in
theorem format_any (A : Option Addr) (n c : Nat) (T : Nat → Sta) (w : World) (hn : n ≤ maxLen) (hs : ∀ j, j < n → (T j).s.size ≤ maxLen) (hA : Stl w A n T) (g : Gv w) :
    Calls Tryd.prog 7 #[.slice A n c] w fun e w' => e = .returned (.string ⟨(fmtF n T).toArray⟩) ∧ Bl w w' := by
  have HG := Lib.hid g
  have HS := Lib.hid hs
  have HA := Lib.hid hA
  clear g hs hA
  unfold maxLen at hn
  by_cases h100 : n ≤ 100
  · have HI := Lib.hid (Lib.fresh_isBuilder 56 5 w)
    go_enter Tryd.func7, Tryd.ntmps7
    go_wp2_with fail
    go_loopw [11] (fun i wr => ∃ k : Nat, k ≤ n ∧ i = .int .i64 k ∧ Hid (vTo T k = true) ∧ Hid (IsBuilder 56 5 w.heap.size w.heap.size (byteCells (fmK T k)) wr) ∧ Bl w wr ∧ w.heap.size < wr.heap.size) (fun i _ => n - (RowKit.intOf i).toNat)
    case atStart => exact ⟨0, Nat.zero_le _, rfl, rfl, HI.out, by go_grown, by simp⟩
    case round =>
      obtain ⟨k, hk, rfl, HV, HB, hB, zB⟩ := hrel
      by_cases hlt : k < n
      · obtain ⟨b, off, rfl, hbb, hc⟩ := (HA.out.below hB) (by omega)
        obtain ⟨c0, c1, c2, c3⟩ := hc k hlt
        clear hc
        obtain ⟨x, hx⟩ : ∃ x, x = T k := ⟨_, rfl⟩
        rw [← hx] at c0 c1 c2 c3
        have HX := Lib.hid hx
        have HSX := Lib.hid (show x.s.size ≤ maxLen by rw [hx]; exact HS.out k hlt)
        clear hx
        by_cases q : vSta x = true
        · have Q := Lib.hid q
          obtain ⟨a1, a2, h1, h2, l1, l2, s16⟩ := vSta_bd q
          clear q
          have HL := Lib.hid (fmK_len HV.out)
          have HE := Lib.hid (show fmK T (k + 1) = fmK T k ++ (lineS x ++ [10]) by rw [fmK, ← HX.out])
          have HY := Lib.hid (show vTo T (k + 1) = true by rw [vTo, HV.out, ← HX.out, Q.out]; rfl)
          have e3 := line_len Q.out
          have k1 := add_run (a := ⟨(lineS x).toArray⟩) (b := ⟨#[10]⟩) (c := ⟨(lineS x ++ [10]).toArray⟩) (ba_ext (by rw [app_data])) (by
            have e1 := mk_size (lineS x)
            have e2 : (⟨#[10]⟩ : ByteArray).size = 1 := rfl
            rw [e1, e2]; omega)
          have HZ := Lib.hid (mk_size (lineS x ++ [10]))
          clear e3
          go_wp2_with fail
          refine (validStar_any x.s x.a x.h x.l _ HSX.out).mono ?_
          rintro e1 w1 ⟨rfl, hb⟩
          have y0 := kcz hb (b := wr.heap.size) (o := 0) (v := .string x.s) (by go_cell)
          have y1 := kcz hb (b := wr.heap.size) (o := 1) (v := .int .i64 x.a) (by go_cell)
          have y2 := kcz hb (b := wr.heap.size) (o := 2) (v := .int .i64 x.h) (by go_cell)
          have y3 := kcz hb (b := wr.heap.size) (o := 3) (v := .int .i64 x.l) (by go_cell)
          have BR : Bl wr w1 := Below.trans (by go_grown) (hb.mono (by (try simp only [World.size_alloc]); omega))
          have z1 := BR.size
          clear hb
          rw [show stB x.s x.a x.h x.l = true from Q.out]
          go_wp2_with fail
          refine (lineOf_any x.s x.a x.h x.l _ (HG.out.below (hB.tr BR)) a1 a2 h1 h2 l1 l2 (by omega)).mono ?_
          rintro e2 w2 ⟨rfl, hb⟩
          have BR2 : Bl wr w2 := BR.tr hb
          have z2 := BR2.size
          clear hb
          go_wp2_with fail
          refine (wrStr w.heap.size w.heap.size _ _ _ (isB_bl HB.out BR2) (by rw [byteCells_length]; have := HL.out; have := HZ.out; have := line_len Q.out; rw [List.length_append, List.length_singleton] at *; omega) (by omega)).mono ?_
          rintro e4 w4 ⟨rfl, hb4, hb5⟩
          have HB4 := Lib.hid (show IsBuilder 56 5 w.heap.size w.heap.size (byteCells (fmK T (k + 1))) w4 from by
            rw [HE.out, ← cells_snoc (fmK T k) (lineS x ++ [10]) ⟨(lineS x ++ [10]).toArray⟩ rfl]; exact .inr hb4)
          have B4 : Bl w w4 := (hB.tr BR2).trans hb5
          have z4 := hb5.size
          clear hb4 hb5
          go_wp2_with fail
          go_roundw
          case rel => exact ⟨k + 1, by omega, by go_num, HY.out, HB4.out, B4, by omega⟩
          case measure => simp [RowKit.intOf]; omega
        · have Q := Lib.hid (show vSta x = false by simpa using q)
          have HF := Lib.hid (show fmtF n T = [] by rw [fmtF, if_neg]; rw [vTo_no T hlt (by rw [← HX.out]; exact Q.out)]; simp)
          clear q
          go_wp2_with fail
          refine (validStar_any x.s x.a x.h x.l _ HSX.out).mono ?_
          rintro e1 w1 ⟨rfl, hb⟩
          have B1 : Bl w w1 := Below.trans (by go_grown) (hb.mono (by (try simp only [World.size_alloc]); omega))
          clear hb
          rw [show stB x.s x.a x.h x.l = false from Q.out]
          go_wp2_with fail
          go_ret
          exact ⟨by rw [HF.out]; rfl, B1⟩
      · obtain rfl : n = k := by omega
        have HF := Lib.hid (show fmtF n T = fmK T n by rw [fmtF, if_pos]; simp [h100, HV.out])
        go_wp2_with fail
        refine (Tryd.Builder_String_any w.heap.size w.heap.size _ _ HB.out (by omega)).mono ?_
        rintro e1 w1 ⟨rfl, hb⟩
        go_wp2_with fail
        go_ret
        exact ⟨by rw [HF.out]; rfl, hB.trans hb⟩
  · have HF := Lib.hid (show fmtF n T = [] by rw [fmtF, if_neg]; simp [h100])
    go_enter Tryd.func7, Tryd.ntmps7
    go_wp2_with fail
    go_ret
    exact ⟨by rw [HF.out]; rfl, Bl.rf _⟩
end Go.Proofs.YtlpbmcnojkhdcaaDoor
