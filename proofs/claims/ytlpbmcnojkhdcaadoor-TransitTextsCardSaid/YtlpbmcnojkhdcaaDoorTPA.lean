/-
  Contracts of the texts of lists of stars: read.
-/
import Derived.Test.YtlpbmcnojkhdcaaDoorTW
import Derived.Deep.AppendLies
namespace Go.Proofs.YtlpbmcnojkhdcaaDoor
open Go.RowKit Go.Lib
set_option linter.unusedSimpArgs false
set_option linter.unusedVariables false

def zeroS : Sta := ⟨⟨#[]⟩, 0, 0, 0⟩
def cellsS (x : Sta) : List Value := [.string x.s, .int .i64 x.a, .int .i64 x.h, .int .i64 x.l]
def starCells : List Sta → List Value
  | [] => []
  | x :: r => cellsS x ++ starCells r
theorem sc_len (l : List Sta) : (starCells l).length = l.length * 4 := by
  induction l with
  | nil => rfl
  | cons x l ih => simp only [starCells, cellsS, List.length_append, List.length_cons, List.length_nil, ih]; omega
theorem sc_snoc (l : List Sta) (x : Sta) : starCells (l ++ [x]) = starCells l ++ cellsS x := by
  induction l with
  | nil => simp [starCells]
  | cons y l ih => simp [starCells, ih]
theorem sc_at : ∀ (l : List Sta) (j i : Nat), j < l.length → i < 4 → (starCells l)[j * 4 + i]? = (cellsS (l.getD j zeroS))[i]?
  | [], j, i, h, _ => by simp at h
  | x :: l, 0, i, _, hi => by
    simp only [starCells, Nat.zero_mul, Nat.zero_add]
    rw [List.getElem?_append_left (by simp [cellsS]; omega)]
    simp
  | x :: l, j + 1, i, h, hi => by
    simp only [starCells]
    rw [List.getElem?_append_right (by simp [cellsS]; omega)]
    rw [show (j + 1) * 4 + i - (cellsS x).length = j * 4 + i by simp only [cellsS, List.length_cons, List.length_nil]; omega]
    rw [sc_at l j i (by simpa using h) hi]
    simp
theorem own_shape {w : World} {base : Nat} {e : TypeId} {size : Nat} {v : Value} {n : Nat} {xs : List Value} (h : w.ownsRow base e size v n xs) : ∃ A c, v = .slice A n c := by
  rcases h.2 with ⟨hv, h0⟩ | ⟨g, cap, cur, hv, _⟩
  · exact ⟨none, 0, by rw [hv, h0]⟩
  · exact ⟨_, _, hv⟩
theorem stl_of_own {w : World} {base : Nat} {e : TypeId} {A : Option Addr} {c : Nat} {l : List Sta} (h : w.ownsRow base e 4 (.slice A l.length c) l.length (starCells l)) : Stl w A l.length (fun j => l.getD j zeroS) := fun hn => by
  obtain ⟨g, cap, hv, hg, hlt⟩ := h.form hn
  obtain rfl : A = some ⟨g, 0, none⟩ := by injection hv
  have hat : ∀ j i, j < l.length → i < 4 → w.cell? ⟨g, 0 + j * 4 + i, none⟩ = (cellsS (l.getD j zeroS))[i]? := fun j i hj hi => by
    rw [Nat.zero_add, h.cellAt (j * 4 + i) (by omega), sc_at l j i hj hi]
  exact ⟨g, 0, rfl, hlt, fun j hj => ⟨hat j 0 hj (by omega), hat j 1 hj (by omega), hat j 2 hj (by omega), hat j 3 hj (by omega)⟩⟩
theorem star_info : (Tryd.prog.info? 25).map (fun i => (i.zero, i.size, i.bytes)) = some (some (.agg #[.string ⟨#[]⟩, .int .i64 0, .int .i64 0, .int .i64 0]), 4, 40) := by kernel_rfl
theorem cut_no {s : ByteArray} (h : indexByte s.data.toList 10 < 0) : cut s.data.toList (⟨#[10]⟩ : ByteArray).data.toList = (s.data.toList, [], false) := by
  unfold cut
  rw [show (⟨#[10]⟩ : ByteArray).data.toList = [10] from rfl, index_one, if_neg (by omega)]
theorem cut_yes {s : ByteArray} (h : ¬ indexByte s.data.toList 10 < 0) : cut s.data.toList (⟨#[10]⟩ : ByteArray).data.toList = (s.data.toList.take (indexByte s.data.toList 10).toNat, s.data.toList.drop ((indexByte s.data.toList 10).toNat + 1), true) := by
  unfold cut
  rw [show (⟨#[10]⟩ : ByteArray).data.toList = [10] from rfl, index_one, if_pos (by omega)]
  rfl
theorem take_ext (s : ByteArray) (k : Nat) : (⟨(s.data.toList.take k).toArray⟩ : ByteArray) = s.extract 0 k := ba_ext (by rw [extract_data]; simp)
theorem drop_ext (s : ByteArray) (k : Nat) : (⟨(s.data.toList.drop k).toArray⟩ : ByteArray) = s.extract k s.size := ba_ext (by rw [extract_to_end])
theorem ext_sz (s : ByteArray) (a b : Nat) (h : b ≤ s.size) : (s.extract a b).size = b - a := by rw [ByteArray.size_extract]; omega
theorem ib_lt {l : Str} {c : UInt8} (h : ¬ indexByte l c < 0) : (indexByte l c).toNat < l.length := by
  obtain ⟨o, ho⟩ : ∃ o : Nat, indexByte l c = o := ⟨(indexByte l c).toNat, by omega⟩
  have h1 := (indexByte_some ho).1
  rw [ho, Int.toNat_natCast]
  exact (List.getElem?_eq_some_iff.1 h1).1
/-- What Parse returns. -/
def PaPost (s : ByteArray) (w : World) (e : Ending) (w' : World) : Prop :=
  ∃ A c, e = .returned (.tuple #[.slice A (parseF s).1.length c, .int .i64 ((parseF s).2.1 : Nat), .int .i64 ((parseF s).2.2 : Nat)]) ∧ Stl w' A (parseF s).1.length (fun j => (parseF s).1.getD j zeroS) ∧ Bl w w'
theorem pa_none {s : ByteArray} {w w' : World} {k e : Nat} (h : parseF s = ([], k, e)) (hb : Bl w w') : PaPost s w (.returned (.tuple #[.slice none 0 0, .int .i64 (k : Nat), .int .i64 (e : Nat)])) w' :=
  ⟨none, 0, by rw [h]; rfl, by rw [h]; exact fun hn => absurd hn (by simp), hb⟩
theorem pa_some {s : ByteArray} {w w' : World} {A : Option Addr} {c : Nat} {l : List Sta} (h : parseF s = (l, 0, 0)) (hs : Stl w' A l.length (fun j => l.getD j zeroS)) (hb : Bl w w') : PaPost s w (.returned (.tuple #[.slice A l.length c, .int .i64 0, .int .i64 0])) w' :=
  ⟨A, c, by rw [h]; rfl, by rw [h]; exact hs, hb⟩

theorem own_bl {w w' : World} {base : Nat} {e : TypeId} {size : Nat} {v : Value} {n : Nat} {xs : List Value} (h : w.ownsRow base e size v n xs) (hb : Bl w w') : w'.ownsRow base e size v n xs := by
  have hg : w.grownBy w' none := ⟨hb.os, hb.tape, hb.output, hb.size, fun i hi _ => hb.block i hi⟩
  refine h.kept hg ?_
  cases hv : v.ownBlock with
  | none => exact .inl rfl
  | some k => exact .inr (by simp)
theorem two_new (u : World) (C : Array Value) (t : TypeId) : ((u.alloc (.cells C t)).alloc (.cells C t)).heap[u.heap.size + 1]? = some (.cells C t (0, 0)) := by
  have := heap_alloc_new (u.alloc (.cells C t)) (.cells C t)
  rwa [World.size_alloc] at this

set_option maxRecDepth 100000 in
set_option maxHeartbeats 3200000 in
theorem parse_any (s : ByteArray) (w : World) (hs : s.size ≤ maxLen) (g : Gv w) : Calls Tryd.prog 5 #[.string s] w (PaPost s w) := by
  have HG := Lib.hid g
  clear g
  unfold maxLen at hs
  obtain ⟨mm, hml⟩ := HG.out.ml
  have HML := Lib.hid hml
  clear hml
  by_cases hbig : 65536 < s.size
  · have HF := Lib.hid (show parseF s = ([], 0, 3) by rw [parseF, if_pos hbig])
    go_enter Tryd.func5, Tryd.ntmps5
    go_wp2_with fail
    go_ret3
    exact pa_none HF.out (Bl.rf _)
  · have hsm : s.size ≤ 65536 := by omega
    clear hbig
    obtain ⟨i0, hi0, hz0, hz1, hz2⟩ := info_parts star_info
    have HI := Lib.hid (And.intro hi0 (And.intro hz0 (And.intro hz1 hz2)))
    clear hi0 hz0 hz1 hz2
    have HF := Lib.hid (show parseF s = parseT (s.size + 1) [] s by rw [parseF, if_neg (by omega)])
    go_enter Tryd.func5, Tryd.ntmps5
    go_wp2_with fail
    go_loopw [0, 2] (fun x v wr => ∃ (acc : List Sta) (cur : ByteArray) (f : Nat), x = .string cur ∧ Hid (parseT f acc cur = parseF s) ∧ cur.size < f ∧ acc.length ≤ 100 ∧ cur.size ≤ 65536 ∧ Hid (wr.ownsRow w.heap.size 25 4 v acc.length (starCells acc)) ∧ Bl w wr) (fun x _ _ => match x with | .string b => b.size | _ => 0)
    case atStart => exact ⟨[], s, s.size + 1, rfl, HF.out.symm, Nat.lt_succ_self _, by simp, hsm, ⟨by simp [starCells], .inl ⟨rfl, rfl⟩⟩, Bl.rf _⟩
    case round =>
      obtain ⟨acc, cur, f, rfl, HP, hf, ha, hc, HO, hB⟩ := hrel
      have zB := hB.size
      obtain ⟨A, c, rfl⟩ := own_shape HO.out
      have HM2 := Lib.hid (kcz hB HML.out)
      by_cases h0 : cur.size = 0
      · have e1 : cur.toList = [] := by rw [ByteArray.toList_eq]; exact List.eq_nil_of_length_eq_zero (by simpa using h0)
        have HR := Lib.hid (show parseF s = (acc, 0, 0) by
          rw [← HP.out]
          cases f with
          | zero => omega
          | succ f => rw [parseT, if_pos h0])
        clear h0
        go_wp2_with fail
        go_ret3
        exact pa_some HR.out (stl_of_own HO.out) hB
      · have H0 := Lib.hid h0
        have e1 : cur.toList.isEmpty = false := by
          rw [ByteArray.toList_eq]
          cases h : cur.data.toList with
          | nil => have h2 : cur.data.toList.length = 0 := by rw [h]; rfl
                   have h3 : cur.data.toList.length = cur.size := by simp
                   omega
          | cons a l => rfl
        cases f with
        | zero => omega
        | succ f =>
          clear h0
          by_cases hi : indexByte cur.data.toList 10 < 0
          · have HX := Lib.hid (show parseF s = ([], acc.length, 2) by rw [← HP.out, parseT, if_neg H0.out, if_pos hi])
            have HC := Lib.hid (cut_no hi)
            clear hi
            go_wp2_with fail
            refine (Tryd.strings_Cut cur ⟨#[10]⟩ mm _ (by omega) HM2.out).mono ?_
            rintro e1 w1 ⟨rfl, N, rfl⟩
            rw [HC.out]
            dsimp only
            rw [show (⟨cur.data.toList.toArray⟩ : ByteArray) = cur from ba_ext rfl]
            go_wp2_with fail
            refine (starOf_any cur _ hc (HG.out.below (hB.tr (Bl.dz _ _)))).mono ?_
            rintro e2 w2 ⟨y, rfl, _, hb⟩
            have B2 : Bl w w2 := (hB.tr (Bl.dz _ _)).tr hb
            have z2 := B2.size
            clear hb
            go_wp2_with fail
            go_ret3
            exact pa_none HX.out (by go_grown)
          · obtain ⟨text, ht⟩ : ∃ x, x = cur.extract 0 (indexByte cur.data.toList 10).toNat := ⟨_, rfl⟩
            obtain ⟨rest, hr⟩ : ∃ x, x = cur.extract ((indexByte cur.data.toList 10).toNat + 1) cur.size := ⟨_, rfl⟩
            have il := ib_lt hi
            have el : cur.data.toList.length = cur.size := by simp
            have st : text.size ≤ 65536 := by rw [ht, ext_sz _ _ _ (by omega)]; omega
            have sr : rest.size < cur.size := by rw [hr, ext_sz _ _ _ (by omega)]; omega
            have HC := Lib.hid (show cut cur.data.toList (⟨#[10]⟩ : ByteArray).data.toList = (cur.data.toList.take (indexByte cur.data.toList 10).toNat, cur.data.toList.drop ((indexByte cur.data.toList 10).toNat + 1), true) from cut_yes hi)
            have HT := Lib.hid (show (⟨(cur.data.toList.take (indexByte cur.data.toList 10).toNat).toArray⟩ : ByteArray) = text by rw [ht, take_ext])
            have HRR := Lib.hid (show (⟨(cur.data.toList.drop ((indexByte cur.data.toList 10).toNat + 1)).toArray⟩ : ByteArray) = rest by rw [hr, drop_ext])
            have HX := Lib.hid (show parseF s = match starF text with
              | none => ([], acc.length, 2)
              | some x => if acc.length = 100 then ([], acc.length, 2) else parseT f (acc ++ [x]) rest by rw [← HP.out, parseT, if_neg H0.out, if_neg hi, ht, hr]; rfl)
            clear hi ht hr il el
            cases hst : starF text with
            | none =>
              have HX2 := Lib.hid (show parseF s = ([], acc.length, 2) by rw [HX.out, hst])
              have HS := Lib.hid (show (starF text).isSome = false by rw [hst]; rfl)
              clear hst
              go_wp2_with fail
              refine (Tryd.strings_Cut cur ⟨#[10]⟩ mm _ (by omega) HM2.out).mono ?_
              rintro e1 w1 ⟨rfl, N, rfl⟩
              rw [HC.out]
              dsimp only
              rw [HT.out, HRR.out]
              go_wp2_with fail
              refine (starOf_any text _ st (HG.out.below (hB.tr (Bl.dz _ _)))).mono ?_
              rintro e2 w2 ⟨y, rfl, _, hb⟩
              rw [HS.out]
              have B2 : Bl w w2 := (hB.tr (Bl.dz _ _)).tr hb
              have z2 := B2.size
              clear hb
              go_wp2_with fail
              go_ret3
              exact pa_none HX2.out (by go_grown)
            | some x =>
              have HS := Lib.hid (show (starF text).isSome = true by rw [hst]; rfl)
              by_cases h100 : acc.length = 100
              · have HX2 := Lib.hid (show parseF s = ([], acc.length, 2) by rw [HX.out, hst]; dsimp only; rw [if_pos h100])
                have q1 : ((acc.length : Int) == 100) = true := by simp [h100]
                clear hst h100
                go_wp2_with fail
                refine (Tryd.strings_Cut cur ⟨#[10]⟩ mm _ (by omega) HM2.out).mono ?_
                rintro e1 w1 ⟨rfl, N, rfl⟩
                rw [HC.out]
                dsimp only
                rw [HT.out, HRR.out]
                go_wp2_with fail
                refine (starOf_any text _ st (HG.out.below (hB.tr (Bl.dz _ _)))).mono ?_
                rintro e2 w2 ⟨y, rfl, _, hb⟩
                rw [HS.out]
                have B2 : Bl w w2 := (hB.tr (Bl.dz _ _)).tr hb
                have z2 := B2.size
                clear hb
                go_wp2_with fail
                go_ret3
                exact pa_none HX2.out (by go_grown)
              · have HX2 := Lib.hid (show parseT f (acc ++ [x]) rest = parseF s by rw [HX.out, hst]; dsimp only; rw [if_neg h100])
                have q1 : ((acc.length : Int) == 100) = false := by simp; omega
                have q2 : acc.length < 100 := by omega
                have HST := Lib.hid hst
                clear hst h100
                go_wp2_with fail
                refine (Tryd.strings_Cut cur ⟨#[10]⟩ mm _ (by omega) HM2.out).mono ?_
                rintro e1 w1 ⟨rfl, N, rfl⟩
                rw [HC.out]
                dsimp only
                rw [HT.out, HRR.out]
                go_wp2_with fail
                refine (starOf_any text _ st (HG.out.below (hB.tr (Bl.dz _ _)))).mono ?_
                rintro e2 w2 ⟨y, rfl, hy, hb⟩
                rw [HS.out]
                obtain rfl := hy x HST.out
                have B2 : Bl w w2 := (hB.tr (Bl.dz _ _)).tr hb
                have HO2 := Lib.hid (own_bl (own_bl HO.out (Bl.dz _ N)) hb)
                have z2 := B2.size
                clear hb hy
                have hnew := Lib.hid (two_new w2 #[.string y.s, .int .i64 y.a, .int .i64 y.h, .int .i64 y.l] 25)
                go_wp2_with (at_builtin; refine wpList_append_lies _ rfl _ _ _ rfl w.heap.size 25 i0 _ 4 40 Tryd.underlying22 HI.out.1 HI.out.2.1 HI.out.2.2.1 HI.out.2.2.2 rfl (by omega) _ acc.length (starCells acc) rfl ((HO2.out.alloc _).alloc _) ⟨w2.heap.size + 1, 0, none⟩ 1 1 (cellsS y) rfl rfl (World.news_of_block hnew.out) (by simp [cellsS, Value.oneCell']) (by omega) (by unfold maxLen; omega) (by omega) (by simp; omega) _ rfl ?_; intro gg cap w9 hown1 hgrow hat hlt9)
                have HO9 := Lib.hid (show w9.ownsRow w.heap.size 25 4 (.slice (some ⟨gg, 0, none⟩) (acc.length + 1) cap) (acc ++ [y]).length (starCells (acc ++ [y])) by
                  rw [sc_snoc, List.length_append, List.length_singleton]; exact hown1)
                have hl := HO.out.lt
                have B9 : Bl w w9 := Below.grown (w := (w2.alloc (.cells #[.string y.s, .int .i64 y.a, .int .i64 y.h, .int .i64 y.l] 25)).alloc (.cells #[.string y.s, .int .i64 y.a, .int .i64 y.h, .int .i64 y.l] 25)) (by go_grown) hgrow (by simp; omega) (fun j hj => (hl j hj).1)
                go_roundw
                case rel => exact ⟨acc ++ [y], rest, f, rfl, HX2.out, by omega, by simp; omega, by omega, HO9.out, B9⟩
                case measure => exact sr
end Go.Proofs.YtlpbmcnojkhdcaaDoor
