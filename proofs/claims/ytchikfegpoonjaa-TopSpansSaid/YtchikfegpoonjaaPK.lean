/-
  Package sight: the iterator over the steps of carry.
-/
import Derived.Test.YtchikfegpoonjaaPI
import Derived.Test.YtchikfegpoonjaaPF
import Derived.Test.YtchikfegpoonjaaSO
import Derived.RangeFuncNested
import Derived.RangeFuncBound
import Derived.RangeFuncCalls
import Derived.RangeFuncLeaves
import Derived.RangeFuncFrom
import Derived.RangeFuncBox
import Derived.Shelf.Abstract
import Derived.WalkKit
import Derived.OwnWalkIn
import Derived.TacticsInMore
import Derived.LoopNIn
import Derived.LoopIn
import Derived.Laws.EntriesVeiled
namespace Go.Proofs.Ytchikfegpoonjaa
open Go.RowKit Go.Maps Go.Shelf
set_option linter.unusedSimpArgs false
set_option linter.unusedVariables false
attribute [local go_sem] Oper.semAt_some

def encE (e : Edg) : Array Value := #[.agg #[.int .i64 (e.fr : Int), .int .i64 (e.to : Int), .int .i64 e.co, .int .i64 e.no]]
/-- A slice of points reads as a function. -/
def Ptl (w : World) (A : Option Addr) (n : Nat) (P : Nat → Spt) : Prop :=
  0 < n → ∃ b off, A = some ⟨b, off, none⟩ ∧ b < w.heap.size ∧ ∀ j, j < n → w.cell? ⟨b, off + j * 2, none⟩ = some (.int .i64 (P j).1) ∧ w.cell? ⟨b, off + j * 2 + 1, none⟩ = some (.int .i64 (P j).2)
/-- A slice's block lies as it lay. -/
def InK (A : Option Addr) (k : Nat) : Prop := ∃ a, A = some a ∧ a.block = k
theorem Ptl.same {w w' : World} {A : Option Addr} {n : Nat} {P : Nat → Spt} (h : Ptl w A n P) (hs : w.heap.size ≤ w'.heap.size) (hk : ∀ k, InK A k → w'.heap[k]? = w.heap[k]?) : Ptl w' A n P := fun hn => by
  obtain ⟨b, off, e, hlt, hc⟩ := h hn
  have hb := hk b ⟨_, e, rfl⟩
  exact ⟨b, off, e, Nat.lt_of_lt_of_le hlt hs, fun j hj => ⟨(World.cell?_of_block hb).trans (hc j hj).1, (World.cell?_of_block hb).trans (hc j hj).2⟩⟩
theorem slS_same {w w' : World} {A : Option Addr} {n : Nat} {f : Nat → Int} (h : Sl w A n f) (hs : w.heap.size ≤ w'.heap.size) (hk : ∀ k, InK A k → w'.heap[k]? = w.heap[k]?) : Sl w' A n f := fun hn => by
  obtain ⟨b, off, e, hlt, hc⟩ := h hn
  exact ⟨b, off, e, Nat.lt_of_lt_of_le hlt hs, fun j hj => (World.cell?_of_block (hk b ⟨_, e, rfl⟩)).trans (hc j hj)⟩
/-- Some blocks lie as they lay, and the first cell of C. -/
structure KpC (K : Nat → Prop) (C : Nat) (X Y : World) : Prop where
  size : X.heap.size ≤ Y.heap.size
  same : ∀ k, K k → Y.heap[k]? = X.heap[k]?
  c0 : ∀ v, X.cell? ⟨C, 0, none⟩ = some v → Y.cell? ⟨C, 0, none⟩ = some v
theorem KpC.trans {K : Nat → Prop} {C : Nat} {X Y Z : World} (h : KpC K C X Y) (k : KpC K C Y Z) : KpC K C X Z := ⟨Nat.le_trans h.size k.size, fun i hi => (k.same i hi).trans (h.same i hi), fun v hv => k.c0 v (h.c0 v hv)⟩
theorem KpC.bl {K : Nat → Prop} {C : Nat} {X Y : World} (hb : Bl X Y) (hK : ∀ k, K k → k < X.heap.size) : KpC K C X Y := ⟨hb.size, fun k hk => hb.block k (hK k hk), fun v hv => kcb hb hv⟩
theorem KpC.put {K : Nat → Prop} {C n₀ : Nat} (hK : ∀ k, K k → k < n₀) (hC : C < n₀) (W : World) (l : Nat) (o : Obj) (h : n₀ ≤ l) : KpC K C W (W.putObj l o) :=
  ⟨by simp, fun k hk => World.putObj_heap_other (by have := hK k hk; omega), fun v hv => (World.cell?_of_block (World.putObj_heap_other (by show C ≠ l; omega))).trans hv⟩
theorem KpC.cell {K : Nat → Prop} {C : Nat} {X Y : World} (h : KpC K C X Y) {b o : Nat} {v : Value} (hk : K b) (hc : X.cell? ⟨b, o, none⟩ = some v) : Y.cell? ⟨b, o, none⟩ = some v :=
  (World.cell?_of_block (h.same b hk)).trans hc
/-- What the iterator reads. -/
structure CF (t1 t2 C : Nat) (A : Option Addr) (r cr : Nat) (R : Nat → Int) (Ap : Option Addr) (n cp : Nat) (P : Nat → Spt) (X : World) : Prop where
  b1 : X.cell? ⟨t1, 0, none⟩ = some (.pointer (some ⟨C, 0, none⟩))
  b2 : X.cell? ⟨t2, 0, none⟩ = some (.slice A r cr)
  c0 : X.cell? ⟨C, 0, none⟩ = some (.slice Ap n cp)
  pt : Ptl X Ap n P
  ra : Sl X A r R
/-- The blocks that it reads. -/
def CK (t1 t2 : Nat) (A Ap : Option Addr) (k : Nat) : Prop := k = t1 ∨ k = t2 ∨ InK A k ∨ InK Ap k
theorem CF.kp {t1 t2 C : Nat} {A : Option Addr} {r cr : Nat} {R : Nat → Int} {Ap : Option Addr} {n cp : Nat} {P : Nat → Spt} {X Y : World} (h : CF t1 t2 C A r cr R Ap n cp P X) (hk : KpC (CK t1 t2 A Ap) C X Y) : CF t1 t2 C A r cr R Ap n cp P Y :=
  ⟨hk.cell (.inl rfl) h.b1, hk.cell (.inr (.inl rfl)) h.b2, hk.c0 _ h.c0, h.pt.same hk.size (fun k hi => hk.same k (.inr (.inr (.inr hi)))), slS_same h.ra hk.size (fun k hi => hk.same k (.inr (.inr (.inl hi))))⟩
theorem CF.bl {t1 t2 C : Nat} {A : Option Addr} {r cr : Nat} {R : Nat → Int} {Ap : Option Addr} {n cp : Nat} {P : Nat → Spt} {X Y : World} (h : CF t1 t2 C A r cr R Ap n cp P X) (hb : Bl X Y) : CF t1 t2 C A r cr R Ap n cp P Y :=
  ⟨kcb hb h.b1, kcb hb h.b2, kcb hb h.c0, fun hn => by
    obtain ⟨b, off, e, hlt, hc⟩ := h.pt hn
    exact ⟨b, off, e, Nat.lt_of_lt_of_le hlt hb.size, fun j hj => ⟨kcb hb (hc j hj).1, kcb hb (hc j hj).2⟩⟩, h.ra.below hb⟩
/-- What the points are. -/
def PtsOk (n r : Nat) (P : Nat → Spt) : Prop := ∀ j, j < n → (0 ≤ (P j).1 ∧ (P j).1 < (r : Int)) ∧ 0 ≤ (P j).2 ∧ (P j).2 ≤ 1000000000000
theorem crI_yes {R : Nat → Int} {P : Nat → Spt} {i j : Nat} (h : (P i).1 = (P j).1 ∧ i ≠ j) : crI R P i (j + 1) = crI R P i j ++ [⟨i, j, crb R (P i) (P j), -1⟩] := by rw [crI, if_pos h]
theorem crI_no {R : Nat → Int} {P : Nat → Spt} {i j : Nat} (h : ¬ ((P i).1 = (P j).1 ∧ i ≠ j)) : crI R P i (j + 1) = crI R P i j := by rw [crI, if_neg h, List.append_nil]
set_option maxRecDepth 100000 in
set_option maxHeartbeats 8000000 in
theorem carries_seq (t1 t2 C : Nat) (A : Option Addr) (r cr : Nat) (R : Nat → Int) (Ap : Option Addr) (n cp : Nat) (P : Nat → Spt) (w : World) (hF : CF t1 t2 C A r cr R Ap n cp P w) (hr : r ≤ 8) (hn : n ≤ 130)
    (hR : ∀ k, k < r → 0 ≤ R k ∧ R k ≤ 1000000) (hP : PtsOk n r P) :
    SeqO Fence.wide 4 Try.prog 40 #[.pointer (some ⟨t1, 0, none⟩), .pointer (some ⟨t2, 0, none⟩)] encE (fun _ _ => False) (fun _ _ => True) (KpC (CK t1 t2 A Ap) C)
      (fun ys => ys = crO R P n n) (fun _ => True) 20000 w := by
  intro l J Jx W hW hJ hJx hO hOx hY h0
  have HY := Lib.hid hY
  have HJ := Lib.hid hJ
  have HOO := Lib.hid hO
  have HF := Lib.hid (hF.bl hW)
  have HRR := Lib.hid hR
  have HPP := Lib.hid hP
  have zW := hW.size
  clear hY hJ hJx hO hOx hF hR hP hW
  have b1 := HF.out.b1
  have c0 := HF.out.c0
  refine callsIn_of_wp Try.func40 rfl trivial ?_ rfl
  simp only [Try.ntmps40, List.size_toArray, List.length_cons, List.length_nil, Nat.reduceAdd, Nat.reduceSub, Array.replicate_succ, Array.replicate_zero, List.push_toArray, List.append_toArray, List.nil_append, List.cons_append]
  gi_wp2_with fail
  clear b1 c0
  gi_loopw [13] (fun i wr => ∃ (k : Nat) (O : Nat → Prop), k ≤ n ∧ i = .int .i64 k ∧ Hid (J (crO R P n k) O wr) ∧ Hid (CF t1 t2 C A r cr R Ap n cp P wr) ∧ W.heap.size ≤ wr.heap.size) (fun i _ => n - (RowKit.intOf i).toNat)
  case atStart => exact ⟨0, fun _ => False, Nat.zero_le _, rfl, h0, HF, Nat.le_refl _⟩
  case round =>
    obtain ⟨k, O, hk, rfl, HJ1, HC, zr⟩ := hrel
    obtain ⟨Wo, hWo⟩ : ∃ Wo, Wo = wr := ⟨_, rfl⟩
    subst hWo
    have b1 := HC.out.b1
    have c0 := HC.out.c0
    have lC := ltb c0
    have lt1 := ltb b1
    by_cases hlt : k < n
    · obtain ⟨pb, po, hAp, hpb, hpc⟩ := HC.out.pt (by omega)
      subst hAp
      obtain ⟨d0, d1⟩ := hpc k hlt
      clear hpc
      have HPK := Lib.hid (HPP.out k hlt)
      gi_wp2_with fail
      obtain ⟨X, hX⟩ : ∃ X, X = Wo.alloc (.cells #[.int .i64 (P k).1, .int .i64 (P k).2] 69) := ⟨_, rfl⟩
      have BX : Bl Wo X := by rw [hX]; go_grown
      have zX := BX.size
      have p0 : X.cell? ⟨Wo.heap.size, 0, none⟩ = some (.int .i64 (P k).1) := by rw [hX]; go_cell
      have p1 : X.cell? ⟨Wo.heap.size, 1, none⟩ = some (.int .i64 (P k).2) := by rw [hX]; go_cell
      have HPB := Lib.hid (And.intro p0 p1)
      have HJX := Lib.hid (HJ.out _ O _ _ HJ1.out (BX.mono zr) (fun i hi => BX.block i (HOO.out _ _ _ HJ1.out i hi).2))
      have HCX := Lib.hid (HC.out.bl BX)
      have HNO := Lib.hid (show ¬ O Wo.heap.size from fun h => by have := (HOO.out _ _ _ HJ1.out _ h).2; omega)
      obtain ⟨B, hB⟩ : ∃ B, B = Wo.heap.size := ⟨_, rfl⟩
      rw [← hB] at HPB HNO ⊢
      have hBW : W.heap.size ≤ B := by omega
      have hBX : B < X.heap.size := by rw [hX, hB]; simp
      rw [← hX]
      clear hB
      have HAO := Lib.hid (And.intro hpb hpb)
      clear p0 p1 d0 d1 b1 c0 lC lt1 hX HAO hpb HJ1 HC
      gi_loopw [23] (fun i wr => ∃ (j : Nat) (O : Nat → Prop), j ≤ n ∧ i = .int .i64 j ∧ Hid (J (crO R P n k ++ crI R P k j) O wr) ∧ Hid (CF t1 t2 C A r cr R (some ⟨pb, po, none⟩) n cp P wr) ∧ Hid (¬ O B) ∧ wr.cell? ⟨B, 0, none⟩ = some (.int .i64 (P k).1) ∧ wr.cell? ⟨B, 1, none⟩ = some (.int .i64 (P k).2) ∧ W.heap.size ≤ wr.heap.size) (fun i _ => n - (RowKit.intOf i).toNat)
      case atStart => exact ⟨0, O, Nat.zero_le _, rfl, by rw [crI, List.append_nil]; exact HJX.out, HCX, HNO, HPB.out.1, HPB.out.2, by omega⟩
      case round =>
        clear HJX HCX HNO HPB
        obtain ⟨j, O, hj, rfl, HJ1, HC, HNO, p0, p1, zj⟩ := hrel
        have lB := ltb p0
        by_cases hjt : j < n
        · obtain ⟨pb', po', hAp, hpb, hpc⟩ := HC.out.pt (by omega)
          obtain ⟨rfl, rfl⟩ : pb = pb' ∧ po = po' := by simpa using hAp
          obtain ⟨d0, d1⟩ := hpc j hjt
          clear hpc hAp
          have HPJ := Lib.hid (HPP.out j hjt)
          have b2 := HC.out.b2
          have l2 := ltb b2
          obtain ⟨X, hX⟩ : ∃ X, X = wr.alloc (.cells #[.int .i64 (P j).1, .int .i64 (P j).2] 69) := ⟨_, rfl⟩
          have BX : Bl wr X := by rw [hX]; go_grown
          have zX := BX.size
          have HJX := Lib.hid (HJ.out _ O _ _ HJ1.out (BX.mono zj) (fun i hi => BX.block i (HOO.out _ _ _ HJ1.out i hi).2))
          have HCX := Lib.hid (HC.out.bl BX)
          have P0 := Lib.hid (And.intro (kcb BX p0) (kcb BX p1))
          have zW2 : W.heap.size ≤ X.heap.size := by omega
          have HX := Lib.hid hX
          have HBX := Lib.hid BX
          clear BX hX
          cases hq : (decide ((P k).1 = (P j).1 ∧ k ≠ j)) with
          | false =>
            have HN := Lib.hid (crI_no (R := R) (of_decide_eq_false hq))
            have hq' := of_decide_eq_false hq
            clear hq
            have HJN := Lib.hid (show J (crO R P n k ++ crI R P k (j + 1)) O X by rw [HN.out]; exact HJX.out)
            by_cases h1 : (P k).1 = (P j).1
            · have h2 : k = j := Classical.byContradiction fun q => hq' ⟨h1, q⟩
              have e1 : ((P k).1 != (P j).1) = false := by simp [h1]
              have e2 : ((k : Int) == (j : Int)) = true := by simp [h2]
              clear h1 h2 hq'
              gi_wp2_with fail
              rw [← HX.out]
              go_roundw
              case rel => exact ⟨j + 1, O, by omega, by go_num, HJN, HCX, HNO, P0.out.1, P0.out.2, zW2⟩
              case measure => simp [RowKit.intOf]; omega
            · have e1 : ((P k).1 != (P j).1) = true := by simp [h1]
              clear h1 hq'
              gi_wp2_with fail
              rw [← HX.out]
              go_roundw
              case rel => exact ⟨j + 1, O, by omega, by go_num, HJN, HCX, HNO, P0.out.1, P0.out.2, zW2⟩
              case measure => simp [RowKit.intOf]; omega
          | true =>
            have HYE := Lib.hid (crI_yes (R := R) (of_decide_eq_true hq))
            have hq' := of_decide_eq_true hq
            clear hq
            have e1 : ((P k).1 != (P j).1) = false := by simp [hq'.1]
            have e2 : ((k : Int) == (j : Int)) = false := by have := hq'.2; simp; omega
            clear hq'
            have HLEN := Lib.hid (show (crO R P n k ++ crI R P k j).length < 20000 by
              have h1 := crO_len R P n k
              have h2 := crI_len R P k j
              have h3 : k * n ≤ 129 * 130 := Nat.mul_le_mul (by omega) hn
              rw [List.length_append]; omega)
            gi_wp2_with fail
            refine ⟨trivial, ?_⟩
            gi_at_call 41
            refine (callsIn_wide.2 (carryBetween_any A r cr R (P k) (P j) _ (by rw [← HX.out]; exact HCX.out.ra) (by omega) HPK.out.1 HRR.out HPK.out.2 HPJ.out.2)).mono ?_
            rintro e2 X1 ⟨rfl, hb⟩
            rw [← HX.out] at hb
            have zX1 := hb.size
            have HJ2 := Lib.hid (HJ.out _ O _ _ HJX.out (hb.mono zW2) (fun i hi => hb.block i (HOO.out _ _ _ HJX.out i hi).2))
            have HC2 := Lib.hid (HCX.out.bl hb)
            have P1 := Lib.hid (And.intro (kcb hb P0.out.1) (kcb hb P0.out.2))
            have lB1 := ltb P1.out.1
            clear hb
            obtain ⟨fn, tmps, assign, body, hy, hR⟩ := HY.out _ ⟨k, j, crb R (P k) (P j), -1⟩ O X1 HJ2.out trivial (fun _ h => h.elim) HLEN.out
            simp only [encE] at hy
            gi_wp2_with fail
            refine hR.mono ?_
            rintro e4 X3 ⟨O', hO', hkb, ⟨rfl, hJ4, hk4⟩ | ⟨rfl, hJ4⟩⟩
            · have HC3 := Lib.hid (HC2.out.kp hk4)
              have HNO3 := Lib.hid (show ¬ O' B from fun h => by
                rcases hO' B h with q | q | q
                · exact HNO.out q
                · exact q
                · omega)
              have p03 := hkb.cell hBW (fun q => by rcases q with q | q; exact HNO.out q; exact q) P1.out.1
              have p13 := hkb.cell hBW (fun q => by rcases q with q | q; exact HNO.out q; exact q) P1.out.2
              have HJ5 := Lib.hid (show J (crO R P n k ++ crI R P k (j + 1)) O' X3 by rw [HYE.out, ← List.append_assoc]; exact hJ4)
              have zX3 := hkb.size
              clear hJ4 hk4 hkb hO' hR hy
              gi_wp2_with fail
              go_roundw
              case rel => exact ⟨j + 1, O', by omega, by go_num, HJ5, HC3, HNO3, p03, p13, by omega⟩
              case measure => simp [RowKit.intOf]; omega
            · gi_wp2_with fail
              refine bodyPost_ret (results_none rfl _ _ _) rfl ?_
              exact ⟨⟨_, rfl⟩, .inr ⟨_, O', trivial, hJ4⟩⟩
        · obtain rfl : j = n := by omega
          have HE := Lib.hid (show J (crO R P j (k + 1)) O wr by rw [crO]; exact HJ1.out)
          gi_wp2_with fail
          go_roundw
          case rel => exact ⟨k + 1, O, by omega, by go_num, HE, HC, zj⟩
          case measure => simp [RowKit.intOf]; omega
    · obtain rfl : k = n := by omega
      gi_wp2_with fail
      go_end0
      exact ⟨⟨_, rfl⟩, .inl ⟨_, O, rfl, HJ1.out⟩⟩
set_option maxHeartbeats 800000 in
theorem carries_any (C : Nat) (A : Option Addr) (n c : Nat) (w : World) :
    Calls Try.prog 32 #[.pointer (some ⟨C, 0, none⟩), .slice A n c] w fun e w' => e = .returned (.func (.func 40) #[] #[.pointer (some ⟨w.heap.size, 0, none⟩), .pointer (some ⟨w.heap.size + 1, 0, none⟩)]) ∧ w' = (w.alloc (.cells #[.pointer (some ⟨C, 0, none⟩)] 53)).alloc (.cells #[.slice A n c] 24) := by
  go_enter Try.func32, Try.ntmps32
  go_wp2_with fail
  go_ret
  exact ⟨by simp, rfl⟩
end Go.Proofs.Ytchikfegpoonjaa
