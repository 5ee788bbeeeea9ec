/-
  Contracts of package ball: the iterator over the states of a log.
-/
import Derived.Test.YtajlfflbphbjnaaDoorBF
import Derived.Test.YtajlfflbphbjnaaDoorSR
import Derived.RangeFuncBound
import Derived.RangeFuncCalls
import Derived.RangeFuncLeaves
import Derived.RangeFuncFrom
import Derived.RangeFuncBox
import Derived.Shelf.Abstract
import Derived.WalkKit
import Derived.OwnWalkIn
import Derived.TacticsInMore
import Derived.LoopNIn
import Derived.LoopIn
namespace Go.Proofs.YtajlfflbphbjnaaDoor
open Go.RowKit Go.Shelf
set_option linter.unusedSimpArgs false
set_option linter.unusedVariables false
attribute [local go_sem] Oper.semAt_some

/-- A slice of events reads as a function. -/
def El (w : World) (A : Option Addr) (n : Nat) (E : Nat → Evt) : Prop :=
  0 < n → ∃ b off, A = some ⟨b, off, none⟩ ∧ b < w.heap.size ∧ ∀ j, j < n →
    w.cell? ⟨b, off + j * 3, none⟩ = some (.int .i64 (E j).t) ∧ w.cell? ⟨b, off + j * 3 + 1, none⟩ = some (.int .i64 (E j).ki) ∧ w.cell? ⟨b, off + j * 3 + 2, none⟩ = some (.int .i64 (E j).n)
theorem El.below {w w' : World} {A : Option Addr} {n : Nat} {E : Nat → Evt} (h : El w A n E) (hb : Bl w w') : El w' A n E := fun hn => by
  obtain ⟨b, off, e, hlt, hc⟩ := h hn
  exact ⟨b, off, e, Nat.lt_of_lt_of_le hlt hb.size, fun j hj => by
    obtain ⟨c0, c1, c2⟩ := hc j hj
    exact ⟨kcb hb c0, kcb hb c1, kcb hb c2⟩⟩

/-- A state and an error. -/
abbrev SE := Bal × Int
def encSE (x : SE) : Array Value := #[encB x.1, .int .i64 x.2]
def okL (M : Mst) (E : Nat → Evt) (k : Nat) : List SE := (List.range k).map fun j => ((runF M E (j + 1)).1, 0)
theorem okL_succ (M : Mst) (E : Nat → Evt) (k : Nat) : okL M E (k + 1) = okL M E k ++ [((runF M E (k + 1)).1, 0)] := by simp [okL, List.range_succ]
theorem okL_len (M : Mst) (E : Nat → Evt) (k : Nat) : (okL M E k).length = k := by simp [okL]
theorem okL_zero {M : Mst} {E : Nat → Evt} {k : Nat} {x : SE} (h : x ∈ okL M E k) : x.2 = 0 := by
  obtain ⟨j, _, rfl⟩ := List.mem_map.1 h; rfl
/-- What the iterator yields: the states of the events, and at last the error. -/
def okOut (M : Mst) (E : Nat → Evt) (n : Nat) (xs : List SE) : Prop := (runF M E n).2.2 = 0 ∧ xs = okL M E n
def badOut (M : Mst) (E : Nat → Evt) (n : Nat) (xs : List SE) : Prop := ∃ k, k < n ∧ (runF M E k).2.2 = 0 ∧ (runF M E (k + 1)).2.2 ≠ 0 ∧ xs = okL M E k ++ [(Bal.zero, (runF M E (k + 1)).2.2)]
/-- The blocks of the rules' own array. -/
structure RBox (w : World) (b : Nat) (x g1 g2 i1 g0 i2 g3 : Nat) : Prop where
  c0 : w.cell? ⟨b, 0, none⟩ = some .nilFunc
  c1 : w.cell? ⟨b, 1, none⟩ = some .nilFunc
  c2 : w.cell? ⟨b, 2, none⟩ = some (.func (.func 40) #[] #[])
  c3 : w.cell? ⟨b, 3, none⟩ = some (.func (.func 41) #[] #[])
  c4 : w.cell? ⟨b, 4, none⟩ = some (.func (.func 37) #[] #[.pointer (some ⟨x, 0, none⟩)])
  c5 : w.cell? ⟨b, 5, none⟩ = some (.func (.func 47) #[] #[.pointer (some ⟨g1, 0, none⟩)])
  c6 : w.cell? ⟨b, 6, none⟩ = some (.func (.func 39) #[] #[.pointer (some ⟨x, 0, none⟩)])
  c7 : w.cell? ⟨b, 7, none⟩ = some (.func (.func 47) #[] #[.pointer (some ⟨g2, 0, none⟩)])
  c8 : w.cell? ⟨b, 8, none⟩ = some (.func (.func 48) #[] #[.pointer (some ⟨i1, 0, none⟩)])
  c9 : w.cell? ⟨b, 9, none⟩ = some (.func (.func 47) #[] #[.pointer (some ⟨g0, 0, none⟩)])
  c10 : w.cell? ⟨b, 10, none⟩ = some (.func (.func 48) #[] #[.pointer (some ⟨i2, 0, none⟩)])
  c11 : w.cell? ⟨b, 11, none⟩ = some (.func (.func 47) #[] #[.pointer (some ⟨g3, 0, none⟩)])
  c12 : w.cell? ⟨b, 12, none⟩ = some (.func (.func 44) #[] #[])
  c13 : w.cell? ⟨b, 13, none⟩ = some (.func (.func 45) #[] #[])
/-- What keeps the blocks of both keeps the rules. -/
theorem RBox.move {w w' : World} {b x g1 g2 i1 g0 i2 g3 : Nat} (h : RBox w b x g1 g2 i1 g0 i2 g3) (hk : ∀ o v, w.cell? ⟨b, o, none⟩ = some v → w'.cell? ⟨b, o, none⟩ = some v) : RBox w' b x g1 g2 i1 g0 i2 g3 :=
  ⟨hk _ _ h.c0, hk _ _ h.c1, hk _ _ h.c2, hk _ _ h.c3, hk _ _ h.c4, hk _ _ h.c5, hk _ _ h.c6, hk _ _ h.c7, hk _ _ h.c8, hk _ _ h.c9, hk _ _ h.c10, hk _ _ h.c11, hk _ _ h.c12, hk _ _ h.c13⟩
structure RAbove (B : Nat) (x g1 g2 i1 g0 i2 g3 : Nat) : Prop where
  x : B ≤ x
  g1 : B ≤ g1
  g2 : B ≤ g2
  i1 : B ≤ i1
  g0 : B ≤ g0
  i2 : B ≤ i2
  g3 : B ≤ g3
theorem RulesAt.move {w w' : World} {M : Mst} {B x g1 g2 i1 g0 i2 g3 : Nat} (h : RulesAt w M x g1 g2 i1 g0 i2 g3) (ha : RAbove B x g1 g2 i1 g0 i2 g3) (hk : ∀ b o v, B ≤ b → w.cell? ⟨b, o, none⟩ = some v → w'.cell? ⟨b, o, none⟩ = some v) : RulesAt w' M x g1 g2 i1 g0 i2 g3 :=
  ⟨⟨hk _ _ _ ha.x h.mast.c0, hk _ _ _ ha.x h.mast.c1, hk _ _ _ ha.x h.mast.c2, hk _ _ _ ha.x h.mast.c3, hk _ _ _ ha.x h.mast.c4, hk _ _ _ ha.x h.mast.c5⟩, hk _ _ _ ha.g1 h.c1, hk _ _ _ ha.g2 h.c2, hk _ _ _ ha.i1 h.d1, hk _ _ _ ha.g0 h.c0, hk _ _ _ ha.i2 h.d2, hk _ _ _ ha.g3 h.c3⟩
/-- The rules' blocks lie below. -/
structure RUnder (B : Nat) (x g1 g2 i1 g0 i2 g3 : Nat) : Prop where
  x : x < B
  g1 : g1 < B
  g2 : g2 < B
  i1 : i1 < B
  g0 : g0 < B
  i2 : i2 < B
  g3 : g3 < B
theorem RulesAt.under {w : World} {M : Mst} {x g1 g2 i1 g0 i2 g3 : Nat} (h : RulesAt w M x g1 g2 i1 g0 i2 g3) : RUnder w.heap.size x g1 g2 i1 g0 i2 g3 := ⟨ltb h.mast.c0, ltb h.c1, ltb h.c2, ltb h.d1, ltb h.c0, ltb h.d2, ltb h.c3⟩
theorem RulesAt.via {w w' : World} {M : Mst} {B x g1 g2 i1 g0 i2 g3 : Nat} (h : RulesAt w M x g1 g2 i1 g0 i2 g3) (ha : RUnder B x g1 g2 i1 g0 i2 g3) (hk : ∀ b o v, b < B → w.cell? ⟨b, o, none⟩ = some v → w'.cell? ⟨b, o, none⟩ = some v) : RulesAt w' M x g1 g2 i1 g0 i2 g3 :=
  ⟨⟨hk _ _ _ ha.x h.mast.c0, hk _ _ _ ha.x h.mast.c1, hk _ _ _ ha.x h.mast.c2, hk _ _ _ ha.x h.mast.c3, hk _ _ _ ha.x h.mast.c4, hk _ _ _ ha.x h.mast.c5⟩, hk _ _ _ ha.g1 h.c1, hk _ _ _ ha.g2 h.c2, hk _ _ _ ha.i1 h.d1, hk _ _ _ ha.g0 h.c0, hk _ _ _ ha.i2 h.d2, hk _ _ _ ha.g3 h.c3⟩
set_option maxRecDepth 100000 in
set_option maxHeartbeats 1600000 in
theorem rulesOf_new (M : Mst) (w : World) : Calls Tryd.prog 35 #[encM M] w fun e w' => ∃ x g1 g2 i1 g0 i2 g3, e = .returned (RV x g1 g2 i1 g0 i2 g3) ∧ RulesAt w' M x g1 g2 i1 g0 i2 g3 ∧ RAbove w.heap.size x g1 g2 i1 g0 i2 g3 ∧ Bl w w' := by
  go_enter Tryd.func35, Tryd.ntmps35
  go_wp2_with (first | (go_at_call 42; refine (goesTo_any _ _).mono ?_; rintro e w' ⟨rfl, rfl⟩) | (go_at_call 43; refine (is_any _ _).mono ?_; rintro e w' ⟨rfl, rfl⟩))
  exact bodyPost_ret (v := RV w.heap.size (w.heap.size + 1 + 1) (w.heap.size + 1 + 1 + 1) (w.heap.size + 1 + 1 + 1 + 1) (w.heap.size + 1 + 1 + 1 + 1 + 1) (w.heap.size + 1 + 1 + 1 + 1 + 1 + 1) (w.heap.size + 1 + 1 + 1 + 1 + 1 + 1 + 1)) (by simp [results, Tryd.results35, go_sem]) rfl ⟨_, _, _, _, _, _, _, rfl, ⟨⟨by go_cell, by go_cell, by go_cell, by go_cell, by go_cell, by go_cell⟩, by go_cell, by go_cell, by go_cell, by go_cell, by go_cell, by go_cell⟩, ⟨by omega, by omega, by omega, by omega, by omega, by omega, by omega⟩, by go_grown⟩
theorem keeps_fz {B b o : Nat} {X Y : World} (h : KeepsAll B X Y) (hb : B ≤ b) (hl : b < X.heap.size) (hf : X.frozen? ⟨b, o, none⟩ = false) : Y.frozen? ⟨b, o, none⟩ = false := by
  have := h.same b hb hl
  simp only [World.frozen?] at hf ⊢
  rw [this]; exact hf
theorem enters1 : ∀ (args : Array Value) (w : World), (callFunc 34 args).run Tryd.prog w = .ok (.enter 34 args) w := enters_of Tryd.func34 (by kernel_rfl) rfl
/-- A state's four cells, which may be written. -/
structure SBox (w : World) (b : Nat) (s : Bal) : Prop where
  c0 : w.cell? ⟨b, 0, none⟩ = some (.int .i64 s.pl)
  c1 : w.cell? ⟨b, 1, none⟩ = some (.int .i64 s.wi)
  c2 : w.cell? ⟨b, 2, none⟩ = some (.bool s.fl)
  c3 : w.cell? ⟨b, 3, none⟩ = some (.int .i64 s.t)
  f0 : w.frozen? ⟨b, 0, none⟩ = false
  f1 : w.frozen? ⟨b, 1, none⟩ = false
  f2 : w.frozen? ⟨b, 2, none⟩ = false
  f3 : w.frozen? ⟨b, 3, none⟩ = false
theorem SBox.keeps {B b : Nat} {s : Bal} {X Y : World} (h : SBox X b s) (k : KeepsAll B X Y) (hb : B ≤ b) : SBox Y b s :=
  have l := ltb h.c0
  ⟨k.cell hb h.c0, k.cell hb h.c1, k.cell hb h.c2, k.cell hb h.c3, keeps_fz k hb l h.f0, keeps_fz k hb l h.f1, keeps_fz k hb l h.f2, keeps_fz k hb l h.f3⟩

set_option maxRecDepth 100000 in
set_option maxHeartbeats 3200000 in
theorem states1_in (m l xb lb n₀ : Nat) (M : Mst) (hM : VM M) (A : Option Addr) (n c : Nat) (E : Nat → Evt) (hm : 3 ≤ m) (hn : n ≤ 100) (hc : n ≤ c) (hc2 : c ≤ maxLen) (J Jx : List SE → World → Prop) (W : World)
    (hJ : LowOnly W.heap.size J)
    (hY : ∀ pre x W1, J pre W1 → pre.length < 100 → YieldAt Fence.wide (m - 1) Tryd.prog l (encSE x) W1 fun e W' =>
      (e = .returned (.bool true) ∧ J (pre ++ [x]) W' ∧ Below n₀ W1 W' ∧ KeepsAll W.heap.size W1 W') ∨ (e = .returned (.bool false) ∧ Jx (pre ++ [x]) W' ∧ KeepsAll W.heap.size W1 W'))
    (hn0 : n₀ ≤ W.heap.size) (hx : MastAt W xb M) (hl : W.cell? ⟨lb, 0, none⟩ = some (.slice A n c)) (hE : ∀ W', Below n₀ W W' → El W' A n E) (h0 : J [] W) :
    CallsIn Fence.wide m Tryd.prog 34 #[.func (.yield l) #[] #[], .pointer (some ⟨xb, 0, none⟩), .pointer (some ⟨lb, 0, none⟩)] W fun e W' => (∃ v, e = .returned v) ∧
      ((∃ xs, (okOut M E n xs ∨ badOut M E n xs) ∧ J xs W') ∨ (∃ pre, ((∃ k, pre = okL M E k) ∨ badOut M E n pre) ∧ Jx pre W')) := by
  unfold maxLen at hc2
  have HE := Lib.hid hE
  have HM := Lib.hid hM
  clear hE hM
  obtain ⟨m0, m1, m2, m3, m4, m5⟩ := hx
  have lx := ltb m0
  have ll := ltb hl
  refine callsIn_of_wp Tryd.func34 rfl trivial ?_ rfl
  simp only [Tryd.ntmps34, List.size_toArray, List.length_cons, List.length_nil, Nat.reduceAdd, Nat.reduceSub, Array.replicate_succ, Array.replicate_zero, List.push_toArray, List.append_toArray, List.nil_append, List.cons_append]
  gi_wp2_with fail
  refine ⟨trivial, fun _ => by omega, ?_⟩
  refine (callsIn_wide.2 (rulesOf_new M W)).mono ?_
  rintro q1 w1 ⟨x, g1, g2, i1, g0, i2, g3, rfl, HR, HA, hb1⟩
  have z1 := hb1.size
  have hl1 := kcb hb1 hl
  have ll1 := ltb hl1
  gi_wp2_with fail
  obtain ⟨V, hV⟩ : ∃ V, V = (w1.alloc (.cells #[.nilFunc, .nilFunc, .func (.func 40) #[] #[], .func (.func 41) #[] #[], .func (.func 37) #[] #[.pointer (some ⟨x, 0, none⟩)], .func (.func 47) #[] #[.pointer (some ⟨g1, 0, none⟩)], .func (.func 39) #[] #[.pointer (some ⟨x, 0, none⟩)], .func (.func 47) #[] #[.pointer (some ⟨g2, 0, none⟩)], .func (.func 48) #[] #[.pointer (some ⟨i1, 0, none⟩)], .func (.func 47) #[] #[.pointer (some ⟨g0, 0, none⟩)], .func (.func 48) #[] #[.pointer (some ⟨i2, 0, none⟩)], .func (.func 47) #[] #[.pointer (some ⟨g3, 0, none⟩)], .func (.func 44) #[] #[], .func (.func 45) #[] #[]] 75)).alloc (.cells #[.int .i64 0, .int .i64 0, .bool false, .int .i64 0] 53) := ⟨_, rfl⟩
  obtain ⟨rb, hrb⟩ : ∃ rb, rb = w1.heap.size := ⟨_, rfl⟩
  have BV : Bl W V := by rw [hV]; go_grown
  have B1V : Bl w1 V := by rw [hV]; go_grown
  have RV0 : RBox V rb x g1 g2 i1 g0 i2 g3 := by rw [hV, hrb]; exact ⟨by go_cell, by go_cell, by go_cell, by go_cell, by go_cell, by go_cell, by go_cell, by go_cell, by go_cell, by go_cell, by go_cell, by go_cell, by go_cell, by go_cell⟩
  have SV0 : SBox V (rb + 1) Bal.zero := by rw [hV, hrb]; exact ⟨by go_cell, by go_cell, by go_cell, by go_cell, by simp, by simp, by simp, by simp⟩
  have RU0 := HR.below B1V
  have HU := HR.under
  rw [← hrb] at HU
  rw [← hV, ← hrb]
  have hrW : W.heap.size ≤ rb := by omega
  clear hV hb1 HR hl1 ll1 B1V m0 m1 m2 m3 m4 m5 lx
  clear hrb z1
  gi_loopw [14] (fun i wr => ∃ k : Nat, k ≤ n ∧ i = .int .i64 k ∧ J (okL M E k) wr ∧ Hid ((runF M E k).2.2 = 0) ∧ Below n₀ W wr ∧ Hid (RulesAt wr M x g1 g2 i1 g0 i2 g3) ∧ Hid (RBox wr rb x g1 g2 i1 g0 i2 g3) ∧ Hid (SBox wr (rb + 1) (runF M E k).1) ∧ W.heap.size ≤ wr.heap.size) (fun i _ => n - (RowKit.intOf i).toNat)
  case atStart => exact ⟨0, Nat.zero_le _, rfl, hJ _ _ _ h0 BV, rfl, BV.mono hn0, RU0, RV0, SV0, BV.size⟩
  case round =>
    obtain ⟨k, hk, rfl, hJs, hok, hB, hRU, hRB, hSB, zr⟩ := hrel
    by_cases hlt : k < n
    · obtain ⟨b, off, rfl, hbb, hcc⟩ := (HE.out wr hB) (by omega)
      obtain ⟨c0, c1, c2⟩ := hcc k hlt
      clear hcc
      obtain ⟨y, hy⟩ : ∃ y, y = E k := ⟨_, rfl⟩
      rw [← hy] at c0 c1 c2
      obtain ⟨s, hs⟩ : ∃ s, s = (runF M E k).1 := ⟨_, rfl⟩
      obtain ⟨r, er, hr⟩ : ∃ r er, stp M s y = (r, er) := ⟨_, _, rfl⟩
      have HS := Lib.hid (show runF M E (k + 1) = if er = 0 then (r, k + 1, 0) else (Bal.zero, k, er) by rw [runF_next hok.out, ← hs, ← hy, hr])
      have HZ := Lib.hid (show er ≠ 0 → r = Bal.zero by
        intro h
        unfold stp at hr
        split at hr
        · split at hr
          · cases hr; exact absurd rfl h
          · cases hr; rfl
        · cases hr; rfl)
      have HR := Lib.hid hr
      rw [← hs] at hSB
      clear hr hs hy
      obtain ⟨b0, b1, b2, b3, b4, b5, b6, b7, b8, b9, b10, b11, b12, b13⟩ := hRB.out
      obtain ⟨s0, s1, s2, s3, f0, f1, f2, f3⟩ := hSB.out
      have lr := ltb b0
      have ls := ltb s0
      gi_wp2_with fail
      refine ⟨trivial, fun _ => by omega, ?_⟩
      refine (callsIn_wide.2 (next_any M HM.out x g1 g2 i1 g0 i2 g3 s y _ ((hRU.out).below (by go_grown)))).mono ?_
      rintro q2 w2 ⟨rfl, hb2⟩
      rw [HR.out]
      have X2 : Bl wr w2 := Below.trans (by go_grown) (hb2.mono (by (try simp only [World.size_alloc]); omega))
      have z2 := X2.size
      clear hb2 c0 c1 c2 b0 b1 b2 b3 b4 b5 b6 b7 b8 b9 b10 b11 b12 b13
      have s0 := kcb X2 s0
      have s1 := kcb X2 s1
      have s2 := kcb X2 s2
      have s3 := kcb X2 s3
      have f0 := fzb X2 f0 ls
      have f1 := fzb X2 f1 ls
      have f2 := fzb X2 f2 ls
      have f3 := fzb X2 f3 ls
      have ls2 := ltb s0
      obtain ⟨U, hU⟩ : ∃ U, U = (((w2.setCell ⟨rb + 1, 0, none⟩ (.int .i64 r.pl)).setCell ⟨rb + 1, 1, none⟩ (.int .i64 r.wi)).setCell ⟨rb + 1, 2, none⟩ (.bool r.fl)).setCell ⟨rb + 1, 3, none⟩ (.int .i64 r.t) := ⟨_, rfl⟩
      have hle : W.heap.size ≤ rb + 1 := by omega
      have BU : Below W.heap.size wr U := by rw [hU]; exact ((((X2.mono zr).setCell (p := ⟨rb + 1, 0, none⟩) hle _).setCell (p := ⟨rb + 1, 1, none⟩) hle _).setCell (p := ⟨rb + 1, 2, none⟩) hle _).setCell (p := ⟨rb + 1, 3, none⟩) hle _
      have uJ : J (okL M E k) U := hJ _ _ _ hJs BU
      have kU : ∀ b' o v, b' ≠ rb + 1 → wr.cell? ⟨b', o, none⟩ = some v → U.cell? ⟨b', o, none⟩ = some v := by
        intro b' o v hne h
        have h := kcb X2 h
        have oth : ∀ (Z : World) (i : Nat) (u : Value), (Z.setCell ⟨rb + 1, i, none⟩ u).cell? ⟨b', o, none⟩ = Z.cell? ⟨b', o, none⟩ := fun Z i u => World.cell?_setCell_other _ _ _ _ (by intro e; injection e with e; exact hne e.symm)
        rw [hU, oth, oth, oth, oth]; exact h
      have SU : SBox U (rb + 1) r := by rw [hU]; exact ⟨by go_cell, by go_cell, by go_cell, by go_cell, by simp only [World.frozen?_setCell]; exact f0, by simp only [World.frozen?_setCell]; exact f1, by simp only [World.frozen?_setCell]; exact f2, by simp only [World.frozen?_setCell]; exact f3⟩
      have RBU := hRB.out.move (w' := U) (fun o v h => kU _ o v (by omega) h)
      have RUU := hRU.out.via (w' := U) HU (fun b' o v hb' h => kU b' o v (by omega) h)
      obtain ⟨fn, tmps, assign, body, hyy, hR3⟩ := hY (okL M E k) (r, er) U uJ (by rw [okL_len]; omega)
      have HJX := Lib.hid hR3
      clear hR3 uJ kU
      have HSU := Lib.hid SU
      have HRBU := Lib.hid RBU
      have HRUU := Lib.hid RUU
      clear SU RBU RUU
      have HBU := Lib.hid BU
      clear BU
      have zU : U.heap.size = w2.heap.size := by rw [hU]; simp
      rw [hU] at hyy
      simp only [encSE] at hyy
      by_cases hz : er = 0
      · subst hz
        have E1 := Lib.hid (show runF M E (k + 1) = (r, k + 1, 0) by rw [HS.out, if_pos rfl])
        gi_wp2_with fail
        refine ⟨fun _ => by omega, ?_⟩
        rw [← hU]
        refine HJX.out.mono ?_
        rintro e W3 (⟨rfl, hJ3, hb3, hk3⟩ | ⟨rfl, hJx3, hk3⟩)
        · gi_wp2_with fail
          go_roundw
          case rel =>
            have e1 := E1.out
            have hle3 : ∀ b', W.heap.size ≤ b' → ∀ o v, U.cell? ⟨b', o, none⟩ = some v → W3.cell? ⟨b', o, none⟩ = some v := fun b' hb' o v h => hk3.cell hb' h
            refine ⟨k + 1, by omega, by go_num, by rw [okL_succ, e1]; exact hJ3, by rw [e1]; exact rfl, (hB.trans (HBU.out.mono hn0)).trans hb3, ?_, ?_, ?_, ?_⟩
            · exact HRUU.out.move HA (fun b' o v hb' h => hk3.cell hb' h)
            · exact HRBU.out.move (fun o v h => hk3.cell hrW h)
            · rw [e1]; exact HSU.out.keeps hk3 (by omega)
            · have := hk3.size; omega
          case measure => simp [RowKit.intOf]; omega
        · gi_wp2
          refine bodyPost_ret (results_none rfl _ _ _) rfl ?_
          exact ⟨⟨_, rfl⟩, .inr ⟨_, .inl ⟨k + 1, by rw [okL_succ, E1.out]⟩, hJx3⟩⟩
      · have hz2 : (er != 0) = true := by simp [hz]
        have hrz := HZ.out hz
        have e1 : runF M E (k + 1) = (Bal.zero, k, er) := by rw [HS.out, if_neg hz]
        have HBAD := Lib.hid (show badOut M E n (okL M E k ++ [(r, er)]) from ⟨k, hlt, hok.out, by rw [e1]; exact hz, by rw [e1, hrz]⟩)
        clear e1 hrz
        gi_wp2_with fail
        refine ⟨fun _ => by omega, ?_⟩
        rw [← hU]
        refine HJX.out.mono ?_
        rintro e W3 (⟨rfl, hJ3, hb3, hk3⟩ | ⟨rfl, hJx3, hk3⟩)
        · gi_wp2
          refine bodyPost_ret (results_none rfl _ _ _) rfl ?_
          exact ⟨⟨_, rfl⟩, .inl ⟨_, .inr HBAD.out, hJ3⟩⟩
        · gi_wp2
          refine bodyPost_ret (results_none rfl _ _ _) rfl ?_
          exact ⟨⟨_, rfl⟩, .inr ⟨_, .inr HBAD.out, hJx3⟩⟩
    · obtain rfl : k = n := by omega
      gi_wp2
      go_end0
      exact ⟨⟨_, rfl⟩, .inl ⟨_, .inl ⟨hok.out, rfl⟩, hJs⟩⟩
/-- The contract of the iterator over states. -/
theorem states_seq (m xb lb n₀ : Nat) (M : Mst) (hM : VM M) (A : Option Addr) (n c : Nat) (E : Nat → Evt) (hm : 3 ≤ m) (hn : n ≤ 100) (hc : n ≤ c) (hc2 : c ≤ maxLen) (w : World)
    (hn0 : n₀ ≤ w.heap.size) (hx : MastAt w xb M) (hl : w.cell? ⟨lb, 0, none⟩ = some (.slice A n c)) (hE : ∀ W', Below n₀ w W' → El W' A n E) :
    SeqB Fence.wide m Tryd.prog 34 #[.pointer (some ⟨xb, 0, none⟩), .pointer (some ⟨lb, 0, none⟩)] encSE (fun W W' => Below n₀ W W') (fun xs => okOut M E n xs ∨ badOut M E n xs) (fun pre => (∃ k, pre = okL M E k) ∨ badOut M E n pre) 100 w := fun l J Jx W hW hJ hJx hY h0 =>
  states1_in m l xb lb n₀ M hM A n c E hm hn hc hc2 J Jx W hJ hY (Nat.le_trans hn0 hW.size) (hx.below hW) (kcb hW hl) (fun W' h => hE W' ((hW.mono hn0).trans h)) h0
end Go.Proofs.YtajlfflbphbjnaaDoor
