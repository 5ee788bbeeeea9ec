/-
  Package sight and its reference: what the changes of a net return; Added of the program.
-/
import Derived.Test.YtennmdlajealpaaUF
import Derived.Test.YtennmdlajealpaaUO
import Derived.Test.YtennmdlajealpaaUC
namespace Go.Proofs.Ytennmdlajealpaa
open Go.RowKit Go.Maps
set_option linter.unusedSimpArgs false
set_option linter.unusedVariables false

/-- A net and an error. -/
structure NetF where
  n : Nat
  R : Nat → Int
  m : Nat
  S : Nat → Sgt
  k : Int
def noN (k : Int) : NetF := ⟨0, fun _ => 0, 0, fun _ => ⟨0, 0, 0, 0, 0⟩, k⟩
/-- A call returns a net that reads so, and the error. -/
def NetPost (F : NetF) (w : World) (e : Ending) (w' : World) : Prop :=
  ∃ A c B d, e = .returned (.tuple #[encN A F.n c B F.m d, .int .i64 F.k]) ∧ F.n ≤ maxLen ∧ F.m ≤ maxLen ∧ Sl w' A F.n F.R ∧ Sgl w' B F.m F.S ∧ Bl w w'
theorem netPost_no {k : Int} {w w' : World} (h : Bl w w') : NetPost (noN k) w (.returned (.tuple #[encN none 0 0 none 0 0, .int .i64 k])) w' :=
  ⟨none, 0, none, 0, rfl, by simp [noN], by simp [noN], fun h => absurd h (by simp [noN]), fun h => absurd h (by simp [noN]), h⟩
/-- A net with a sight more. -/
def addS (S : Nat → Sgt) (m : Nat) (s : Sgt) (j : Nat) : Sgt := if j < m then S j else s
theorem addS_cells (S : Nat → Sgt) (m : Nat) (s : Sgt) : sgC S m ++ cellsG s = sgC (addS S m s) (m + 1) := by
  rw [sgC, sgC_congr (f := addS S m s) (g := S) (fun j hj => by simp [addS, hj])]
  simp [addS]
def addF (R : Nat → Int) (n : Nat) (S : Nat → Sgt) (m : Nat) (s : Sgt) : NetF :=
  if (vnB R n S m && sgB n s) = false then noN 1 else if m = 30 then noN 4 else ⟨n, R, m + 1, addS S m s, 0⟩
theorem addS_one {w : World} {b : Nat} {s : Sgt} (h0 : w.cell? ⟨b, 0, none⟩ = some (.int .i64 s.tm)) (h1 : w.cell? ⟨b, 1, none⟩ = some (.int .i64 s.ca)) (h2 : w.cell? ⟨b, 2, none⟩ = some (.int .i64 s.cb)) (h3 : w.cell? ⟨b, 3, none⟩ = some (.int .i64 s.lo)) (h4 : w.cell? ⟨b, 4, none⟩ = some (.int .i64 s.hi)) :
    ∀ j u, (cellsG s)[j]? = some u → w.cell? ((⟨b, 0, none⟩ : Addr).add j) = some u := fun j u hu => by
  have hj : j < 5 := (List.getElem?_eq_some_iff.1 hu).1
  rw [show (⟨b, 0, none⟩ : Addr).add j = ⟨b, 0 + j, none⟩ by unfold Addr.add; split <;> simp_all]
  have hj5 : j = 0 ∨ j = 1 ∨ j = 2 ∨ j = 3 ∨ j = 4 := by omega
  rcases hj5 with rfl | rfl | rfl | rfl | rfl <;> simp [cellsG] at hu <;> subst hu <;> assumption
theorem cellsG_one (s : Sgt) : ∀ u ∈ cellsG s, u.oneCell' = true := fun u hu => by
  simp only [cellsG, List.mem_cons, List.not_mem_nil, or_false] at hu
  rcases hu with rfl | rfl | rfl | rfl | rfl <;> rfl
theorem net_res45 (tmps : Array Value) (W : World) (p1 : Nat) (a b : Value) (k : Int) (h8 : tmps.getD 4 undef = .pointer (some ⟨p1, 0, none⟩)) (h9 : tmps.getD 5 undef = .int .i64 k) (c0 : W.cell? ⟨p1, 0, none⟩ = some a) (c1 : W.cell? ⟨p1, 1, none⟩ = some b) :
    (results Try.f45 tmps).run Try.prog W = .ok (.tuple #[.agg #[a, b], .int .i64 k]) W := by
  have h8' : tmps[4]?.getD undef = .pointer (some ⟨p1, 0, none⟩) := by simpa using h8
  have h9' : tmps[5]?.getD undef = .int .i64 k := by simpa using h9
  simp [results, Try.results45, go_sem, h8', h9', c0, c1]
  try rfl
set_option maxRecDepth 100000 in
set_option maxHeartbeats 6400000 in
theorem added_any (A : Option Addr) (n c : Nat) (R : Nat → Int) (B : Option Addr) (m d : Nat) (S : Nat → Sgt) (s : Sgt) (w : World) (hA : Sl w A n R) (hB : Sgl w B m S) (hn : n ≤ maxLen) (hm : m ≤ maxLen) :
    Calls Try.prog 45 #[encN A n c B m d, encG s] w (NetPost (addF R n S m s) w) := by
  have HV := Lib.hid (fun (W : World) (hW : Bl w W) => validN_any A n c R B m d S W (hA.below hW) (hB.below hW) hn hm)
  have HSG := Lib.hid (fun W => validSightS_any A n c B m d s W)
  have HA := Lib.hid hA
  have HB := Lib.hid hB
  clear hA hB hn hm
  cases hv : vnB R n S m with
  | false =>
    rw [hv] at HV
    have HF := Lib.hid (show addF R n S m s = noN 1 by rw [addF, hv]; rfl)
    clear hv
    go_enter Try.func45, Try.ntmps45
    go_wp2_with fail
    obtain ⟨Z1, hZ⟩ : ∃ Z, Z = (((w.alloc (Obj.cells #[.slice A n c, .slice B m d] 25)).alloc (Obj.cells #[.int .i64 s.tm, .int .i64 s.ca, .int .i64 s.cb, .int .i64 s.lo, .int .i64 s.hi] 52)).alloc (Obj.cells #[.slice none 0 0, .slice none 0 0] 25)) := ⟨_, rfl⟩
    have bz : Bl w Z1 := by rw [hZ]; exact Bl.tr (Bl.tr (bl_alS _ _) (bl_alS _ _)) (bl_alS _ _)
    have x0 : Z1.cell? ⟨w.heap.size, 0, none⟩ = some (.slice A n c) := by rw [hZ]; go_cell
    have fx0 : Z1.frozen? ⟨w.heap.size, 0, none⟩ = false := by rw [hZ]; go_cell
    have x1 : Z1.cell? ⟨w.heap.size, 1, none⟩ = some (.slice B m d) := by rw [hZ]; go_cell
    have fx1 : Z1.frozen? ⟨w.heap.size, 1, none⟩ = false := by rw [hZ]; go_cell
    have y0 : Z1.cell? ⟨w.heap.size + 1, 0, none⟩ = some (.int .i64 s.tm) := by rw [hZ]; go_cell
    have fy0 : Z1.frozen? ⟨w.heap.size + 1, 0, none⟩ = false := by rw [hZ]; go_cell
    have y1 : Z1.cell? ⟨w.heap.size + 1, 1, none⟩ = some (.int .i64 s.ca) := by rw [hZ]; go_cell
    have fy1 : Z1.frozen? ⟨w.heap.size + 1, 1, none⟩ = false := by rw [hZ]; go_cell
    have y2 : Z1.cell? ⟨w.heap.size + 1, 2, none⟩ = some (.int .i64 s.cb) := by rw [hZ]; go_cell
    have fy2 : Z1.frozen? ⟨w.heap.size + 1, 2, none⟩ = false := by rw [hZ]; go_cell
    have y3 : Z1.cell? ⟨w.heap.size + 1, 3, none⟩ = some (.int .i64 s.lo) := by rw [hZ]; go_cell
    have fy3 : Z1.frozen? ⟨w.heap.size + 1, 3, none⟩ = false := by rw [hZ]; go_cell
    have y4 : Z1.cell? ⟨w.heap.size + 1, 4, none⟩ = some (.int .i64 s.hi) := by rw [hZ]; go_cell
    have fy4 : Z1.frozen? ⟨w.heap.size + 1, 4, none⟩ = false := by rw [hZ]; go_cell
    have r0 : Z1.cell? ⟨w.heap.size + 1 + 1, 0, none⟩ = some (.slice none 0 0) := by rw [hZ]; go_cell
    have fr0 : Z1.frozen? ⟨w.heap.size + 1 + 1, 0, none⟩ = false := by rw [hZ]; go_cell
    have r1 : Z1.cell? ⟨w.heap.size + 1 + 1, 1, none⟩ = some (.slice none 0 0) := by rw [hZ]; go_cell
    have fr1 : Z1.frozen? ⟨w.heap.size + 1 + 1, 1, none⟩ = false := by rw [hZ]; go_cell
    rw [← hZ]
    have HB1 := Lib.hid (bz)
    clear hZ bz
    refine (HV.out _ HB1.out).mono ?_
    rintro e w2 ⟨rfl, hb⟩
    replace fx0 := fzb hb fx0 (ltb x0)
    replace fx1 := fzb hb fx1 (ltb x0)
    replace fy0 := fzb hb fy0 (ltb y0)
    replace fy1 := fzb hb fy1 (ltb y0)
    replace fy2 := fzb hb fy2 (ltb y0)
    replace fy3 := fzb hb fy3 (ltb y0)
    replace fy4 := fzb hb fy4 (ltb y0)
    replace fr0 := fzb hb fr0 (ltb r0)
    replace fr1 := fzb hb fr1 (ltb r0)
    replace x0 := kcb hb x0
    replace x1 := kcb hb x1
    replace y0 := kcb hb y0
    replace y1 := kcb hb y1
    replace y2 := kcb hb y2
    replace y3 := kcb hb y3
    replace y4 := kcb hb y4
    replace r0 := kcb hb r0
    replace r1 := kcb hb r1
    have HB2 := Lib.hid (HB1.out.tr hb)
    clear hb
    have lz0 := ltb x0
    have lz1 := ltb y0
    have lz2 := ltb r0
    go_wp2_with fail
    exact bodyPost_ret (net_res45 _ _ _ _ _ _ rfl rfl (put_0U r0 _ _) (put_1U r0 r1 _ _)) rfl (by rw [HF.out]; exact netPost_no (bl_set (bl_set HB2.out (by omega)) (by omega)))
  | true =>
    rw [hv] at HV
    cases hs : sgB n s with
    | false =>
      rw [hs] at HSG
      have HF := Lib.hid (show addF R n S m s = noN 1 by rw [addF, hv, hs]; rfl)
      clear hv hs
      go_enter Try.func45, Try.ntmps45
      go_wp2_with fail
      obtain ⟨Z1, hZ⟩ : ∃ Z, Z = (((w.alloc (Obj.cells #[.slice A n c, .slice B m d] 25)).alloc (Obj.cells #[.int .i64 s.tm, .int .i64 s.ca, .int .i64 s.cb, .int .i64 s.lo, .int .i64 s.hi] 52)).alloc (Obj.cells #[.slice none 0 0, .slice none 0 0] 25)) := ⟨_, rfl⟩
      have bz : Bl w Z1 := by rw [hZ]; exact Bl.tr (Bl.tr (bl_alS _ _) (bl_alS _ _)) (bl_alS _ _)
      have x0 : Z1.cell? ⟨w.heap.size, 0, none⟩ = some (.slice A n c) := by rw [hZ]; go_cell
      have fx0 : Z1.frozen? ⟨w.heap.size, 0, none⟩ = false := by rw [hZ]; go_cell
      have x1 : Z1.cell? ⟨w.heap.size, 1, none⟩ = some (.slice B m d) := by rw [hZ]; go_cell
      have fx1 : Z1.frozen? ⟨w.heap.size, 1, none⟩ = false := by rw [hZ]; go_cell
      have y0 : Z1.cell? ⟨w.heap.size + 1, 0, none⟩ = some (.int .i64 s.tm) := by rw [hZ]; go_cell
      have fy0 : Z1.frozen? ⟨w.heap.size + 1, 0, none⟩ = false := by rw [hZ]; go_cell
      have y1 : Z1.cell? ⟨w.heap.size + 1, 1, none⟩ = some (.int .i64 s.ca) := by rw [hZ]; go_cell
      have fy1 : Z1.frozen? ⟨w.heap.size + 1, 1, none⟩ = false := by rw [hZ]; go_cell
      have y2 : Z1.cell? ⟨w.heap.size + 1, 2, none⟩ = some (.int .i64 s.cb) := by rw [hZ]; go_cell
      have fy2 : Z1.frozen? ⟨w.heap.size + 1, 2, none⟩ = false := by rw [hZ]; go_cell
      have y3 : Z1.cell? ⟨w.heap.size + 1, 3, none⟩ = some (.int .i64 s.lo) := by rw [hZ]; go_cell
      have fy3 : Z1.frozen? ⟨w.heap.size + 1, 3, none⟩ = false := by rw [hZ]; go_cell
      have y4 : Z1.cell? ⟨w.heap.size + 1, 4, none⟩ = some (.int .i64 s.hi) := by rw [hZ]; go_cell
      have fy4 : Z1.frozen? ⟨w.heap.size + 1, 4, none⟩ = false := by rw [hZ]; go_cell
      have r0 : Z1.cell? ⟨w.heap.size + 1 + 1, 0, none⟩ = some (.slice none 0 0) := by rw [hZ]; go_cell
      have fr0 : Z1.frozen? ⟨w.heap.size + 1 + 1, 0, none⟩ = false := by rw [hZ]; go_cell
      have r1 : Z1.cell? ⟨w.heap.size + 1 + 1, 1, none⟩ = some (.slice none 0 0) := by rw [hZ]; go_cell
      have fr1 : Z1.frozen? ⟨w.heap.size + 1 + 1, 1, none⟩ = false := by rw [hZ]; go_cell
      rw [← hZ]
      have HB1 := Lib.hid (bz)
      clear hZ bz
      refine (HV.out _ HB1.out).mono ?_
      rintro e w2 ⟨rfl, hb⟩
      replace fx0 := fzb hb fx0 (ltb x0)
      replace fx1 := fzb hb fx1 (ltb x0)
      replace fy0 := fzb hb fy0 (ltb y0)
      replace fy1 := fzb hb fy1 (ltb y0)
      replace fy2 := fzb hb fy2 (ltb y0)
      replace fy3 := fzb hb fy3 (ltb y0)
      replace fy4 := fzb hb fy4 (ltb y0)
      replace fr0 := fzb hb fr0 (ltb r0)
      replace fr1 := fzb hb fr1 (ltb r0)
      replace x0 := kcb hb x0
      replace x1 := kcb hb x1
      replace y0 := kcb hb y0
      replace y1 := kcb hb y1
      replace y2 := kcb hb y2
      replace y3 := kcb hb y3
      replace y4 := kcb hb y4
      replace r0 := kcb hb r0
      replace r1 := kcb hb r1
      have HB2 := Lib.hid (HB1.out.tr hb)
      clear hb
      have lz0 := ltb x0
      have lz1 := ltb y0
      have lz2 := ltb r0
      go_wp2_with fail
      refine (HSG.out _).mono ?_
      rintro e w3 ⟨rfl, hb⟩
      replace fx0 := fzb hb fx0 (ltb x0)
      replace fx1 := fzb hb fx1 (ltb x0)
      replace fy0 := fzb hb fy0 (ltb y0)
      replace fy1 := fzb hb fy1 (ltb y0)
      replace fy2 := fzb hb fy2 (ltb y0)
      replace fy3 := fzb hb fy3 (ltb y0)
      replace fy4 := fzb hb fy4 (ltb y0)
      replace fr0 := fzb hb fr0 (ltb r0)
      replace fr1 := fzb hb fr1 (ltb r0)
      replace x0 := kcb hb x0
      replace x1 := kcb hb x1
      replace y0 := kcb hb y0
      replace y1 := kcb hb y1
      replace y2 := kcb hb y2
      replace y3 := kcb hb y3
      replace y4 := kcb hb y4
      replace r0 := kcb hb r0
      replace r1 := kcb hb r1
      have HB3 := Lib.hid (HB2.out.tr hb)
      clear hb
      have lz0 := ltb x0
      have lz1 := ltb y0
      have lz2 := ltb r0
      go_wp2_with fail
      exact bodyPost_ret (net_res45 _ _ _ _ _ _ rfl rfl (put_0U r0 _ _) (put_1U r0 r1 _ _)) rfl (by rw [HF.out]; exact netPost_no (bl_set (bl_set HB3.out (by omega)) (by omega)))
    | true =>
      rw [hs] at HSG
      have HVN := Lib.hid (vn_iff.1 hv)
      by_cases h30 : m = 30
      · have HF := Lib.hid (show addF R n S m s = noN 4 by rw [addF, hv, hs, if_neg (by decide), if_pos h30])
        have hm1 : ((m : Int) == 30) = true := by simp; omega
        clear hv hs h30
        go_enter Try.func45, Try.ntmps45
        go_wp2_with fail
        obtain ⟨Z1, hZ⟩ : ∃ Z, Z = (((w.alloc (Obj.cells #[.slice A n c, .slice B m d] 25)).alloc (Obj.cells #[.int .i64 s.tm, .int .i64 s.ca, .int .i64 s.cb, .int .i64 s.lo, .int .i64 s.hi] 52)).alloc (Obj.cells #[.slice none 0 0, .slice none 0 0] 25)) := ⟨_, rfl⟩
        have bz : Bl w Z1 := by rw [hZ]; exact Bl.tr (Bl.tr (bl_alS _ _) (bl_alS _ _)) (bl_alS _ _)
        have x0 : Z1.cell? ⟨w.heap.size, 0, none⟩ = some (.slice A n c) := by rw [hZ]; go_cell
        have fx0 : Z1.frozen? ⟨w.heap.size, 0, none⟩ = false := by rw [hZ]; go_cell
        have x1 : Z1.cell? ⟨w.heap.size, 1, none⟩ = some (.slice B m d) := by rw [hZ]; go_cell
        have fx1 : Z1.frozen? ⟨w.heap.size, 1, none⟩ = false := by rw [hZ]; go_cell
        have y0 : Z1.cell? ⟨w.heap.size + 1, 0, none⟩ = some (.int .i64 s.tm) := by rw [hZ]; go_cell
        have fy0 : Z1.frozen? ⟨w.heap.size + 1, 0, none⟩ = false := by rw [hZ]; go_cell
        have y1 : Z1.cell? ⟨w.heap.size + 1, 1, none⟩ = some (.int .i64 s.ca) := by rw [hZ]; go_cell
        have fy1 : Z1.frozen? ⟨w.heap.size + 1, 1, none⟩ = false := by rw [hZ]; go_cell
        have y2 : Z1.cell? ⟨w.heap.size + 1, 2, none⟩ = some (.int .i64 s.cb) := by rw [hZ]; go_cell
        have fy2 : Z1.frozen? ⟨w.heap.size + 1, 2, none⟩ = false := by rw [hZ]; go_cell
        have y3 : Z1.cell? ⟨w.heap.size + 1, 3, none⟩ = some (.int .i64 s.lo) := by rw [hZ]; go_cell
        have fy3 : Z1.frozen? ⟨w.heap.size + 1, 3, none⟩ = false := by rw [hZ]; go_cell
        have y4 : Z1.cell? ⟨w.heap.size + 1, 4, none⟩ = some (.int .i64 s.hi) := by rw [hZ]; go_cell
        have fy4 : Z1.frozen? ⟨w.heap.size + 1, 4, none⟩ = false := by rw [hZ]; go_cell
        have r0 : Z1.cell? ⟨w.heap.size + 1 + 1, 0, none⟩ = some (.slice none 0 0) := by rw [hZ]; go_cell
        have fr0 : Z1.frozen? ⟨w.heap.size + 1 + 1, 0, none⟩ = false := by rw [hZ]; go_cell
        have r1 : Z1.cell? ⟨w.heap.size + 1 + 1, 1, none⟩ = some (.slice none 0 0) := by rw [hZ]; go_cell
        have fr1 : Z1.frozen? ⟨w.heap.size + 1 + 1, 1, none⟩ = false := by rw [hZ]; go_cell
        rw [← hZ]
        have HB1 := Lib.hid (bz)
        clear hZ bz
        refine (HV.out _ HB1.out).mono ?_
        rintro e w2 ⟨rfl, hb⟩
        replace fx0 := fzb hb fx0 (ltb x0)
        replace fx1 := fzb hb fx1 (ltb x0)
        replace fy0 := fzb hb fy0 (ltb y0)
        replace fy1 := fzb hb fy1 (ltb y0)
        replace fy2 := fzb hb fy2 (ltb y0)
        replace fy3 := fzb hb fy3 (ltb y0)
        replace fy4 := fzb hb fy4 (ltb y0)
        replace fr0 := fzb hb fr0 (ltb r0)
        replace fr1 := fzb hb fr1 (ltb r0)
        replace x0 := kcb hb x0
        replace x1 := kcb hb x1
        replace y0 := kcb hb y0
        replace y1 := kcb hb y1
        replace y2 := kcb hb y2
        replace y3 := kcb hb y3
        replace y4 := kcb hb y4
        replace r0 := kcb hb r0
        replace r1 := kcb hb r1
        have HB2 := Lib.hid (HB1.out.tr hb)
        clear hb
        have lz0 := ltb x0
        have lz1 := ltb y0
        have lz2 := ltb r0
        go_wp2_with fail
        refine (HSG.out _).mono ?_
        rintro e w3 ⟨rfl, hb⟩
        replace fx0 := fzb hb fx0 (ltb x0)
        replace fx1 := fzb hb fx1 (ltb x0)
        replace fy0 := fzb hb fy0 (ltb y0)
        replace fy1 := fzb hb fy1 (ltb y0)
        replace fy2 := fzb hb fy2 (ltb y0)
        replace fy3 := fzb hb fy3 (ltb y0)
        replace fy4 := fzb hb fy4 (ltb y0)
        replace fr0 := fzb hb fr0 (ltb r0)
        replace fr1 := fzb hb fr1 (ltb r0)
        replace x0 := kcb hb x0
        replace x1 := kcb hb x1
        replace y0 := kcb hb y0
        replace y1 := kcb hb y1
        replace y2 := kcb hb y2
        replace y3 := kcb hb y3
        replace y4 := kcb hb y4
        replace r0 := kcb hb r0
        replace r1 := kcb hb r1
        have HB3 := Lib.hid (HB2.out.tr hb)
        clear hb
        have lz0 := ltb x0
        have lz1 := ltb y0
        have lz2 := ltb r0
        go_wp2_with fail
        exact bodyPost_ret (net_res45 _ _ _ _ _ _ rfl rfl (put_0U r0 _ _) (put_1U r0 r1 _ _)) rfl (by rw [HF.out]; exact netPost_no (bl_set (bl_set HB3.out (by omega)) (by omega)))
      · have HF := Lib.hid (show addF R n S m s = ⟨n, R, m + 1, addS S m s, 0⟩ by rw [addF, hv, hs, if_neg (by decide), if_neg h30])
        have hm1 : ((m : Int) == 30) = false := by simp; omega
        clear hv hs h30
        obtain ⟨i0, hi0, hz0, hz1, hz2⟩ := info_partsU sgt_info
        have HI := Lib.hid (And.intro hi0 (And.intro hz0 (And.intro hz1 hz2)))
        clear hi0 hz0 hz1 hz2
        go_enter Try.func45, Try.ntmps45
        go_wp2_with fail
        obtain ⟨Z1, hZ⟩ : ∃ Z, Z = (((w.alloc (Obj.cells #[.slice A n c, .slice B m d] 25)).alloc (Obj.cells #[.int .i64 s.tm, .int .i64 s.ca, .int .i64 s.cb, .int .i64 s.lo, .int .i64 s.hi] 52)).alloc (Obj.cells #[.slice none 0 0, .slice none 0 0] 25)) := ⟨_, rfl⟩
        have bz : Bl w Z1 := by rw [hZ]; exact Bl.tr (Bl.tr (bl_alS _ _) (bl_alS _ _)) (bl_alS _ _)
        have x0 : Z1.cell? ⟨w.heap.size, 0, none⟩ = some (.slice A n c) := by rw [hZ]; go_cell
        have fx0 : Z1.frozen? ⟨w.heap.size, 0, none⟩ = false := by rw [hZ]; go_cell
        have x1 : Z1.cell? ⟨w.heap.size, 1, none⟩ = some (.slice B m d) := by rw [hZ]; go_cell
        have fx1 : Z1.frozen? ⟨w.heap.size, 1, none⟩ = false := by rw [hZ]; go_cell
        have y0 : Z1.cell? ⟨w.heap.size + 1, 0, none⟩ = some (.int .i64 s.tm) := by rw [hZ]; go_cell
        have fy0 : Z1.frozen? ⟨w.heap.size + 1, 0, none⟩ = false := by rw [hZ]; go_cell
        have y1 : Z1.cell? ⟨w.heap.size + 1, 1, none⟩ = some (.int .i64 s.ca) := by rw [hZ]; go_cell
        have fy1 : Z1.frozen? ⟨w.heap.size + 1, 1, none⟩ = false := by rw [hZ]; go_cell
        have y2 : Z1.cell? ⟨w.heap.size + 1, 2, none⟩ = some (.int .i64 s.cb) := by rw [hZ]; go_cell
        have fy2 : Z1.frozen? ⟨w.heap.size + 1, 2, none⟩ = false := by rw [hZ]; go_cell
        have y3 : Z1.cell? ⟨w.heap.size + 1, 3, none⟩ = some (.int .i64 s.lo) := by rw [hZ]; go_cell
        have fy3 : Z1.frozen? ⟨w.heap.size + 1, 3, none⟩ = false := by rw [hZ]; go_cell
        have y4 : Z1.cell? ⟨w.heap.size + 1, 4, none⟩ = some (.int .i64 s.hi) := by rw [hZ]; go_cell
        have fy4 : Z1.frozen? ⟨w.heap.size + 1, 4, none⟩ = false := by rw [hZ]; go_cell
        have r0 : Z1.cell? ⟨w.heap.size + 1 + 1, 0, none⟩ = some (.slice none 0 0) := by rw [hZ]; go_cell
        have fr0 : Z1.frozen? ⟨w.heap.size + 1 + 1, 0, none⟩ = false := by rw [hZ]; go_cell
        have r1 : Z1.cell? ⟨w.heap.size + 1 + 1, 1, none⟩ = some (.slice none 0 0) := by rw [hZ]; go_cell
        have fr1 : Z1.frozen? ⟨w.heap.size + 1 + 1, 1, none⟩ = false := by rw [hZ]; go_cell
        rw [← hZ]
        have HB1 := Lib.hid (bz)
        clear hZ bz
        refine (HV.out _ HB1.out).mono ?_
        rintro e w2 ⟨rfl, hb⟩
        replace fx0 := fzb hb fx0 (ltb x0)
        replace fx1 := fzb hb fx1 (ltb x0)
        replace fy0 := fzb hb fy0 (ltb y0)
        replace fy1 := fzb hb fy1 (ltb y0)
        replace fy2 := fzb hb fy2 (ltb y0)
        replace fy3 := fzb hb fy3 (ltb y0)
        replace fy4 := fzb hb fy4 (ltb y0)
        replace fr0 := fzb hb fr0 (ltb r0)
        replace fr1 := fzb hb fr1 (ltb r0)
        replace x0 := kcb hb x0
        replace x1 := kcb hb x1
        replace y0 := kcb hb y0
        replace y1 := kcb hb y1
        replace y2 := kcb hb y2
        replace y3 := kcb hb y3
        replace y4 := kcb hb y4
        replace r0 := kcb hb r0
        replace r1 := kcb hb r1
        have HB2 := Lib.hid (HB1.out.tr hb)
        clear hb
        have lz0 := ltb x0
        have lz1 := ltb y0
        have lz2 := ltb r0
        go_wp2_with fail
        refine (HSG.out _).mono ?_
        rintro e w3 ⟨rfl, hb⟩
        replace fx0 := fzb hb fx0 (ltb x0)
        replace fx1 := fzb hb fx1 (ltb x0)
        replace fy0 := fzb hb fy0 (ltb y0)
        replace fy1 := fzb hb fy1 (ltb y0)
        replace fy2 := fzb hb fy2 (ltb y0)
        replace fy3 := fzb hb fy3 (ltb y0)
        replace fy4 := fzb hb fy4 (ltb y0)
        replace fr0 := fzb hb fr0 (ltb r0)
        replace fr1 := fzb hb fr1 (ltb r0)
        replace x0 := kcb hb x0
        replace x1 := kcb hb x1
        replace y0 := kcb hb y0
        replace y1 := kcb hb y1
        replace y2 := kcb hb y2
        replace y3 := kcb hb y3
        replace y4 := kcb hb y4
        replace r0 := kcb hb r0
        replace r1 := kcb hb r1
        have HB3 := Lib.hid (HB2.out.tr hb)
        clear hb
        have lz0 := ltb x0
        have lz1 := ltb y0
        have lz2 := ltb r0
        go_wp2_with fail
        have hx2 := HVN.out.n8
        have hx3 := HVN.out.m30
        refine (copied_any A n c R B m d S _ (HA.out.below HB3.out) (HB.out.below HB3.out) (by omega) (by omega)).mono ?_
        rintro e w4 ⟨A1, d1, B1, d2, rfl, ho1, ho2, hb⟩
        have lb0 : w.heap.size + 1 + 1 < w3.heap.size := ltb r0
        replace fx0 := fzb hb fx0 (ltb x0)
        replace fx1 := fzb hb fx1 (ltb x0)
        replace fy0 := fzb hb fy0 (ltb y0)
        replace fy1 := fzb hb fy1 (ltb y0)
        replace fy2 := fzb hb fy2 (ltb y0)
        replace fy3 := fzb hb fy3 (ltb y0)
        replace fy4 := fzb hb fy4 (ltb y0)
        replace fr0 := fzb hb fr0 (ltb r0)
        replace fr1 := fzb hb fr1 (ltb r0)
        replace x0 := kcb hb x0
        replace x1 := kcb hb x1
        replace y0 := kcb hb y0
        replace y1 := kcb hb y1
        replace y2 := kcb hb y2
        replace y3 := kcb hb y3
        replace y4 := kcb hb y4
        replace r0 := kcb hb r0
        replace r1 := kcb hb r1
        have HB4 := Lib.hid (HB3.out.tr hb)
        have lz0 := ltb x0
        have lz1 := ltb y0
        have lz2 := ltb r0
        obtain ⟨P, hP⟩ : ∃ P, P = (w4.setCell ⟨w.heap.size, 0, none⟩ (.slice A1 n d1)).setCell ⟨w.heap.size, 1, none⟩ (.slice B1 m d2) := ⟨_, rfl⟩
        have BP : Bl w P := by rw [hP]; exact bl_set (bl_set HB4.out (Nat.le_refl _)) (Nat.le_refl _)
        have SP : P.heap.size = w4.heap.size := by rw [hP]; simp
        obtain ⟨Q, hQ⟩ : ∃ Q, Q = P.alloc (Obj.cells #[.int .i64 s.tm, .int .i64 s.ca, .int .i64 s.cb, .int .i64 s.lo, .int .i64 s.hi] 52) := ⟨_, rfl⟩
        have BQ : Bl P Q := by rw [hQ]; exact bl_alU _ _
        have O1 := own_belowU (own_setS (own_setS ho1 (show w.heap.size < w3.heap.size by omega) (o := 0) (u := .slice A1 n d1)) (show w.heap.size < w3.heap.size by omega) (o := 1) (u := .slice B1 m d2)) (hP ▸ BQ)
        have O2 := own_belowU (own_setS (own_setS ho2 (show w.heap.size < w3.heap.size by omega) (o := 0) (u := .slice A1 n d1)) (show w.heap.size < w3.heap.size by omega) (o := 1) (u := .slice B1 m d2)) (hP ▸ BQ)
        have x0q : Q.cell? ⟨w.heap.size, 0, none⟩ = some (.slice A1 n d1) := kcb BQ (by rw [hP]; exact put_0U x0 _ _)
        have x1q : Q.cell? ⟨w.heap.size, 1, none⟩ = some (.slice B1 m d2) := kcb BQ (by rw [hP]; exact put_1U x0 x1 _ _)
        have r0q : Q.cell? ⟨w.heap.size + 1 + 1, 0, none⟩ = some (.slice none 0 0) := kcb BQ (by rw [hP]; exact cell_setO (cell_setO r0 (by omega)) (by omega))
        have r1q : Q.cell? ⟨w.heap.size + 1 + 1, 1, none⟩ = some (.slice none 0 0) := kcb BQ (by rw [hP]; exact cell_setO (cell_setO r1 (by omega)) (by omega))
        have f1q : Q.frozen? ⟨w.heap.size, 1, none⟩ = false := fzb BQ (by rw [hP]; simpa using fx1) (by rw [SP]; omega)
        have g0q : Q.frozen? ⟨w.heap.size + 1 + 1, 0, none⟩ = false := fzb BQ (by rw [hP]; simpa using fr0) (by rw [SP]; omega)
        have g1q : Q.frozen? ⟨w.heap.size + 1 + 1, 1, none⟩ = false := fzb BQ (by rw [hP]; simpa using fr1) (by rw [SP]; omega)
        have c0 : Q.cell? ⟨w4.heap.size, 0, none⟩ = some (.int .i64 s.tm) := by rw [hQ, ← SP]; go_cell
        have c1 : Q.cell? ⟨w4.heap.size, 1, none⟩ = some (.int .i64 s.ca) := by rw [hQ, ← SP]; go_cell
        have c2 : Q.cell? ⟨w4.heap.size, 2, none⟩ = some (.int .i64 s.cb) := by rw [hQ, ← SP]; go_cell
        have c3 : Q.cell? ⟨w4.heap.size, 3, none⟩ = some (.int .i64 s.lo) := by rw [hQ, ← SP]; go_cell
        have c4 : Q.cell? ⟨w4.heap.size, 4, none⟩ = some (.int .i64 s.hi) := by rw [hQ, ← SP]; go_cell
        have HBQ := Lib.hid (BP.tr BQ)
        have HO1 := Lib.hid O1
        have HO2 := Lib.hid O2
        have HC := Lib.hid (addS_one c0 c1 c2 c3 c4)
        have HQ := Lib.hid (And.intro x0q (And.intro x1q (And.intro r0q (And.intro r1q (And.intro f1q (And.intro g0q g1q))))))
        have SQ : w4.heap.size + 1 = Q.heap.size := by rw [hQ, ← SP]; simp
        have HSZ := Lib.hid (show w3.heap.size ≤ Q.heap.size from Nat.le_trans hb.size (by omega))
        clear ho1 ho2 O1 O2 c0 c1 c2 c3 c4 x0q x1q r0q r1q f1q g0q g1q BP BQ SP hb SQ
        subst hQ
        subst hP
        go_wp2_with (at_builtin; refine wpList_append_own _ rfl _ _ _ rfl w3.heap.size 52 i0 _ 5 40 Try.underlying23 HI.out.1 HI.out.2.1 HI.out.2.2.1 HI.out.2.2.2 rfl (by omega) _ m (sgC S m) rfl HO2.out ⟨w4.heap.size, 0, none⟩ 1 1 (cellsG s) rfl rfl HC.out (cellsG_one s) (by unfold maxLen; omega) (by omega) HSZ.out ?_; intro v9 w9 hown1 hgrow hnil9; clear hnil9; rw [addS_cells] at hown1; obtain ⟨B9, d9, rfl, _⟩ := sgl_of_own hown1; have x0 := grow_cellU hgrow HO2.out (by omega) HQ.out.1; have x1 := grow_cellU hgrow HO2.out (by omega) HQ.out.2.1; have r0 := grow_cellU hgrow HO2.out (by omega) HQ.out.2.2.1; have r1 := grow_cellU hgrow HO2.out (by omega) HQ.out.2.2.2.1; have fx1 := grow_fzU hgrow HO2.out (by omega) (ltb HQ.out.2.1) HQ.out.2.2.2.2.1; have fr0 := grow_fzU hgrow HO2.out (by omega) (ltb HQ.out.2.2.1) HQ.out.2.2.2.2.2.1; have fr1 := grow_fzU hgrow HO2.out (by omega) (ltb HQ.out.2.2.1) HQ.out.2.2.2.2.2.2; have HO9 := Lib.hid hown1; have HR9 := Lib.hid (grow_ownU hgrow HO1.out HO2.out (by decide)); have HB9 := Lib.hid (grow_blU HBQ.out hgrow HO2.out (by omega)); have lx9 := ltb x0; have lr9 := ltb r0; clear hown1 hgrow)
        refine bodyPost_ret (net_res45 _ _ _ _ _ _ rfl rfl (put_0U (cell_setO r0 (by omega)) _ _) (put_1U (cell_setO r0 (by omega)) (cell_setO r1 (by omega)) _ _)) rfl ?_
        rw [HF.out]
        obtain ⟨A8, d8, e8, _, _, hs8⟩ := sl_of_ownU (own_setS (own_setS (own_setS HR9.out (show w.heap.size < w3.heap.size by omega) (o := 1) (u := .slice B9 (m + 1) d9)) (show w.heap.size + 1 + 1 < w3.heap.size by omega) (o := 0) (u := .slice A1 n d1)) (show w.heap.size + 1 + 1 < w3.heap.size by omega) (o := 1) (u := .slice B9 (m + 1) d9))
        obtain ⟨B8, f8, e9, _, _, hs9⟩ := sgl_of_own (own_setS (own_setS (own_setS HO9.out (show w.heap.size < w3.heap.size by omega) (o := 1) (u := .slice B9 (m + 1) d9)) (show w.heap.size + 1 + 1 < w3.heap.size by omega) (o := 0) (u := .slice A1 n d1)) (show w.heap.size + 1 + 1 < w3.heap.size by omega) (o := 1) (u := .slice B9 (m + 1) d9))
        cases e8
        cases e9
        exact ⟨A1, d1, B9, d9, rfl, by unfold maxLen; dsimp only; omega, by unfold maxLen; dsimp only; omega, hs8, hs9, bl_set (bl_set (bl_set HB9.out (by omega)) (by omega)) (by omega)⟩
end Go.Proofs.Ytennmdlajealpaa
