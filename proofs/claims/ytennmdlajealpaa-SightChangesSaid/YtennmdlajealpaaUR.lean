/-
  Package sight's reference: Without, Shifted, Same.
-/
import Derived.Test.YtennmdlajealpaaUQ
import Derived.Test.YtennmdlajealpaaUC
import Derived.BigQuiet
import Derived.Deep.QuietTactic
import Derived.Deep.RegionHeld3
namespace Go.Proofs.Ytennmdlajealpaa
open Go.RowKit Go.Maps
set_option linter.unusedSimpArgs false
set_option linter.unusedVariables false

theorem in_cl {m : Nat} {i : Int} : inB i 0 ((m : Int) - 1) = clB m i := by
  rw [Bool.eq_iff_iff, inB_iff, clB_iff]
  omega
theorem net_res50 (tmps : Array Value) (W : World) (p1 : Nat) (a b : Value) (k : Int) (h8 : tmps.getD 6 undef = .pointer (some ⟨p1, 0, none⟩)) (h9 : tmps.getD 7 undef = .int .i64 k) (c0 : W.cell? ⟨p1, 0, none⟩ = some a) (c1 : W.cell? ⟨p1, 1, none⟩ = some b) :
    (results Try.f50 tmps).run Try.prog W = .ok (.tuple #[.agg #[a, b], .int .i64 k]) W := by
  have h8' : tmps[6]?.getD undef = .pointer (some ⟨p1, 0, none⟩) := by simpa using h8
  have h9' : tmps[7]?.getD undef = .int .i64 k := by simpa using h9
  simp [results, Try.results50, go_sem, h8', h9', c0, c1]
  try rfl
set_option maxRecDepth 100000 in
set_option maxHeartbeats 6400000 in
theorem rwithoutN_any (A : Option Addr) (n c : Nat) (R : Nat → Int) (B : Option Addr) (m d : Nat) (S : Nat → Sgt) (i : Int) (w : World) (hA : Sl w A n R) (hB : Sgl w B m S) (hn : n ≤ maxLen) (hm : m ≤ maxLen) :
    Calls Try.prog 48 #[encN A n c B m d, .int .i64 i] w (NetPost (witF R n S m i) w) := by
  have HV := Lib.hid (fun (W : World) (hW : Bl w W) => rvalidN_any A n c R B m d S W (hA.below hW) (hB.below hW) hn hm)
  have HS := Lib.hid (fun W => within2_any i 0 ((m : Int) - 1) W)
  have HA := Lib.hid hA
  have HB := Lib.hid hB
  have v1 : IntKind.i64.wrap ((m : Int) - 1) = (m : Int) - 1 := IntWalk.i64_in _ (by unfold maxLen at hm; omega)
  rw [in_cl] at HS
  clear hA hB hn hm
  cases hv : vnB R n S m with
  | false =>
    rw [hv] at HV
    have HF := Lib.hid (show witF R n S m i = noN 1 by rw [witF, if_pos hv])
    clear hv
    go_enter Try.func48, Try.ntmps48
    go_wp2_with fail
    obtain ⟨Z1, hZ⟩ : ∃ Z, Z = ((w.alloc (Obj.cells #[.slice A n c, .slice B m d] 25)).alloc (Obj.cells #[.slice none 0 0, .slice none 0 0] 25)) := ⟨_, rfl⟩
    have bz : Bl w Z1 := by rw [hZ]; exact Bl.tr (bl_alS _ _) (bl_alS _ _)
    have x0 : Z1.cell? ⟨w.heap.size, 0, none⟩ = some (.slice A n c) := by rw [hZ]; go_cell
    have fx0 : Z1.frozen? ⟨w.heap.size, 0, none⟩ = false := by rw [hZ]; go_cell
    have x1 : Z1.cell? ⟨w.heap.size, 1, none⟩ = some (.slice B m d) := by rw [hZ]; go_cell
    have fx1 : Z1.frozen? ⟨w.heap.size, 1, none⟩ = false := by rw [hZ]; go_cell
    have r0 : Z1.cell? ⟨w.heap.size + 1, 0, none⟩ = some (.slice none 0 0) := by rw [hZ]; go_cell
    have fr0 : Z1.frozen? ⟨w.heap.size + 1, 0, none⟩ = false := by rw [hZ]; go_cell
    have r1 : Z1.cell? ⟨w.heap.size + 1, 1, none⟩ = some (.slice none 0 0) := by rw [hZ]; go_cell
    have fr1 : Z1.frozen? ⟨w.heap.size + 1, 1, none⟩ = false := by rw [hZ]; go_cell
    rw [← hZ]
    have HB1 := Lib.hid (bz)
    clear hZ bz
    refine (HV.out _ HB1.out).mono ?_
    rintro e w2 ⟨rfl, hb⟩
    replace fx0 := fzb hb fx0 (ltb x0)
    replace fx1 := fzb hb fx1 (ltb x0)
    replace fr0 := fzb hb fr0 (ltb r0)
    replace fr1 := fzb hb fr1 (ltb r0)
    replace x0 := kcb hb x0
    replace x1 := kcb hb x1
    replace r0 := kcb hb r0
    replace r1 := kcb hb r1
    have HB2 := Lib.hid (HB1.out.tr hb)
    clear hb
    have lz0 := ltb x0
    have lz1 := ltb r0
    go_wp2_with fail
    exact bodyPost_ret (net_res48 _ _ _ _ _ _ rfl rfl (put_0U r0 _ _) (put_1U r0 r1 _ _)) rfl (by rw [HF.out]; exact netPost_no (bl_set (bl_set HB2.out (by omega)) (by omega)))
  | true =>
    have HVN := Lib.hid (vn_iff.1 hv)
    rw [hv] at HV
    cases hc : clB m i with
    | false =>
      rw [hc] at HS
      have HF := Lib.hid (show witF R n S m i = noN 5 by rw [witF, if_neg (by rw [hv]; decide), if_pos hc])
      clear hv hc
      go_enter Try.func48, Try.ntmps48
      go_wp2_with fail
      obtain ⟨Z1, hZ⟩ : ∃ Z, Z = ((w.alloc (Obj.cells #[.slice A n c, .slice B m d] 25)).alloc (Obj.cells #[.slice none 0 0, .slice none 0 0] 25)) := ⟨_, rfl⟩
      have bz : Bl w Z1 := by rw [hZ]; exact Bl.tr (bl_alS _ _) (bl_alS _ _)
      have x0 : Z1.cell? ⟨w.heap.size, 0, none⟩ = some (.slice A n c) := by rw [hZ]; go_cell
      have fx0 : Z1.frozen? ⟨w.heap.size, 0, none⟩ = false := by rw [hZ]; go_cell
      have x1 : Z1.cell? ⟨w.heap.size, 1, none⟩ = some (.slice B m d) := by rw [hZ]; go_cell
      have fx1 : Z1.frozen? ⟨w.heap.size, 1, none⟩ = false := by rw [hZ]; go_cell
      have r0 : Z1.cell? ⟨w.heap.size + 1, 0, none⟩ = some (.slice none 0 0) := by rw [hZ]; go_cell
      have fr0 : Z1.frozen? ⟨w.heap.size + 1, 0, none⟩ = false := by rw [hZ]; go_cell
      have r1 : Z1.cell? ⟨w.heap.size + 1, 1, none⟩ = some (.slice none 0 0) := by rw [hZ]; go_cell
      have fr1 : Z1.frozen? ⟨w.heap.size + 1, 1, none⟩ = false := by rw [hZ]; go_cell
      rw [← hZ]
      have HB1 := Lib.hid (bz)
      clear hZ bz
      refine (HV.out _ HB1.out).mono ?_
      rintro e w2 ⟨rfl, hb⟩
      replace fx0 := fzb hb fx0 (ltb x0)
      replace fx1 := fzb hb fx1 (ltb x0)
      replace fr0 := fzb hb fr0 (ltb r0)
      replace fr1 := fzb hb fr1 (ltb r0)
      replace x0 := kcb hb x0
      replace x1 := kcb hb x1
      replace r0 := kcb hb r0
      replace r1 := kcb hb r1
      have HB2 := Lib.hid (HB1.out.tr hb)
      clear hb
      have lz0 := ltb x0
      have lz1 := ltb r0
      go_wp2_with fail
      refine (HS.out _).mono ?_
      rintro e w3 ⟨rfl, hb⟩
      replace fx0 := fzb hb fx0 (ltb x0)
      replace fx1 := fzb hb fx1 (ltb x0)
      replace fr0 := fzb hb fr0 (ltb r0)
      replace fr1 := fzb hb fr1 (ltb r0)
      replace x0 := kcb hb x0
      replace x1 := kcb hb x1
      replace r0 := kcb hb r0
      replace r1 := kcb hb r1
      have HB3 := Lib.hid (HB2.out.tr hb)
      clear hb
      have lz0 := ltb x0
      have lz1 := ltb r0
      go_wp2_with fail
      exact bodyPost_ret (net_res48 _ _ _ _ _ _ rfl rfl (put_0U r0 _ _) (put_1U r0 r1 _ _)) rfl (by rw [HF.out]; exact netPost_no (bl_set (bl_set HB3.out (by omega)) (by omega)))
    | true =>
      rw [hc] at HS
      have hcc := clB_iff.1 hc
      have HF := Lib.hid (show witF R n S m i = ⟨n, R, witN i m, witS S i, 0⟩ by
        rw [witF, if_neg (by rw [hv]; decide), if_neg (by rw [hc]; decide)]
        congr 1
        · unfold witN; rw [if_pos (by omega)]
        · funext j; unfold witS; rw [if_neg (by omega)])
      clear hv hc hcc
      go_enter Try.func48, Try.ntmps48
      go_wp2_with fail
      obtain ⟨Z1, hZ⟩ : ∃ Z, Z = ((w.alloc (Obj.cells #[.slice A n c, .slice B m d] 25)).alloc (Obj.cells #[.slice none 0 0, .slice none 0 0] 25)) := ⟨_, rfl⟩
      have bz : Bl w Z1 := by rw [hZ]; exact Bl.tr (bl_alS _ _) (bl_alS _ _)
      have x0 : Z1.cell? ⟨w.heap.size, 0, none⟩ = some (.slice A n c) := by rw [hZ]; go_cell
      have fx0 : Z1.frozen? ⟨w.heap.size, 0, none⟩ = false := by rw [hZ]; go_cell
      have x1 : Z1.cell? ⟨w.heap.size, 1, none⟩ = some (.slice B m d) := by rw [hZ]; go_cell
      have fx1 : Z1.frozen? ⟨w.heap.size, 1, none⟩ = false := by rw [hZ]; go_cell
      have r0 : Z1.cell? ⟨w.heap.size + 1, 0, none⟩ = some (.slice none 0 0) := by rw [hZ]; go_cell
      have fr0 : Z1.frozen? ⟨w.heap.size + 1, 0, none⟩ = false := by rw [hZ]; go_cell
      have r1 : Z1.cell? ⟨w.heap.size + 1, 1, none⟩ = some (.slice none 0 0) := by rw [hZ]; go_cell
      have fr1 : Z1.frozen? ⟨w.heap.size + 1, 1, none⟩ = false := by rw [hZ]; go_cell
      rw [← hZ]
      have HB1 := Lib.hid (bz)
      clear hZ bz
      refine (HV.out _ HB1.out).mono ?_
      rintro e w2 ⟨rfl, hb⟩
      replace fx0 := fzb hb fx0 (ltb x0)
      replace fx1 := fzb hb fx1 (ltb x0)
      replace fr0 := fzb hb fr0 (ltb r0)
      replace fr1 := fzb hb fr1 (ltb r0)
      replace x0 := kcb hb x0
      replace x1 := kcb hb x1
      replace r0 := kcb hb r0
      replace r1 := kcb hb r1
      have HB2 := Lib.hid (HB1.out.tr hb)
      clear hb
      have lz0 := ltb x0
      have lz1 := ltb r0
      go_wp2_with fail
      refine (HS.out _).mono ?_
      rintro e w3 ⟨rfl, hb⟩
      replace fx0 := fzb hb fx0 (ltb x0)
      replace fx1 := fzb hb fx1 (ltb x0)
      replace fr0 := fzb hb fr0 (ltb r0)
      replace fr1 := fzb hb fr1 (ltb r0)
      replace x0 := kcb hb x0
      replace x1 := kcb hb x1
      replace r0 := kcb hb r0
      replace r1 := kcb hb r1
      have HB3 := Lib.hid (HB2.out.tr hb)
      clear hb
      have lz0 := ltb x0
      have lz1 := ltb r0
      go_wp2_with fail
      refine (rwithout_any A n c R B m d S i _ (HA.out.below HB3.out) (HB.out.below HB3.out) (by have := HVN.out.n2; omega) (by have := HVN.out.n8; omega) (by have := HVN.out.m30; omega)).mono ?_
      rintro e w9 ⟨A1, d1, B1, d2, rfl, ho1, ho2, hb⟩
      have hrr : w.heap.size + 1 < w3.heap.size := ltb r0
      replace fx0 := fzb hb fx0 (ltb x0)
      replace fx1 := fzb hb fx1 (ltb x0)
      replace fr0 := fzb hb fr0 (ltb r0)
      replace fr1 := fzb hb fr1 (ltb r0)
      replace x0 := kcb hb x0
      replace x1 := kcb hb x1
      replace r0 := kcb hb r0
      replace r1 := kcb hb r1
      have HB4 := Lib.hid (HB3.out.tr hb)
      have lz0 := ltb x0
      have lz1 := ltb r0
      obtain ⟨A8, d8, e8, hc1, hc2, hs1⟩ := sl_of_ownU (own_setS (own_setS ho1 hrr (o := 0) (u := .slice A1 n d1)) hrr (o := 1) (u := .slice B1 (witN i m) d2))
      obtain ⟨B8, f8, e9, hc3, hc4, hs2⟩ := sgl_of_own (own_setS (own_setS ho2 hrr (o := 0) (u := .slice A1 n d1)) hrr (o := 1) (u := .slice B1 (witN i m) d2))
      cases e8
      cases e9
      have HS1 := Lib.hid (And.intro hs1 (And.intro hs2 (And.intro (Nat.le_trans hc1 hc2) (Nat.le_trans hc3 hc4))))
      clear hs1 hs2 hb hc1 hc2 hc3 hc4 ho1 ho2
      go_wp2_with fail
      refine bodyPost_ret (net_res48 _ _ _ _ _ _ rfl rfl (put_0U r0 _ _) (put_1U r0 r1 _ _)) rfl ?_
      rw [HF.out]
      exact ⟨A1, d1, B1, d2, rfl, HS1.out.2.2.1, HS1.out.2.2.2, HS1.out.1, HS1.out.2.1, bl_set (bl_set HB4.out (by omega)) (by omega)⟩
theorem movS_zero (x : Sgt) : movS x 0 = x := by
  unfold movS
  simp
theorem shf_bad {R : Nat → Int} {n m : Nat} {S : Nat → Sgt} {a b : Int} {k : Nat} (hk : k < m) (h : sgB n (shfS a b (S k)) = false) : vnB R n (fun j => shfS a b (S j)) m = false := by
  cases hv : vnB R n (fun j => shfS a b (S j)) m with
  | false => rfl
  | true =>
    have := (vn_iff.1 hv).sg k hk
    rw [h] at this
    cases this
set_option maxRecDepth 100000 in
set_option maxHeartbeats 25600000 in
theorem rshifted_any (A : Option Addr) (n c : Nat) (R : Nat → Int) (B : Option Addr) (m d : Nat) (S : Nat → Sgt) (a b : Int) (w : World) (hA : Sl w A n R) (hB : Sgl w B m S) (hn : n ≤ maxLen) (hm : m ≤ maxLen) :
    Calls Try.prog 50 #[encN A n c B m d, .int .i64 a, .int .i64 b] w (NetPost (shiftF R n S m a b) w) := by
  have HV := Lib.hid (fun (W : World) (hW : Bl w W) => rvalidN_any A n c R B m d S W (hA.below hW) (hB.below hW) hn hm)
  have HCL := Lib.hid (fun W => named2_any A n c B m d a W)
  have HIN := Lib.hid (fun W => within2_any b (-86400000) 86400000 W)
  have HA := Lib.hid hA
  have HB := Lib.hid hB
  clear hA hB hn hm
  cases hv : vnB R n S m with
  | false =>
    rw [hv] at HV
    have HF := Lib.hid (show shiftF R n S m a b = noN 1 by rw [shiftF, if_pos hv])
    clear hv
    go_enter Try.func50, Try.ntmps50
    go_wp2_with fail
    obtain ⟨Z1, hZ⟩ : ∃ Z, Z = ((w.alloc (Obj.cells #[.slice A n c, .slice B m d] 25)).alloc (Obj.cells #[.slice none 0 0, .slice none 0 0] 25)) := ⟨_, rfl⟩
    have bz : Bl w Z1 := by rw [hZ]; exact Bl.tr (bl_alS _ _) (bl_alS _ _)
    have x0 : Z1.cell? ⟨w.heap.size, 0, none⟩ = some (.slice A n c) := by rw [hZ]; go_cell
    have fx0 : Z1.frozen? ⟨w.heap.size, 0, none⟩ = false := by rw [hZ]; go_cell
    have x1 : Z1.cell? ⟨w.heap.size, 1, none⟩ = some (.slice B m d) := by rw [hZ]; go_cell
    have fx1 : Z1.frozen? ⟨w.heap.size, 1, none⟩ = false := by rw [hZ]; go_cell
    have r0 : Z1.cell? ⟨w.heap.size + 1, 0, none⟩ = some (.slice none 0 0) := by rw [hZ]; go_cell
    have fr0 : Z1.frozen? ⟨w.heap.size + 1, 0, none⟩ = false := by rw [hZ]; go_cell
    have r1 : Z1.cell? ⟨w.heap.size + 1, 1, none⟩ = some (.slice none 0 0) := by rw [hZ]; go_cell
    have fr1 : Z1.frozen? ⟨w.heap.size + 1, 1, none⟩ = false := by rw [hZ]; go_cell
    rw [← hZ]
    have HB1 := Lib.hid (bz)
    clear hZ bz
    refine (HV.out _ HB1.out).mono ?_
    rintro e w2 ⟨rfl, hb⟩
    replace fx0 := fzb hb fx0 (ltb x0)
    replace fx1 := fzb hb fx1 (ltb x0)
    replace fr0 := fzb hb fr0 (ltb r0)
    replace fr1 := fzb hb fr1 (ltb r0)
    replace x0 := kcb hb x0
    replace x1 := kcb hb x1
    replace r0 := kcb hb r0
    replace r1 := kcb hb r1
    have HB2 := Lib.hid (HB1.out.tr hb)
    clear hb
    have lz0 := ltb x0
    have lz1 := ltb r0
    go_wp2_with fail
    exact bodyPost_ret (net_res50 _ _ _ _ _ _ rfl rfl (put_0U r0 _ _) (put_1U r0 r1 _ _)) rfl (by rw [HF.out]; exact netPost_no (bl_set (bl_set HB2.out (by omega)) (by omega)))
  | true =>
    have HVN := Lib.hid (vn_iff.1 hv)
    have HS0 := Lib.hid (show shiftF R n S m a b = if (clB n a && decide (a ≠ 0)) = false then noN 5 else if inB b (-86400000) 86400000 = false then noN 7 else if vnB R n (fun j => shfS a b (S j)) m = false then noN 4 else ⟨n, R, m, fun j => shfS a b (S j), 0⟩ by rw [shiftF, if_neg (by rw [hv]; decide)])
    rw [hv] at HV
    clear hv
    cases hc : clB n a with
    | false =>
      rw [hc] at HCL
      have HF := Lib.hid (show shiftF R n S m a b = noN 5 by rw [HS0.out, hc]; rfl)
      clear hc HS0
      go_enter Try.func50, Try.ntmps50
      go_wp2_with fail
      obtain ⟨Z1, hZ⟩ : ∃ Z, Z = ((w.alloc (Obj.cells #[.slice A n c, .slice B m d] 25)).alloc (Obj.cells #[.slice none 0 0, .slice none 0 0] 25)) := ⟨_, rfl⟩
      have bz : Bl w Z1 := by rw [hZ]; exact Bl.tr (bl_alS _ _) (bl_alS _ _)
      have x0 : Z1.cell? ⟨w.heap.size, 0, none⟩ = some (.slice A n c) := by rw [hZ]; go_cell
      have fx0 : Z1.frozen? ⟨w.heap.size, 0, none⟩ = false := by rw [hZ]; go_cell
      have x1 : Z1.cell? ⟨w.heap.size, 1, none⟩ = some (.slice B m d) := by rw [hZ]; go_cell
      have fx1 : Z1.frozen? ⟨w.heap.size, 1, none⟩ = false := by rw [hZ]; go_cell
      have r0 : Z1.cell? ⟨w.heap.size + 1, 0, none⟩ = some (.slice none 0 0) := by rw [hZ]; go_cell
      have fr0 : Z1.frozen? ⟨w.heap.size + 1, 0, none⟩ = false := by rw [hZ]; go_cell
      have r1 : Z1.cell? ⟨w.heap.size + 1, 1, none⟩ = some (.slice none 0 0) := by rw [hZ]; go_cell
      have fr1 : Z1.frozen? ⟨w.heap.size + 1, 1, none⟩ = false := by rw [hZ]; go_cell
      rw [← hZ]
      have HB1 := Lib.hid (bz)
      clear hZ bz
      refine (HV.out _ HB1.out).mono ?_
      rintro e w2 ⟨rfl, hb⟩
      replace fx0 := fzb hb fx0 (ltb x0)
      replace fx1 := fzb hb fx1 (ltb x0)
      replace fr0 := fzb hb fr0 (ltb r0)
      replace fr1 := fzb hb fr1 (ltb r0)
      replace x0 := kcb hb x0
      replace x1 := kcb hb x1
      replace r0 := kcb hb r0
      replace r1 := kcb hb r1
      have HB2 := Lib.hid (HB1.out.tr hb)
      clear hb
      have lz0 := ltb x0
      have lz1 := ltb r0
      go_wp2_with fail
      refine (HCL.out _).mono ?_
      rintro e w3 ⟨rfl, hb⟩
      replace fx0 := fzb hb fx0 (ltb x0)
      replace fx1 := fzb hb fx1 (ltb x0)
      replace fr0 := fzb hb fr0 (ltb r0)
      replace fr1 := fzb hb fr1 (ltb r0)
      replace x0 := kcb hb x0
      replace x1 := kcb hb x1
      replace r0 := kcb hb r0
      replace r1 := kcb hb r1
      have HB3 := Lib.hid (HB2.out.tr hb)
      clear hb
      have lz0 := ltb x0
      have lz1 := ltb r0
      go_wp2_with fail
      exact bodyPost_ret (net_res50 _ _ _ _ _ _ rfl rfl (put_0U r0 _ _) (put_1U r0 r1 _ _)) rfl (by rw [HF.out]; exact netPost_no (bl_set (bl_set HB3.out (by omega)) (by omega)))
    | true =>
      rw [hc] at HCL
      by_cases h0 : a = 0
      · have HF := Lib.hid (show shiftF R n S m a b = noN 5 by rw [HS0.out, hc, h0]; rfl)
        have h0' : (a == 0) = true := by simp [h0]
        clear hc HS0 h0
        go_enter Try.func50, Try.ntmps50
        go_wp2_with fail
        obtain ⟨Z1, hZ⟩ : ∃ Z, Z = ((w.alloc (Obj.cells #[.slice A n c, .slice B m d] 25)).alloc (Obj.cells #[.slice none 0 0, .slice none 0 0] 25)) := ⟨_, rfl⟩
        have bz : Bl w Z1 := by rw [hZ]; exact Bl.tr (bl_alS _ _) (bl_alS _ _)
        have x0 : Z1.cell? ⟨w.heap.size, 0, none⟩ = some (.slice A n c) := by rw [hZ]; go_cell
        have fx0 : Z1.frozen? ⟨w.heap.size, 0, none⟩ = false := by rw [hZ]; go_cell
        have x1 : Z1.cell? ⟨w.heap.size, 1, none⟩ = some (.slice B m d) := by rw [hZ]; go_cell
        have fx1 : Z1.frozen? ⟨w.heap.size, 1, none⟩ = false := by rw [hZ]; go_cell
        have r0 : Z1.cell? ⟨w.heap.size + 1, 0, none⟩ = some (.slice none 0 0) := by rw [hZ]; go_cell
        have fr0 : Z1.frozen? ⟨w.heap.size + 1, 0, none⟩ = false := by rw [hZ]; go_cell
        have r1 : Z1.cell? ⟨w.heap.size + 1, 1, none⟩ = some (.slice none 0 0) := by rw [hZ]; go_cell
        have fr1 : Z1.frozen? ⟨w.heap.size + 1, 1, none⟩ = false := by rw [hZ]; go_cell
        rw [← hZ]
        have HB1 := Lib.hid (bz)
        clear hZ bz
        refine (HV.out _ HB1.out).mono ?_
        rintro e w2 ⟨rfl, hb⟩
        replace fx0 := fzb hb fx0 (ltb x0)
        replace fx1 := fzb hb fx1 (ltb x0)
        replace fr0 := fzb hb fr0 (ltb r0)
        replace fr1 := fzb hb fr1 (ltb r0)
        replace x0 := kcb hb x0
        replace x1 := kcb hb x1
        replace r0 := kcb hb r0
        replace r1 := kcb hb r1
        have HB2 := Lib.hid (HB1.out.tr hb)
        clear hb
        have lz0 := ltb x0
        have lz1 := ltb r0
        go_wp2_with fail
        refine (HCL.out _).mono ?_
        rintro e w3 ⟨rfl, hb⟩
        replace fx0 := fzb hb fx0 (ltb x0)
        replace fx1 := fzb hb fx1 (ltb x0)
        replace fr0 := fzb hb fr0 (ltb r0)
        replace fr1 := fzb hb fr1 (ltb r0)
        replace x0 := kcb hb x0
        replace x1 := kcb hb x1
        replace r0 := kcb hb r0
        replace r1 := kcb hb r1
        have HB3 := Lib.hid (HB2.out.tr hb)
        clear hb
        have lz0 := ltb x0
        have lz1 := ltb r0
        go_wp2_with fail
        exact bodyPost_ret (net_res50 _ _ _ _ _ _ rfl rfl (put_0U r0 _ _) (put_1U r0 r1 _ _)) rfl (by rw [HF.out]; exact netPost_no (bl_set (bl_set HB3.out (by omega)) (by omega)))
      · have h0' : (a == 0) = false := by simp [h0]
        have HS1 := Lib.hid (show shiftF R n S m a b = if inB b (-86400000) 86400000 = false then noN 7 else if vnB R n (fun j => shfS a b (S j)) m = false then noN 4 else ⟨n, R, m, fun j => shfS a b (S j), 0⟩ by rw [HS0.out, hc, decide_eq_true h0, if_neg (by decide)])
        clear hc HS0 h0
        cases hb : inB b (-86400000) 86400000 with
        | false =>
          rw [hb] at HIN
          have HF := Lib.hid (show shiftF R n S m a b = noN 7 by rw [HS1.out, hb]; rfl)
          clear hb HS1
          go_enter Try.func50, Try.ntmps50
          go_wp2_with fail
          obtain ⟨Z1, hZ⟩ : ∃ Z, Z = ((w.alloc (Obj.cells #[.slice A n c, .slice B m d] 25)).alloc (Obj.cells #[.slice none 0 0, .slice none 0 0] 25)) := ⟨_, rfl⟩
          have bz : Bl w Z1 := by rw [hZ]; exact Bl.tr (bl_alS _ _) (bl_alS _ _)
          have x0 : Z1.cell? ⟨w.heap.size, 0, none⟩ = some (.slice A n c) := by rw [hZ]; go_cell
          have fx0 : Z1.frozen? ⟨w.heap.size, 0, none⟩ = false := by rw [hZ]; go_cell
          have x1 : Z1.cell? ⟨w.heap.size, 1, none⟩ = some (.slice B m d) := by rw [hZ]; go_cell
          have fx1 : Z1.frozen? ⟨w.heap.size, 1, none⟩ = false := by rw [hZ]; go_cell
          have r0 : Z1.cell? ⟨w.heap.size + 1, 0, none⟩ = some (.slice none 0 0) := by rw [hZ]; go_cell
          have fr0 : Z1.frozen? ⟨w.heap.size + 1, 0, none⟩ = false := by rw [hZ]; go_cell
          have r1 : Z1.cell? ⟨w.heap.size + 1, 1, none⟩ = some (.slice none 0 0) := by rw [hZ]; go_cell
          have fr1 : Z1.frozen? ⟨w.heap.size + 1, 1, none⟩ = false := by rw [hZ]; go_cell
          rw [← hZ]
          have HB1 := Lib.hid (bz)
          clear hZ bz
          refine (HV.out _ HB1.out).mono ?_
          rintro e w2 ⟨rfl, hb⟩
          replace fx0 := fzb hb fx0 (ltb x0)
          replace fx1 := fzb hb fx1 (ltb x0)
          replace fr0 := fzb hb fr0 (ltb r0)
          replace fr1 := fzb hb fr1 (ltb r0)
          replace x0 := kcb hb x0
          replace x1 := kcb hb x1
          replace r0 := kcb hb r0
          replace r1 := kcb hb r1
          have HB2 := Lib.hid (HB1.out.tr hb)
          clear hb
          have lz0 := ltb x0
          have lz1 := ltb r0
          go_wp2_with fail
          refine (HCL.out _).mono ?_
          rintro e w3 ⟨rfl, hb⟩
          replace fx0 := fzb hb fx0 (ltb x0)
          replace fx1 := fzb hb fx1 (ltb x0)
          replace fr0 := fzb hb fr0 (ltb r0)
          replace fr1 := fzb hb fr1 (ltb r0)
          replace x0 := kcb hb x0
          replace x1 := kcb hb x1
          replace r0 := kcb hb r0
          replace r1 := kcb hb r1
          have HB3 := Lib.hid (HB2.out.tr hb)
          clear hb
          have lz0 := ltb x0
          have lz1 := ltb r0
          go_wp2_with fail
          refine (HIN.out _).mono ?_
          rintro e w4 ⟨rfl, hb⟩
          replace fx0 := fzb hb fx0 (ltb x0)
          replace fx1 := fzb hb fx1 (ltb x0)
          replace fr0 := fzb hb fr0 (ltb r0)
          replace fr1 := fzb hb fr1 (ltb r0)
          replace x0 := kcb hb x0
          replace x1 := kcb hb x1
          replace r0 := kcb hb r0
          replace r1 := kcb hb r1
          have HB4 := Lib.hid (HB3.out.tr hb)
          clear hb
          have lz0 := ltb x0
          have lz1 := ltb r0
          go_wp2_with fail
          exact bodyPost_ret (net_res50 _ _ _ _ _ _ rfl rfl (put_0U r0 _ _) (put_1U r0 r1 _ _)) rfl (by rw [HF.out]; exact netPost_no (bl_set (bl_set HB4.out (by omega)) (by omega)))
        | true =>
          rw [hb] at HIN
          have HB12 := Lib.hid (inB_iff.1 hb)
          have HSF := Lib.hid (show shiftF R n S m a b = if vnB R n (fun j => shfS a b (S j)) m = false then noN 4 else ⟨n, R, m, fun j => shfS a b (S j), 0⟩ by rw [HS1.out, hb]; rfl)
          clear hb HS1
          go_enter Try.func50, Try.ntmps50
          go_wp2_with fail
          obtain ⟨Z1, hZ⟩ : ∃ Z, Z = ((w.alloc (Obj.cells #[.slice A n c, .slice B m d] 25)).alloc (Obj.cells #[.slice none 0 0, .slice none 0 0] 25)) := ⟨_, rfl⟩
          have bz : Bl w Z1 := by rw [hZ]; exact Bl.tr (bl_alS _ _) (bl_alS _ _)
          have x0 : Z1.cell? ⟨w.heap.size, 0, none⟩ = some (.slice A n c) := by rw [hZ]; go_cell
          have fx0 : Z1.frozen? ⟨w.heap.size, 0, none⟩ = false := by rw [hZ]; go_cell
          have x1 : Z1.cell? ⟨w.heap.size, 1, none⟩ = some (.slice B m d) := by rw [hZ]; go_cell
          have fx1 : Z1.frozen? ⟨w.heap.size, 1, none⟩ = false := by rw [hZ]; go_cell
          have r0 : Z1.cell? ⟨w.heap.size + 1, 0, none⟩ = some (.slice none 0 0) := by rw [hZ]; go_cell
          have fr0 : Z1.frozen? ⟨w.heap.size + 1, 0, none⟩ = false := by rw [hZ]; go_cell
          have r1 : Z1.cell? ⟨w.heap.size + 1, 1, none⟩ = some (.slice none 0 0) := by rw [hZ]; go_cell
          have fr1 : Z1.frozen? ⟨w.heap.size + 1, 1, none⟩ = false := by rw [hZ]; go_cell
          rw [← hZ]
          have HB1 := Lib.hid (bz)
          clear hZ bz
          refine (HV.out _ HB1.out).mono ?_
          rintro e w2 ⟨rfl, hb⟩
          replace fx0 := fzb hb fx0 (ltb x0)
          replace fx1 := fzb hb fx1 (ltb x0)
          replace fr0 := fzb hb fr0 (ltb r0)
          replace fr1 := fzb hb fr1 (ltb r0)
          replace x0 := kcb hb x0
          replace x1 := kcb hb x1
          replace r0 := kcb hb r0
          replace r1 := kcb hb r1
          have HB2 := Lib.hid (HB1.out.tr hb)
          clear hb
          have lz0 := ltb x0
          have lz1 := ltb r0
          go_wp2_with fail
          refine (HCL.out _).mono ?_
          rintro e w3 ⟨rfl, hb⟩
          replace fx0 := fzb hb fx0 (ltb x0)
          replace fx1 := fzb hb fx1 (ltb x0)
          replace fr0 := fzb hb fr0 (ltb r0)
          replace fr1 := fzb hb fr1 (ltb r0)
          replace x0 := kcb hb x0
          replace x1 := kcb hb x1
          replace r0 := kcb hb r0
          replace r1 := kcb hb r1
          have HB3 := Lib.hid (HB2.out.tr hb)
          clear hb
          have lz0 := ltb x0
          have lz1 := ltb r0
          go_wp2_with fail
          refine (HIN.out _).mono ?_
          rintro e w4 ⟨rfl, hb⟩
          replace fx0 := fzb hb fx0 (ltb x0)
          replace fx1 := fzb hb fx1 (ltb x0)
          replace fr0 := fzb hb fr0 (ltb r0)
          replace fr1 := fzb hb fr1 (ltb r0)
          replace x0 := kcb hb x0
          replace x1 := kcb hb x1
          replace r0 := kcb hb r0
          replace r1 := kcb hb r1
          have HB4 := Lib.hid (HB3.out.tr hb)
          clear hb
          have lz0 := ltb x0
          have lz1 := ltb r0
          go_wp2_with fail
          have HRW := rwithout_any A n c R B m d S (-1) _ (HA.out.below HB4.out) (HB.out.below HB4.out) (by have := HVN.out.n2; omega) (by have := HVN.out.n8; omega) (by have := HVN.out.m30; omega)
          rw [witN_neg, witS_neg] at HRW
          refine HRW.mono ?_
          rintro e wz ⟨A1, d1, B1, d2, rfl, ho1, ho2, hb⟩
          clear HRW
          have hxw : w.heap.size + 1 < w4.heap.size := ltb r0
          have HXW := Lib.hid hxw
          replace fx0 := fzb hb fx0 (ltb x0)
          replace fx1 := fzb hb fx1 (ltb x0)
          replace fr0 := fzb hb fr0 (ltb r0)
          replace fr1 := fzb hb fr1 (ltb r0)
          replace x0 := kcb hb x0
          replace x1 := kcb hb x1
          replace r0 := kcb hb r0
          replace r1 := kcb hb r1
          have HB5 := Lib.hid (HB4.out.tr hb)
          have lz0 := ltb x0
          have lz1 := ltb r0
          obtain ⟨P, hP⟩ : ∃ P, P = wz.alloc (Obj.cells #[.slice A1 n d1, .slice B1 m d2] 25) := ⟨_, rfl⟩
          have BP : Bl wz P := by rw [hP]; exact bl_alU _ _
          have p0 : P.cell? ⟨wz.heap.size, 0, none⟩ = some (.slice A1 n d1) := by rw [hP]; go_cell
          have p1 : P.cell? ⟨wz.heap.size, 1, none⟩ = some (.slice B1 m d2) := by rw [hP]; go_cell
          have HST := Lib.hid (show ∀ wr, wr = P → (wr.ownsRow w4.heap.size 3 1 (.slice A1 n d1) n (rgC R n) ∧ wr.ownsRow w4.heap.size 52 5 (.slice B1 m d2) m (sgC (shTo S a b 0) m)) ∧ Bl w wr ∧ wr.cell? ⟨w.heap.size, 0, none⟩ = some (.slice A n c) ∧ wr.cell? ⟨wz.heap.size, 0, none⟩ = some (.slice A1 n d1) ∧ wr.cell? ⟨wz.heap.size, 1, none⟩ = some (.slice B1 m d2) ∧ wr.cell? ⟨w.heap.size + 1, 0, none⟩ = some (.slice none 0 0) ∧ wr.cell? ⟨w.heap.size + 1, 1, none⟩ = some (.slice none 0 0) ∧ wr.frozen? ⟨w.heap.size + 1, 0, none⟩ = false ∧ wr.frozen? ⟨w.heap.size + 1, 1, none⟩ = false from fun wr e => by
            subst e
            refine ⟨⟨own_belowU ho1 BP, ?_⟩, Bl.tr HB5.out BP, kcb BP x0, p0, p1, kcb BP r0, kcb BP r1, fzb BP fr0 lz1, fzb BP fr1 lz1⟩
            rw [sgC_congr (f := shTo S a b 0) (g := S) (fun j _ => by simp [shTo])]
            exact own_belowU ho2 BP)
          have HAP := Lib.hid (own_ltU ho2)
          have HW4 := Lib.hid (show w4.heap.size ≤ wz.heap.size from hb.size)
          have hm30 : m ≤ 30 := HVN.out.m30
          clear ho1 ho2 hb
          go_wp2_with fail
          rw [← hP]
          clear hP BP p0 p1 x0 x1 r0 r1 fx0 fx1 fr0 fr1 lz0 lz1 hxw
          go_loopw [34] (fun i wr => ∃ k : Nat, k ≤ m ∧ i = .int .i64 k ∧ Hid (wr.ownsRow w4.heap.size 3 1 (.slice A1 n d1) n (rgC R n) ∧ wr.ownsRow w4.heap.size 52 5 (.slice B1 m d2) m (sgC (shTo S a b k) m)) ∧ Hid (∀ j, j < k → sgB n (shfS a b (S j)) = true) ∧ Bl w wr ∧ wr.cell? ⟨w.heap.size, 0, none⟩ = some (.slice A n c) ∧ wr.cell? ⟨wz.heap.size, 0, none⟩ = some (.slice A1 n d1) ∧ wr.cell? ⟨wz.heap.size, 1, none⟩ = some (.slice B1 m d2) ∧ wr.cell? ⟨w.heap.size + 1, 0, none⟩ = some (.slice none 0 0) ∧ wr.cell? ⟨w.heap.size + 1, 1, none⟩ = some (.slice none 0 0) ∧ wr.frozen? ⟨w.heap.size + 1, 0, none⟩ = false ∧ wr.frozen? ⟨w.heap.size + 1, 1, none⟩ = false) (fun i _ => m - (intOf i).toNat)
          case atStart => exact ⟨0, Nat.zero_le _, rfl, (HST.out P rfl).1, fun j hj => absurd hj (by omega), (HST.out P rfl).2⟩
          case round =>
            obtain ⟨k, hk, rfl, HO, HG, hZ, x0, y0, y1, r0, r1, f0, f1⟩ := hrel
            have HZ := Lib.hid hZ
            have lx := ltb x0
            have ly := ltb y0
            have lr := ltb r0
            clear hZ HST
            by_cases hlt : k < m
            · obtain ⟨g, rfl, hg1, hg2⟩ := own_someU HO.out.2 (by omega)
              obtain ⟨c0, c1, c2, c3, c4⟩ := cell5 HO.out.2 hlt
              rw [show shTo S a b k k = S k by simp [shTo]] at c0 c1 c2 c3 c4
              have hsg := sgB_iff.1 (HVN.out.sg k hlt)
              have HXK := Lib.hid (show ∀ j, j < m → j ≠ k → shTo S a b (k + 1) j = shTo S a b k j from fun j hj hne => by
                unfold shTo
                by_cases h : j < k
                · rw [if_pos h, if_pos (by omega)]
                · rw [if_neg h, if_neg (by omega)])
              have HX1 := Lib.hid (show shTo S a b (k + 1) k = shfS a b (S k) by simp [shTo])
              have HGN := Lib.hid (fun (h : sgB n (shfS a b (S k)) = true) => (show ∀ j, j < k + 1 → sgB n (shfS a b (S j)) = true from fun j hj => by
                by_cases e : j = k
                · subst e; exact h
                · exact HG.out j (by omega)))
              have HGB := Lib.hid (fun (h : sgB n (shfS a b (S k)) = false) => (show shiftF R n S m a b = noN 4 by rw [HSF.out, if_pos (shf_bad hlt h)]))
              obtain ⟨x, hx⟩ : ∃ x, x = S k := ⟨_, rfl⟩
              rw [← hx] at c0 c1 c2 c3 c4 hsg HX1 HGN HGB
              have hgb : g ≠ wz.heap.size := by have := HAP.out g rfl; omega
              have hgx : g ≠ w.heap.size := by have := HXW.out; omega
              have hgr : g ≠ w.heap.size + 1 := by have := HXW.out; omega
              have hgw : w.heap.size ≤ g := by have := HXW.out; omega
              have hb12 := HB12.out
              have v0 : IntKind.i64.wrap (-b) = -b := IntWalk.i64_in _ (by omega)
              have key : ∃ D : Int, shfS a b x = movS x D ∧ (D = 0 ∨ D = b ∨ D = -b) := by
                unfold shfS
                split
                · exact ⟨_, rfl, .inr (.inr rfl)⟩
                · split
                  · exact ⟨_, rfl, .inr (.inl rfl)⟩
                  · exact ⟨0, (movS_zero x).symm, .inl rfl⟩
              have u1 : IntKind.i64.wrap (x.lo + b) = x.lo + b := IntWalk.i64_in _ (by omega)
              have u2 : IntKind.i64.wrap (x.hi + b) = x.hi + b := IntWalk.i64_in _ (by omega)
              have u3 : IntKind.i64.wrap (x.lo + -b) = x.lo + -b := IntWalk.i64_in _ (by omega)
              have u4 : IntKind.i64.wrap (x.hi + -b) = x.hi + -b := IntWalk.i64_in _ (by omega)
              have u5 : IntKind.i64.wrap x.lo = x.lo := IntWalk.i64_in _ (by omega)
              have u6 : IntKind.i64.wrap x.hi = x.hi := IntWalk.i64_in _ (by omega)
              have hne := hsg.2.2.2.1
              clear hx hsg key hb12
              by_cases q1 : x.cb = a
              · have q1' : (x.cb == a) = true := by simp [q1]
                have q2' : (x.ca == a) = false := by simp; omega
                have HSH := Lib.hid (show shfS a b x = movS x (-b) by rw [shfS, if_pos q1])
                rw [HSH.out] at HX1 HGN HGB
                clear q1 hne
                go_wp2_with fail
                obtain ⟨Y, hY⟩ : ∃ Y, Y = wr.alloc (Obj.cells #[.int .i64 x.tm, .int .i64 x.ca, .int .i64 x.cb, .int .i64 (x.lo + -b), .int .i64 (x.hi + -b)] 52) := ⟨_, rfl⟩
                have BY : Bl wr Y := by rw [hY]; exact bl_alU _ _
                have t0 : Y.cell? ⟨wr.heap.size, 0, none⟩ = some (.int .i64 x.tm) := by rw [hY]; go_cell
                have t1 : Y.cell? ⟨wr.heap.size, 1, none⟩ = some (.int .i64 x.ca) := by rw [hY]; go_cell
                have t2 : Y.cell? ⟨wr.heap.size, 2, none⟩ = some (.int .i64 x.cb) := by rw [hY]; go_cell
                have t3 : Y.cell? ⟨wr.heap.size, 3, none⟩ = some (.int .i64 (x.lo + -b)) := by rw [hY]; go_cell
                have t4 : Y.cell? ⟨wr.heap.size, 4, none⟩ = some (.int .i64 (x.hi + -b)) := by rw [hY]; go_cell
                rw [← hY]
                have HRV := rvalidSight2_any (movS x (-b)) n Y
                skip
                refine HRV.mono ?_
                rintro e w9 ⟨rfl, hb⟩
                have BB := BY.tr hb
                have HO9 := Lib.hid (And.intro (own_belowU HO.out.1 BB) (own_belowU HO.out.2 BB))
                have x0 := kcb BB x0
                have y0 := kcb BB y0
                have y1 := kcb BB y1
                have r0 := kcb BB r0
                have r1 := kcb BB r1
                have f0 := fzb BB f0 lr
                have f1 := fzb BB f1 lr
                have t0 := kcb hb t0
                have t1 := kcb hb t1
                have t2 := kcb hb t2
                have t3 := kcb hb t3
                have t4 := kcb hb t4
                have lt9 := ltb t0
                have lx9 := ltb x0
                have ly9 := ltb y0
                have lr9 := ltb r0
                have HB9 := Lib.hid (HZ.out.tr BB)
                clear HRV hb BB BY hY c0 c1 c2 c3 c4 lx ly lr HO
                cases hs : sgB n (movS x (-b)) with
                | false =>
                  have HF := Lib.hid (HGB.out hs)
                  clear hs
                  go_wp2_with fail
                  exact bodyPost_ret (net_res50 _ _ _ _ _ _ rfl rfl (put_0U r0 _ _) (put_1U r0 r1 _ _)) rfl (by rw [HF.out]; exact netPost_no (bl_set (bl_set HB9.out (by omega)) (by omega)))
                | true =>
                  have HN := Lib.hid (HGN.out hs)
                  clear hs
                  obtain ⟨c0, c1, c2, c3, c4⟩ := cell5 HO9.out.2 hlt
                  have zf0 := HO9.out.2.frozenAt (k * 5)
                  have zf1 := HO9.out.2.frozenAt (k * 5 + 1)
                  have zf2 := HO9.out.2.frozenAt (k * 5 + 2)
                  have zf3 := HO9.out.2.frozenAt (k * 5 + 3)
                  have zf4 := HO9.out.2.frozenAt (k * 5 + 4)
                  have lg9 := ltb c0
                  go_wp2_with fail
                  go_roundw
                  case rel => exact ⟨k + 1, by omega, by go_num, ⟨set5_own (y := movS x (-b)) HO9.out.1 HO9.out.2 (by decide), by have h := own_set5 (T := shTo S a b (k + 1)) HO9.out.2 hlt HXK.out; rw [HX1.out] at h; exact h⟩, HN.out, set5_bl (y := movS x (-b)) HB9.out hgw, set5_cell (y := movS x (-b)) x0 (Ne.symm hgx), set5_cell (y := movS x (-b)) y0 (Ne.symm hgb), set5_cell (y := movS x (-b)) y1 (Ne.symm hgb), set5_cell (y := movS x (-b)) r0 (Ne.symm hgr), set5_cell (y := movS x (-b)) r1 (Ne.symm hgr), set5_fz (y := movS x (-b)) f0, set5_fz (y := movS x (-b)) f1⟩
                  case measure => simp [RowKit.intOf]; omega
              · have q1' : (x.cb == a) = false := by simp [q1]
                by_cases q2 : x.ca = a
                · have q2' : (x.ca == a) = true := by simp [q2]
                  have HSH := Lib.hid (show shfS a b x = movS x b by rw [shfS, if_neg q1, if_pos q2])
                  rw [HSH.out] at HX1 HGN HGB
                  clear q1 q2 hne
                  go_wp2_with fail
                  obtain ⟨Y, hY⟩ : ∃ Y, Y = wr.alloc (Obj.cells #[.int .i64 x.tm, .int .i64 x.ca, .int .i64 x.cb, .int .i64 (x.lo + b), .int .i64 (x.hi + b)] 52) := ⟨_, rfl⟩
                  have BY : Bl wr Y := by rw [hY]; exact bl_alU _ _
                  have t0 : Y.cell? ⟨wr.heap.size, 0, none⟩ = some (.int .i64 x.tm) := by rw [hY]; go_cell
                  have t1 : Y.cell? ⟨wr.heap.size, 1, none⟩ = some (.int .i64 x.ca) := by rw [hY]; go_cell
                  have t2 : Y.cell? ⟨wr.heap.size, 2, none⟩ = some (.int .i64 x.cb) := by rw [hY]; go_cell
                  have t3 : Y.cell? ⟨wr.heap.size, 3, none⟩ = some (.int .i64 (x.lo + b)) := by rw [hY]; go_cell
                  have t4 : Y.cell? ⟨wr.heap.size, 4, none⟩ = some (.int .i64 (x.hi + b)) := by rw [hY]; go_cell
                  rw [← hY]
                  have HRV := rvalidSight2_any (movS x (b)) n Y
                  skip
                  refine HRV.mono ?_
                  rintro e w9 ⟨rfl, hb⟩
                  have BB := BY.tr hb
                  have HO9 := Lib.hid (And.intro (own_belowU HO.out.1 BB) (own_belowU HO.out.2 BB))
                  have x0 := kcb BB x0
                  have y0 := kcb BB y0
                  have y1 := kcb BB y1
                  have r0 := kcb BB r0
                  have r1 := kcb BB r1
                  have f0 := fzb BB f0 lr
                  have f1 := fzb BB f1 lr
                  have t0 := kcb hb t0
                  have t1 := kcb hb t1
                  have t2 := kcb hb t2
                  have t3 := kcb hb t3
                  have t4 := kcb hb t4
                  have lt9 := ltb t0
                  have lx9 := ltb x0
                  have ly9 := ltb y0
                  have lr9 := ltb r0
                  have HB9 := Lib.hid (HZ.out.tr BB)
                  clear HRV hb BB BY hY c0 c1 c2 c3 c4 lx ly lr HO
                  cases hs : sgB n (movS x (b)) with
                  | false =>
                    have HF := Lib.hid (HGB.out hs)
                    clear hs
                    go_wp2_with fail
                    exact bodyPost_ret (net_res50 _ _ _ _ _ _ rfl rfl (put_0U r0 _ _) (put_1U r0 r1 _ _)) rfl (by rw [HF.out]; exact netPost_no (bl_set (bl_set HB9.out (by omega)) (by omega)))
                  | true =>
                    have HN := Lib.hid (HGN.out hs)
                    clear hs
                    obtain ⟨c0, c1, c2, c3, c4⟩ := cell5 HO9.out.2 hlt
                    have zf0 := HO9.out.2.frozenAt (k * 5)
                    have zf1 := HO9.out.2.frozenAt (k * 5 + 1)
                    have zf2 := HO9.out.2.frozenAt (k * 5 + 2)
                    have zf3 := HO9.out.2.frozenAt (k * 5 + 3)
                    have zf4 := HO9.out.2.frozenAt (k * 5 + 4)
                    have lg9 := ltb c0
                    go_wp2_with fail
                    go_roundw
                    case rel => exact ⟨k + 1, by omega, by go_num, ⟨set5_own (y := movS x (b)) HO9.out.1 HO9.out.2 (by decide), by have h := own_set5 (T := shTo S a b (k + 1)) HO9.out.2 hlt HXK.out; rw [HX1.out] at h; exact h⟩, HN.out, set5_bl (y := movS x (b)) HB9.out hgw, set5_cell (y := movS x (b)) x0 (Ne.symm hgx), set5_cell (y := movS x (b)) y0 (Ne.symm hgb), set5_cell (y := movS x (b)) y1 (Ne.symm hgb), set5_cell (y := movS x (b)) r0 (Ne.symm hgr), set5_cell (y := movS x (b)) r1 (Ne.symm hgr), set5_fz (y := movS x (b)) f0, set5_fz (y := movS x (b)) f1⟩
                    case measure => simp [RowKit.intOf]; omega
                · have q2' : (x.ca == a) = false := by simp [q2]
                  have HSH := Lib.hid (show shfS a b x = movS x 0 by rw [shfS, if_neg q1, if_neg q2, movS_zero])
                  rw [HSH.out] at HX1 HGN HGB
                  clear q1 q2 hne
                  go_wp2_with fail
                  obtain ⟨Y, hY⟩ : ∃ Y, Y = wr.alloc (Obj.cells #[.int .i64 x.tm, .int .i64 x.ca, .int .i64 x.cb, .int .i64 (x.lo), .int .i64 (x.hi)] 52) := ⟨_, rfl⟩
                  have BY : Bl wr Y := by rw [hY]; exact bl_alU _ _
                  have t0 : Y.cell? ⟨wr.heap.size, 0, none⟩ = some (.int .i64 x.tm) := by rw [hY]; go_cell
                  have t1 : Y.cell? ⟨wr.heap.size, 1, none⟩ = some (.int .i64 x.ca) := by rw [hY]; go_cell
                  have t2 : Y.cell? ⟨wr.heap.size, 2, none⟩ = some (.int .i64 x.cb) := by rw [hY]; go_cell
                  have t3 : Y.cell? ⟨wr.heap.size, 3, none⟩ = some (.int .i64 (x.lo)) := by rw [hY]; go_cell
                  have t4 : Y.cell? ⟨wr.heap.size, 4, none⟩ = some (.int .i64 (x.hi)) := by rw [hY]; go_cell
                  rw [← hY]
                  have HRV := rvalidSight2_any (movS x (0)) n Y
                  rw [movS_zero] at HRV
                  refine HRV.mono ?_
                  rintro e w9 ⟨rfl, hb⟩
                  have BB := BY.tr hb
                  have HO9 := Lib.hid (And.intro (own_belowU HO.out.1 BB) (own_belowU HO.out.2 BB))
                  have x0 := kcb BB x0
                  have y0 := kcb BB y0
                  have y1 := kcb BB y1
                  have r0 := kcb BB r0
                  have r1 := kcb BB r1
                  have f0 := fzb BB f0 lr
                  have f1 := fzb BB f1 lr
                  have t0 := kcb hb t0
                  have t1 := kcb hb t1
                  have t2 := kcb hb t2
                  have t3 := kcb hb t3
                  have t4 := kcb hb t4
                  have lt9 := ltb t0
                  have lx9 := ltb x0
                  have ly9 := ltb y0
                  have lr9 := ltb r0
                  have HB9 := Lib.hid (HZ.out.tr BB)
                  clear HRV hb BB BY hY c0 c1 c2 c3 c4 lx ly lr HO
                  rw [movS_zero] at HGN HGB
                  cases hs : sgB n x with
                  | false =>
                    have HF := Lib.hid (HGB.out hs)
                    clear hs
                    go_wp2_with fail
                    exact bodyPost_ret (net_res50 _ _ _ _ _ _ rfl rfl (put_0U r0 _ _) (put_1U r0 r1 _ _)) rfl (by rw [HF.out]; exact netPost_no (bl_set (bl_set HB9.out (by omega)) (by omega)))
                  | true =>
                    have HN := Lib.hid (HGN.out hs)
                    clear hs
                    obtain ⟨c0, c1, c2, c3, c4⟩ := cell5 HO9.out.2 hlt
                    have zf0 := HO9.out.2.frozenAt (k * 5)
                    have zf1 := HO9.out.2.frozenAt (k * 5 + 1)
                    have zf2 := HO9.out.2.frozenAt (k * 5 + 2)
                    have zf3 := HO9.out.2.frozenAt (k * 5 + 3)
                    have zf4 := HO9.out.2.frozenAt (k * 5 + 4)
                    have lg9 := ltb c0
                    go_wp2_with fail
                    go_roundw
                    case rel => exact ⟨k + 1, by omega, by go_num, ⟨set5_own (y := x) HO9.out.1 HO9.out.2 (by decide), by have h := own_set5 (T := shTo S a b (k + 1)) HO9.out.2 hlt HXK.out; rw [HX1.out, movS_zero] at h; exact h⟩, HN.out, set5_bl (y := x) HB9.out hgw, set5_cell (y := x) x0 (Ne.symm hgx), set5_cell (y := x) y0 (Ne.symm hgb), set5_cell (y := x) y1 (Ne.symm hgb), set5_cell (y := x) r0 (Ne.symm hgr), set5_cell (y := x) r1 (Ne.symm hgr), set5_fz (y := x) f0, set5_fz (y := x) f1⟩
                    case measure => simp [RowKit.intOf]; omega
            · have hkm : k = m := by omega
              subst k
              have HE := Lib.hid (show sgC (shTo S a b m) m = sgC (fun j => shfS a b (S j)) m from sgC_congr fun j hj => by simp [shTo, hj])
              have HF := Lib.hid (show shiftF R n S m a b = ⟨n, R, m, fun j => shfS a b (S j), 0⟩ by
                rw [HSF.out, if_neg]
                rw [vn_iff.2 ⟨HVN.out.n2, HVN.out.n8, HVN.out.r0, HVN.out.m30, HVN.out.ra, HG.out⟩]
                decide)
              have HO3 := Lib.hid (show wr.ownsRow w4.heap.size 52 5 (.slice B1 m d2) m (sgC (fun j => shfS a b (S j)) m) by rw [← HE.out]; exact HO.out.2)
              have hxw := HXW.out
              go_wp2_with fail
              refine bodyPost_ret (net_res50 _ _ _ _ _ _ rfl rfl (put_0U r0 _ _) (put_1U r0 r1 _ _)) rfl ?_
              rw [HF.out]
              obtain ⟨A8, d8, e8, _, _, hs8⟩ := sl_of_ownU (own_setS (own_setS HO.out.1 hxw (o := 0) (u := .slice A1 n d1)) hxw (o := 1) (u := .slice B1 m d2))
              obtain ⟨B8, f8, e9, _, _, hs9⟩ := sgl_of_own (own_setS (own_setS HO3.out hxw (o := 0) (u := .slice A1 n d1)) hxw (o := 1) (u := .slice B1 m d2))
              cases e8
              cases e9
              exact ⟨A1, d1, B1, d2, rfl, by unfold maxLen; dsimp only; have := HVN.out.n8; omega, by unfold maxLen; dsimp only; omega, hs8, hs9, bl_set (bl_set HZ.out (by omega)) (by omega)⟩
end Go.Proofs.Ytennmdlajealpaa
