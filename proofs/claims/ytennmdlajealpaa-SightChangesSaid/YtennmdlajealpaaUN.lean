/-
  Package sight: Without of the program.
-/
import Derived.Test.YtennmdlajealpaaUM
import Derived.Test.YtennmdlajealpaaUH
namespace Go.Proofs.Ytennmdlajealpaa
open Go.RowKit Go.Maps
set_option linter.unusedSimpArgs false
set_option linter.unusedVariables false

/-- A slice's block lies from here on. -/
def Fresh (base : Nat) (A : Option Addr) : Prop := ∀ a, A = some a → base ≤ a.block
theorem own_freshU {w : World} {base n d size : Nat} {e : TypeId} {A : Option Addr} {xs : List Value} (h : w.ownsRow base e size (.slice A n d) n xs) : Fresh base A := fun a ha => by
  rcases h.2 with ⟨q, _⟩ | ⟨g, cap, cur, q, hb, _⟩
  · cases q; cases ha
  · cases q; cases ha; exact hb
theorem own_capU {w : World} {base n d size : Nat} {e : TypeId} {A : Option Addr} {xs : List Value} (h : w.ownsRow base e size (.slice A n d) n xs) : n ≤ d ∧ d ≤ maxLen := by
  rcases h.2 with ⟨q, h0⟩ | ⟨g, cap, cur, q, _, _, h1, h2, _⟩
  · cases q
    exact ⟨by omega, by decide⟩
  · cases q
    exact ⟨h1, h2⟩
theorem Fresh.mono {b b' : Nat} {A : Option Addr} (h : Fresh b A) (hb : b' ≤ b) : Fresh b' A := fun a ha => Nat.le_trans hb (h a ha)
theorem sl_setU {w : World} {A : Option Addr} {n base b o : Nat} {f : Nat → Int} {v : Value} (h : Sl w A n f) (hf : Fresh base A) (hb : b < base) : Sl (w.setCell ⟨b, o, none⟩ v) A n f := fun hn => by
  obtain ⟨g, off, e, hl, hc⟩ := h hn
  have := hf _ e
  simp only at this
  exact ⟨g, off, e, Nat.lt_of_lt_of_le hl (size_setS _ _ _), fun j hj => cell_setO (hc j hj) (by omega)⟩
theorem sgl_setU {w : World} {A : Option Addr} {n base b o : Nat} {S : Nat → Sgt} {v : Value} (h : Sgl w A n S) (hf : Fresh base A) (hb : b < base) : Sgl (w.setCell ⟨b, o, none⟩ v) A n S := fun hn => by
  obtain ⟨g, off, e, hl, hc⟩ := h hn
  have := hf _ e
  simp only at this
  exact ⟨g, off, e, Nat.lt_of_lt_of_le hl (size_setS _ _ _), fun j hj => by
    obtain ⟨c0, c1, c2, c3, c4⟩ := hc j hj
    exact ⟨cell_setO c0 (by omega), cell_setO c1 (by omega), cell_setO c2 (by omega), cell_setO c3 (by omega), cell_setO c4 (by omega)⟩⟩
/-- A call returns a net that reads so. -/
def NetRet (n : Nat) (R : Nat → Int) (m : Nat) (S : Nat → Sgt) (w : World) (e : Ending) (w' : World) : Prop :=
  ∃ A c B d, e = .returned (encN A n c B m d) ∧ Sl w' A n R ∧ Sgl w' B m S ∧ (n ≤ c ∧ c ≤ maxLen) ∧ (m ≤ d ∧ d ≤ maxLen) ∧ Fresh w.heap.size A ∧ Fresh w.heap.size B ∧ Bl w w'
def witF (R : Nat → Int) (n : Nat) (S : Nat → Sgt) (m : Nat) (i : Int) : NetF :=
  if vnB R n S m = false then noN 1 else if clB m i = false then noN 5 else ⟨n, R, m - 1, remS S i.toNat, 0⟩
theorem net_res80 (tmps : Array Value) (W : World) (p1 : Nat) (a b : Value) (h8 : tmps.getD 4 undef = .pointer (some ⟨p1, 0, none⟩)) (c0 : W.cell? ⟨p1, 0, none⟩ = some a) (c1 : W.cell? ⟨p1, 1, none⟩ = some b) :
    (results Try.f80 tmps).run Try.prog W = .ok (.agg #[a, b]) W := by
  have h8' : tmps[4]?.getD undef = .pointer (some ⟨p1, 0, none⟩) := by simpa using h8
  simp [results, Try.results80, go_sem, h8', c0, c1]
  try rfl
theorem net_res47 (tmps : Array Value) (W : World) (p1 : Nat) (a b : Value) (k : Int) (h8 : tmps.getD 4 undef = .pointer (some ⟨p1, 0, none⟩)) (h9 : tmps.getD 5 undef = .int .i64 k) (c0 : W.cell? ⟨p1, 0, none⟩ = some a) (c1 : W.cell? ⟨p1, 1, none⟩ = some b) :
    (results Try.f47 tmps).run Try.prog W = .ok (.tuple #[.agg #[a, b], .int .i64 k]) W := by
  have h8' : tmps[4]?.getD undef = .pointer (some ⟨p1, 0, none⟩) := by simpa using h8
  have h9' : tmps[5]?.getD undef = .int .i64 k := by simpa using h9
  simp [results, Try.results47, go_sem, h8', h9', c0, c1]
  try rfl
set_option maxRecDepth 100000 in
set_option maxHeartbeats 6400000 in
theorem without_any (A : Option Addr) (n c : Nat) (R : Nat → Int) (B : Option Addr) (m d : Nat) (S : Nat → Sgt) (i l : Nat) (w : World) (hA : Sl w A n R) (hB : Sgl w B m S) (hn : n ≤ 1000) (hm : m ≤ 1000) (hi : i < m) (hl : m = l + 1) :
    Calls Try.prog 80 #[encN A n c B m d, .int .i64 (i : Int)] w (NetRet n R l (remS S i) w) := by
  have HCP := Lib.hid (fun (W : World) (hW : Bl w W) => copied_any A n c R B m d S W (hA.below hW) (hB.below hW) hn hm)
  obtain ⟨j, hj⟩ : ∃ j, j = i + 1 := ⟨_, rfl⟩
  have v1 : IntKind.i64.wrap ((i : Int) + 1) = (j : Int) := by rw [hj]; exact (IntWalk.i64_in _ (by omega)).trans (by omega)
  have HJ := Lib.hid (And.intro hj (And.intro hl (And.intro hm hi)))
  clear hA hB hn hj hl hm hi
  go_enter Try.func80, Try.ntmps80
  go_wp2_with fail
  obtain ⟨Z1, hZ⟩ : ∃ Z, Z = ((w.alloc (Obj.cells #[.slice A n c, .slice B m d] 25)).alloc (Obj.cells #[.slice none 0 0, .slice none 0 0] 25)) := ⟨_, rfl⟩
  have bz : Bl w Z1 := by rw [hZ]; exact Bl.tr (bl_alS _ _) (bl_alS _ _)
  have x0 : Z1.cell? ⟨w.heap.size, 0, none⟩ = some (.slice A n c) := by rw [hZ]; go_cell
  have fx0 : Z1.frozen? ⟨w.heap.size, 0, none⟩ = false := by rw [hZ]; go_cell
  have x1 : Z1.cell? ⟨w.heap.size, 1, none⟩ = some (.slice B m d) := by rw [hZ]; go_cell
  have fx1 : Z1.frozen? ⟨w.heap.size, 1, none⟩ = false := by rw [hZ]; go_cell
  have r0 : Z1.cell? ⟨w.heap.size + 1, 0, none⟩ = some (.slice none 0 0) := by rw [hZ]; go_cell
  have fr0 : Z1.frozen? ⟨w.heap.size + 1, 0, none⟩ = false := by rw [hZ]; go_cell
  have r1 : Z1.cell? ⟨w.heap.size + 1, 1, none⟩ = some (.slice none 0 0) := by rw [hZ]; go_cell
  have fr1 : Z1.frozen? ⟨w.heap.size + 1, 1, none⟩ = false := by rw [hZ]; go_cell
  rw [← hZ]
  have HB1 := Lib.hid (bz)
  clear hZ bz
  refine (HCP.out _ HB1.out).mono ?_
  rintro e w4 ⟨A1, d1, B1, d2, rfl, ho1, ho2, hb⟩
  have lb0 : w.heap.size + 1 < Z1.heap.size := ltb r0
  replace fx0 := fzb hb fx0 (ltb x0)
  replace fx1 := fzb hb fx1 (ltb x0)
  replace fr0 := fzb hb fr0 (ltb r0)
  replace fr1 := fzb hb fr1 (ltb r0)
  replace x0 := kcb hb x0
  replace x1 := kcb hb x1
  replace r0 := kcb hb r0
  replace r1 := kcb hb r1
  have HB2 := Lib.hid (HB1.out.tr hb)
  have lz0 := ltb x0
  have lz1 := ltb r0
  obtain ⟨g, rfl, hg1, hg2⟩ := own_someU ho2 (by have := HJ.out.2.2.2; omega)
  obtain ⟨P, hP⟩ : ∃ P, P = (w4.setCell ⟨w.heap.size, 0, none⟩ (.slice A1 n d1)).setCell ⟨w.heap.size, 1, none⟩ (.slice (some ⟨g, 0, none⟩) m d2) := ⟨_, rfl⟩
  have BP : Bl w P := by rw [hP]; exact bl_set (bl_set HB2.out (Nat.le_refl _)) (Nat.le_refl _)
  have O1 : P.ownsRow Z1.heap.size 3 1 (.slice A1 n d1) n (rgC R n) := by rw [hP]; exact own_setS (own_setS ho1 (by omega)) (by omega)
  have O2 : P.ownsRow Z1.heap.size 52 5 (.slice (some ⟨g, 0, none⟩) m d2) m (sgC S m) := by rw [hP]; exact own_setS (own_setS ho2 (by omega)) (by omega)
  have px0 : P.cell? ⟨w.heap.size, 0, none⟩ = some (.slice A1 n d1) := by rw [hP]; exact put_0U x0 _ _
  have px1 : P.cell? ⟨w.heap.size, 1, none⟩ = some (.slice (some ⟨g, 0, none⟩) m d2) := by rw [hP]; exact put_1U x0 x1 _ _
  have pr0 : P.cell? ⟨w.heap.size + 1, 0, none⟩ = some (.slice none 0 0) := by rw [hP]; exact cell_setO (cell_setO r0 (by omega)) (by omega)
  have pr1 : P.cell? ⟨w.heap.size + 1, 1, none⟩ = some (.slice none 0 0) := by rw [hP]; exact cell_setO (cell_setO r1 (by omega)) (by omega)
  have pf1 : P.frozen? ⟨w.heap.size, 1, none⟩ = false := by rw [hP]; simpa using fx1
  have pg0 : P.frozen? ⟨w.heap.size + 1, 0, none⟩ = false := by rw [hP]; simpa using fr0
  have pg1 : P.frozen? ⟨w.heap.size + 1, 1, none⟩ = false := by rw [hP]; simpa using fr1
  have HDL := delete_any g d2 m i j l Z1.heap.size S P O2 HJ.out.1 HJ.out.2.1 (by have := HJ.out; omega) HJ.out.2.2.1
  go_wp2_with fail
  rw [← hP]
  clear hP x0 x1 r0 r1 fx0 fx1 fr0 fr1 ho1 ho2 hb lz0 lz1
  refine HDL.mono ?_
  rintro e w5 ⟨rfl, hsl, hgr⟩
  have hgo : (Value.slice (some ⟨g, 0, none⟩) m d2).ownBlock = some g := rfl
  have hgr' : P.grownBy w5 (Value.slice (some ⟨g, 0, none⟩) m d2).ownBlock := hgr
  have x0 := grow_cellU hgr' O2 (by omega) px0
  have x1 := grow_cellU hgr' O2 (by omega) px1
  have r0 := grow_cellU hgr' O2 (by omega) pr0
  have r1 := grow_cellU hgr' O2 (by omega) pr1
  have f1 := grow_fzU hgr' O2 (by omega) (ltb px1) pf1
  have g0 := grow_fzU hgr' O2 (by omega) (ltb pr0) pg0
  have g1 := grow_fzU hgr' O2 (by omega) (ltb pr0) pg1
  have HO1 := Lib.hid (grow_ownU hgr' O1 O2 (by decide))
  have HB5 := Lib.hid (grow_blU BP hgr' O2 (by omega))
  have HSG := Lib.hid hsl
  have HCA := Lib.hid (own_capU O2)
  have lx5 := ltb x0
  have lr5 := ltb r0
  clear hgr hgr' px0 px1 pr0 pr1 pf1 pg0 pg1 O1 O2 HDL BP hsl
  go_wp2_with fail
  refine bodyPost_ret (net_res80 _ _ _ _ _ rfl (put_0U (cell_setO r0 (by omega)) _ _) (put_1U (cell_setO r0 (by omega)) (cell_setO r1 (by omega)) _ _)) rfl ?_
  have hfa := own_freshU HO1.out
  have hfb : Fresh Z1.heap.size (some ⟨g, 0, none⟩) := fun a ha => by cases ha; exact hg1
  obtain ⟨A8, d8, e8, hd1, hd2, hs8⟩ := sl_of_ownU HO1.out
  cases e8
  refine ⟨A1, d1, some ⟨g, 0, none⟩, d2, rfl, sl_setU (sl_setU (sl_setU hs8 hfa (by omega)) hfa (by omega)) hfa (by omega), sgl_setU (sgl_setU (sgl_setU HSG.out hfb (by omega)) hfb (by omega)) hfb (by omega), ⟨hd1, hd2⟩, ⟨by have := HJ.out; have := HCA.out; omega, HCA.out.2⟩, hfa.mono (by omega), hfb.mono (by omega), bl_set (bl_set (bl_set HB5.out (by omega)) (by omega)) (by omega)⟩
set_option maxRecDepth 100000 in
set_option maxHeartbeats 6400000 in
theorem withoutN_any (A : Option Addr) (n c : Nat) (R : Nat → Int) (B : Option Addr) (m d : Nat) (S : Nat → Sgt) (i : Int) (w : World) (hA : Sl w A n R) (hB : Sgl w B m S) (hn : n ≤ maxLen) (hm : m ≤ maxLen) :
    Calls Try.prog 47 #[encN A n c B m d, .int .i64 i] w (NetPost (witF R n S m i) w) := by
  have HV := Lib.hid (fun (W : World) (hW : Bl w W) => validN_any A n c R B m d S W (hA.below hW) (hB.below hW) hn hm)
  have HS := Lib.hid (fun W => isSightS_any A n c B m d i W)
  have HA := Lib.hid hA
  have HB := Lib.hid hB
  clear hA hB hn hm
  cases hv : vnB R n S m with
  | false =>
    rw [hv] at HV
    have HF := Lib.hid (show witF R n S m i = noN 1 by rw [witF, if_pos hv])
    clear hv
    go_enter Try.func47, Try.ntmps47
    go_wp2_with fail
    obtain ⟨Z1, hZ⟩ : ∃ Z, Z = ((w.alloc (Obj.cells #[.slice A n c, .slice B m d] 25)).alloc (Obj.cells #[.slice none 0 0, .slice none 0 0] 25)) := ⟨_, rfl⟩
    have bz : Bl w Z1 := by rw [hZ]; exact Bl.tr (bl_alS _ _) (bl_alS _ _)
    have x0 : Z1.cell? ⟨w.heap.size, 0, none⟩ = some (.slice A n c) := by rw [hZ]; go_cell
    have fx0 : Z1.frozen? ⟨w.heap.size, 0, none⟩ = false := by rw [hZ]; go_cell
    have x1 : Z1.cell? ⟨w.heap.size, 1, none⟩ = some (.slice B m d) := by rw [hZ]; go_cell
    have fx1 : Z1.frozen? ⟨w.heap.size, 1, none⟩ = false := by rw [hZ]; go_cell
    have r0 : Z1.cell? ⟨w.heap.size + 1, 0, none⟩ = some (.slice none 0 0) := by rw [hZ]; go_cell
    have fr0 : Z1.frozen? ⟨w.heap.size + 1, 0, none⟩ = false := by rw [hZ]; go_cell
    have r1 : Z1.cell? ⟨w.heap.size + 1, 1, none⟩ = some (.slice none 0 0) := by rw [hZ]; go_cell
    have fr1 : Z1.frozen? ⟨w.heap.size + 1, 1, none⟩ = false := by rw [hZ]; go_cell
    rw [← hZ]
    have HB1 := Lib.hid (bz)
    clear hZ bz
    refine (HV.out _ HB1.out).mono ?_
    rintro e w2 ⟨rfl, hb⟩
    replace fx0 := fzb hb fx0 (ltb x0)
    replace fx1 := fzb hb fx1 (ltb x0)
    replace fr0 := fzb hb fr0 (ltb r0)
    replace fr1 := fzb hb fr1 (ltb r0)
    replace x0 := kcb hb x0
    replace x1 := kcb hb x1
    replace r0 := kcb hb r0
    replace r1 := kcb hb r1
    have HB2 := Lib.hid (HB1.out.tr hb)
    clear hb
    have lz0 := ltb x0
    have lz1 := ltb r0
    go_wp2_with fail
    exact bodyPost_ret (net_res47 _ _ _ _ _ _ rfl rfl (put_0U r0 _ _) (put_1U r0 r1 _ _)) rfl (by rw [HF.out]; exact netPost_no (bl_set (bl_set HB2.out (by omega)) (by omega)))
  | true =>
    have HVN := Lib.hid (vn_iff.1 hv)
    rw [hv] at HV
    cases hc : clB m i with
    | false =>
      rw [hc] at HS
      have HF := Lib.hid (show witF R n S m i = noN 5 by rw [witF, if_neg (by rw [hv]; decide), if_pos hc])
      clear hv hc
      go_enter Try.func47, Try.ntmps47
      go_wp2_with fail
      obtain ⟨Z1, hZ⟩ : ∃ Z, Z = ((w.alloc (Obj.cells #[.slice A n c, .slice B m d] 25)).alloc (Obj.cells #[.slice none 0 0, .slice none 0 0] 25)) := ⟨_, rfl⟩
      have bz : Bl w Z1 := by rw [hZ]; exact Bl.tr (bl_alS _ _) (bl_alS _ _)
      have x0 : Z1.cell? ⟨w.heap.size, 0, none⟩ = some (.slice A n c) := by rw [hZ]; go_cell
      have fx0 : Z1.frozen? ⟨w.heap.size, 0, none⟩ = false := by rw [hZ]; go_cell
      have x1 : Z1.cell? ⟨w.heap.size, 1, none⟩ = some (.slice B m d) := by rw [hZ]; go_cell
      have fx1 : Z1.frozen? ⟨w.heap.size, 1, none⟩ = false := by rw [hZ]; go_cell
      have r0 : Z1.cell? ⟨w.heap.size + 1, 0, none⟩ = some (.slice none 0 0) := by rw [hZ]; go_cell
      have fr0 : Z1.frozen? ⟨w.heap.size + 1, 0, none⟩ = false := by rw [hZ]; go_cell
      have r1 : Z1.cell? ⟨w.heap.size + 1, 1, none⟩ = some (.slice none 0 0) := by rw [hZ]; go_cell
      have fr1 : Z1.frozen? ⟨w.heap.size + 1, 1, none⟩ = false := by rw [hZ]; go_cell
      rw [← hZ]
      have HB1 := Lib.hid (bz)
      clear hZ bz
      refine (HV.out _ HB1.out).mono ?_
      rintro e w2 ⟨rfl, hb⟩
      replace fx0 := fzb hb fx0 (ltb x0)
      replace fx1 := fzb hb fx1 (ltb x0)
      replace fr0 := fzb hb fr0 (ltb r0)
      replace fr1 := fzb hb fr1 (ltb r0)
      replace x0 := kcb hb x0
      replace x1 := kcb hb x1
      replace r0 := kcb hb r0
      replace r1 := kcb hb r1
      have HB2 := Lib.hid (HB1.out.tr hb)
      clear hb
      have lz0 := ltb x0
      have lz1 := ltb r0
      go_wp2_with fail
      refine (HS.out _).mono ?_
      rintro e w3 ⟨rfl, hb⟩
      replace fx0 := fzb hb fx0 (ltb x0)
      replace fx1 := fzb hb fx1 (ltb x0)
      replace fr0 := fzb hb fr0 (ltb r0)
      replace fr1 := fzb hb fr1 (ltb r0)
      replace x0 := kcb hb x0
      replace x1 := kcb hb x1
      replace r0 := kcb hb r0
      replace r1 := kcb hb r1
      have HB3 := Lib.hid (HB2.out.tr hb)
      clear hb
      have lz0 := ltb x0
      have lz1 := ltb r0
      go_wp2_with fail
      exact bodyPost_ret (net_res47 _ _ _ _ _ _ rfl rfl (put_0U r0 _ _) (put_1U r0 r1 _ _)) rfl (by rw [HF.out]; exact netPost_no (bl_set (bl_set HB3.out (by omega)) (by omega)))
    | true =>
      rw [hc] at HS
      have HF := Lib.hid (show witF R n S m i = ⟨n, R, m - 1, remS S i.toNat, 0⟩ by rw [witF, if_neg (by rw [hv]; decide), if_neg (by rw [hc]; decide)])
      obtain ⟨k0, k1⟩ := clB_iff.1 hc
      obtain ⟨p, rfl⟩ : ∃ p : Nat, i = (p : Int) := ⟨i.toNat, by omega⟩
      rw [Int.toNat_natCast] at HF
      have hp : p < m := by omega
      have HP := Lib.hid hp
      clear hv hc k0 k1 hp
      go_enter Try.func47, Try.ntmps47
      go_wp2_with fail
      obtain ⟨Z1, hZ⟩ : ∃ Z, Z = ((w.alloc (Obj.cells #[.slice A n c, .slice B m d] 25)).alloc (Obj.cells #[.slice none 0 0, .slice none 0 0] 25)) := ⟨_, rfl⟩
      have bz : Bl w Z1 := by rw [hZ]; exact Bl.tr (bl_alS _ _) (bl_alS _ _)
      have x0 : Z1.cell? ⟨w.heap.size, 0, none⟩ = some (.slice A n c) := by rw [hZ]; go_cell
      have fx0 : Z1.frozen? ⟨w.heap.size, 0, none⟩ = false := by rw [hZ]; go_cell
      have x1 : Z1.cell? ⟨w.heap.size, 1, none⟩ = some (.slice B m d) := by rw [hZ]; go_cell
      have fx1 : Z1.frozen? ⟨w.heap.size, 1, none⟩ = false := by rw [hZ]; go_cell
      have r0 : Z1.cell? ⟨w.heap.size + 1, 0, none⟩ = some (.slice none 0 0) := by rw [hZ]; go_cell
      have fr0 : Z1.frozen? ⟨w.heap.size + 1, 0, none⟩ = false := by rw [hZ]; go_cell
      have r1 : Z1.cell? ⟨w.heap.size + 1, 1, none⟩ = some (.slice none 0 0) := by rw [hZ]; go_cell
      have fr1 : Z1.frozen? ⟨w.heap.size + 1, 1, none⟩ = false := by rw [hZ]; go_cell
      rw [← hZ]
      have HB1 := Lib.hid (bz)
      clear hZ bz
      refine (HV.out _ HB1.out).mono ?_
      rintro e w2 ⟨rfl, hb⟩
      replace fx0 := fzb hb fx0 (ltb x0)
      replace fx1 := fzb hb fx1 (ltb x0)
      replace fr0 := fzb hb fr0 (ltb r0)
      replace fr1 := fzb hb fr1 (ltb r0)
      replace x0 := kcb hb x0
      replace x1 := kcb hb x1
      replace r0 := kcb hb r0
      replace r1 := kcb hb r1
      have HB2 := Lib.hid (HB1.out.tr hb)
      clear hb
      have lz0 := ltb x0
      have lz1 := ltb r0
      go_wp2_with fail
      refine (HS.out _).mono ?_
      rintro e w3 ⟨rfl, hb⟩
      replace fx0 := fzb hb fx0 (ltb x0)
      replace fx1 := fzb hb fx1 (ltb x0)
      replace fr0 := fzb hb fr0 (ltb r0)
      replace fr1 := fzb hb fr1 (ltb r0)
      replace x0 := kcb hb x0
      replace x1 := kcb hb x1
      replace r0 := kcb hb r0
      replace r1 := kcb hb r1
      have HB3 := Lib.hid (HB2.out.tr hb)
      clear hb
      have lz0 := ltb x0
      have lz1 := ltb r0
      go_wp2_with fail
      refine (without_any A n c R B m d S p (m - 1) _ (HA.out.below HB3.out) (HB.out.below HB3.out) (by have := HVN.out.n8; omega) (by have := HVN.out.m30; omega) HP.out (by have := HP.out; omega)).mono ?_
      rintro e w9 ⟨A1, d1, B1, d2, rfl, hs1, hs2, hc1, hc2, hf1, hf2, hb⟩
      have hrr : w.heap.size + 1 < w3.heap.size := ltb r0
      replace fx0 := fzb hb fx0 (ltb x0)
      replace fx1 := fzb hb fx1 (ltb x0)
      replace fr0 := fzb hb fr0 (ltb r0)
      replace fr1 := fzb hb fr1 (ltb r0)
      replace x0 := kcb hb x0
      replace x1 := kcb hb x1
      replace r0 := kcb hb r0
      replace r1 := kcb hb r1
      have HB4 := Lib.hid (HB3.out.tr hb)
      have lz0 := ltb x0
      have lz1 := ltb r0
      have HS1 := Lib.hid (sl_setU (sl_setU hs1 hf1 hrr (o := 0) (v := .slice A1 n d1)) hf1 hrr (o := 1) (v := .slice B1 (m - 1) d2))
      have HS2 := Lib.hid (sgl_setU (sgl_setU hs2 hf2 hrr (o := 0) (v := .slice A1 n d1)) hf2 hrr (o := 1) (v := .slice B1 (m - 1) d2))
      have HCC := Lib.hid (And.intro hc1 hc2)
      clear hs1 hs2 hb hc1 hc2
      go_wp2_with fail
      refine bodyPost_ret (net_res47 _ _ _ _ _ _ rfl rfl (put_0U r0 _ _) (put_1U r0 r1 _ _)) rfl ?_
      rw [HF.out]
      exact ⟨A1, d1, B1, d2, rfl, Nat.le_trans HCC.out.1.1 HCC.out.1.2, Nat.le_trans HCC.out.2.1 HCC.out.2.2, HS1.out, HS2.out, bl_set (bl_set HB4.out (by omega)) (by omega)⟩
end Go.Proofs.Ytennmdlajealpaa
