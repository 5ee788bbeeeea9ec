/-
  Package sight: Carry of both.
-/
import Derived.Test.YtchikfegpoonjaaPW
import Derived.Test.YtchikfegpoonjaaPEB
namespace Go.Proofs.Ytchikfegpoonjaa
open Go.RowKit Go.Maps
set_option linter.unusedSimpArgs false
set_option linter.unusedVariables false

/-- What Carry answers. -/
def crV (R : Nat → Int) (S : Nat → Sgt) (n m : Nat) (a t : Int) : Value :=
  if vnB R n S m = false then .tuple #[.int .i64 0, .int .i64 1] else if clB n a = false then .tuple #[.int .i64 0, .int .i64 5] else if inB t 0 1000000000000 = false then .tuple #[.int .i64 0, .int .i64 7] else .tuple #[.int .i64 (crr (R a.toNat) t), .int .i64 0]
set_option maxRecDepth 100000 in
set_option maxHeartbeats 3200000 in
theorem carryN_any (A : Option Addr) (n c : Nat) (R : Nat → Int) (B : Option Addr) (m d : Nat) (S : Nat → Sgt) (a t : Int) (w : World) (hA : Sl w A n R) (hB : Sgl w B m S) (hn : n ≤ maxLen) (hm : m ≤ maxLen) :
    Calls Try.prog 9 #[encN A n c B m d, .int .i64 a, .int .i64 t] w fun e w' => e = .returned (crV R S n m a t) ∧ Bl w w' := by
  have HV := Lib.hid (fun (W : World) (hW : Bl w W) => validN_any A n c R B m d S W (hA.below hW) (hB.below hW) hn hm)
  have HC := Lib.hid (fun W => isClockS_any A n c B m d a W)
  have HT := Lib.hid (fun W => isTimeS_any t W)
  have HA := Lib.hid hA
  clear hA hB hn hm
  by_cases hv : vnB R n S m = false
  · rw [hv] at HV
    have HR := Lib.hid (show crV R S n m a t = .tuple #[.int .i64 0, .int .i64 1] from by rw [crV, if_pos hv])
    clear hv
    go_enter Try.func9, Try.ntmps9
    go_wp2_with fail
    have BX : Bl w (w.alloc (Obj.cells #[.slice A n c, .slice B m d] 27)) := by go_grown
    have x0 : (w.alloc (Obj.cells #[.slice A n c, .slice B m d] 27)).cell? ⟨w.heap.size, 0, none⟩ = some (.slice A n c) := by go_cell
    have x1 : (w.alloc (Obj.cells #[.slice A n c, .slice B m d] 27)).cell? ⟨w.heap.size, 1, none⟩ = some (.slice B m d) := by go_cell
    refine (HV.out _ BX).mono ?_
    rintro e1 w1 ⟨rfl, hb1⟩
    have HK1 := Lib.hid (show Bl w w1 from Bl.tr (BX) hb1)
    have x0 := kcb hb1 x0
    have x1 := kcb hb1 x1
    have lx := ltb x0
    clear hb1
    go_wp2_with fail
    go_ret2
    exact ⟨by rw [HR.out]; rfl, HK1.out⟩
  have hv' : vnB R n S m = true := by simpa using hv
  rw [hv'] at HV
  have HVN := Lib.hid (vn_iff.1 hv')
  by_cases ha : clB n a = false
  · rw [ha] at HC
    have HR := Lib.hid (show crV R S n m a t = .tuple #[.int .i64 0, .int .i64 5] from by rw [crV, if_neg hv, if_pos ha])
    clear hv hv' ha
    go_enter Try.func9, Try.ntmps9
    go_wp2_with fail
    have BX : Bl w (w.alloc (Obj.cells #[.slice A n c, .slice B m d] 27)) := by go_grown
    have x0 : (w.alloc (Obj.cells #[.slice A n c, .slice B m d] 27)).cell? ⟨w.heap.size, 0, none⟩ = some (.slice A n c) := by go_cell
    have x1 : (w.alloc (Obj.cells #[.slice A n c, .slice B m d] 27)).cell? ⟨w.heap.size, 1, none⟩ = some (.slice B m d) := by go_cell
    refine (HV.out _ BX).mono ?_
    rintro e1 w1 ⟨rfl, hb1⟩
    have HK1 := Lib.hid (show Bl w w1 from Bl.tr (BX) hb1)
    have x0 := kcb hb1 x0
    have x1 := kcb hb1 x1
    have lx := ltb x0
    clear hb1
    go_wp2_with fail
    refine (HC.out _).mono ?_
    rintro e2 w2 ⟨rfl, hb2⟩
    have HK2 := Lib.hid (show Bl w w2 from Bl.tr (HK1.out) hb2)
    have x0 := kcb hb2 x0
    have x1 := kcb hb2 x1
    have lx := ltb x0
    clear hb2
    go_wp2_with fail
    go_ret2
    exact ⟨by rw [HR.out]; rfl, HK2.out⟩
  have ha' : clB n a = true := by simpa using ha
  rw [ha'] at HC
  by_cases ht : inB t 0 1000000000000 = false
  · rw [ht] at HT
    have HR := Lib.hid (show crV R S n m a t = .tuple #[.int .i64 0, .int .i64 7] from by rw [crV, if_neg hv, if_neg ha, if_pos ht])
    clear hv hv' ha ha' ht
    go_enter Try.func9, Try.ntmps9
    go_wp2_with fail
    have BX : Bl w (w.alloc (Obj.cells #[.slice A n c, .slice B m d] 27)) := by go_grown
    have x0 : (w.alloc (Obj.cells #[.slice A n c, .slice B m d] 27)).cell? ⟨w.heap.size, 0, none⟩ = some (.slice A n c) := by go_cell
    have x1 : (w.alloc (Obj.cells #[.slice A n c, .slice B m d] 27)).cell? ⟨w.heap.size, 1, none⟩ = some (.slice B m d) := by go_cell
    refine (HV.out _ BX).mono ?_
    rintro e1 w1 ⟨rfl, hb1⟩
    have HK1 := Lib.hid (show Bl w w1 from Bl.tr (BX) hb1)
    have x0 := kcb hb1 x0
    have x1 := kcb hb1 x1
    have lx := ltb x0
    clear hb1
    go_wp2_with fail
    refine (HC.out _).mono ?_
    rintro e2 w2 ⟨rfl, hb2⟩
    have HK2 := Lib.hid (show Bl w w2 from Bl.tr (HK1.out) hb2)
    have x0 := kcb hb2 x0
    have x1 := kcb hb2 x1
    have lx := ltb x0
    clear hb2
    go_wp2_with fail
    refine (HT.out _).mono ?_
    rintro e3 w3 ⟨rfl, hb3⟩
    have HK3 := Lib.hid (show Bl w w3 from Bl.tr (HK2.out) hb3)
    have x0 := kcb hb3 x0
    have x1 := kcb hb3 x1
    have lx := ltb x0
    clear hb3
    go_wp2_with fail
    go_ret2
    exact ⟨by rw [HR.out]; rfl, HK3.out⟩
  have ht' : inB t 0 1000000000000 = true := by simpa using ht
  rw [ht'] at HT
  · have HR := Lib.hid (show crV R S n m a t = .tuple #[.int .i64 (crr (R a.toNat) t), .int .i64 0] from by rw [crV, if_neg hv, if_neg ha, if_neg ht])
    obtain ⟨k, rfl⟩ : ∃ k : Nat, a = (k : Int) := ⟨a.toNat, by have := (clB_iff.1 ha').1; omega⟩
    have hk : k < n := by have := (clB_iff.1 ha').2; omega
    obtain ⟨b, off, rfl, hbb, hbc⟩ := HA.out (by omega)
    have c0 := hbc k hk
    rw [Int.toNat_natCast] at HR
    have HCR := Lib.hid (fun W => carryS_any (R k) t (HVN.out.ra k hk) (inB_iff.1 ht') W)
    clear hv hv' ha ha' ht ht' hbc
    go_enter Try.func9, Try.ntmps9
    go_wp2_with fail
    have BX : Bl w (w.alloc (Obj.cells #[.slice (some ⟨b, off, none⟩) n c, .slice B m d] 27)) := by go_grown
    have x0 : (w.alloc (Obj.cells #[.slice (some ⟨b, off, none⟩) n c, .slice B m d] 27)).cell? ⟨w.heap.size, 0, none⟩ = some (.slice (some ⟨b, off, none⟩) n c) := by go_cell
    have x1 : (w.alloc (Obj.cells #[.slice (some ⟨b, off, none⟩) n c, .slice B m d] 27)).cell? ⟨w.heap.size, 1, none⟩ = some (.slice B m d) := by go_cell
    refine (HV.out _ BX).mono ?_
    rintro e1 w1 ⟨rfl, hb1⟩
    have HK1 := Lib.hid (show Bl w w1 from Bl.tr (BX) hb1)
    have x0 := kcb hb1 x0
    have x1 := kcb hb1 x1
    have lx := ltb x0
    clear hb1
    go_wp2_with fail
    refine (HC.out _).mono ?_
    rintro e2 w2 ⟨rfl, hb2⟩
    have HK2 := Lib.hid (show Bl w w2 from Bl.tr (HK1.out) hb2)
    have x0 := kcb hb2 x0
    have x1 := kcb hb2 x1
    have lx := ltb x0
    clear hb2
    go_wp2_with fail
    refine (HT.out _).mono ?_
    rintro e3 w3 ⟨rfl, hb3⟩
    have HK3 := Lib.hid (show Bl w w3 from Bl.tr (HK2.out) hb3)
    have x0 := kcb hb3 x0
    have x1 := kcb hb3 x1
    have lx := ltb x0
    clear hb3
    have c0 := kcb HK3.out c0
    have lc := ltb c0
    go_wp2_with fail
    refine (HCR.out _).mono ?_
    rintro e4 w4 ⟨rfl, rfl⟩
    go_wp2_with fail
    go_ret2
    exact ⟨by rw [HR.out]; rfl, HK3.out⟩