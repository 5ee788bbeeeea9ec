/-
  Package sight: Carry of both.
-/
import Derived.Test.YtennmdlajealpaaPW
import Derived.Test.YtennmdlajealpaaPEB
namespace Go.Proofs.Ytennmdlajealpaa
open Go.RowKit Go.Maps
set_option linter.unusedSimpArgs false
set_option linter.unusedVariables false

/-- What Carry answers. -/
def crV (R : Nat → Int) (S : Nat → Sgt) (n m : Nat) (a t : Int) : Value :=
  if vnB R n S m = false then .tuple #[.int .i64 0, .int .i64 1] else if clB n a = false then .tuple #[.int .i64 0, .int .i64 5] else if inB t 0 1000000000000 = false then .tuple #[.int .i64 0, .int .i64 7] else .tuple #[.int .i64 (crr (R a.toNat) t), .int .i64 0]
theorem rcarryS_any (r dt : Int) (hr : 0 ≤ r ∧ r ≤ 1000000) (hd : 0 ≤ dt ∧ dt ≤ 1000000000000) (w : World) : Calls Try.prog 59 #[.int .i64 r, .int .i64 dt] w fun e w' => e = .returned (.int .i64 (crr r dt)) ∧ w' = w := by
  obtain ⟨h0, h1, h2, h3⟩ := crr_bd hr hd
  have HC := Lib.hid (show crr r dt = (r * dt + 999999999) / 1000000000 from rfl)
  obtain ⟨x, hx⟩ : ∃ x, x = r * dt := ⟨_, rfl⟩
  obtain ⟨y, hy⟩ : ∃ y, y = crr r dt := ⟨_, rfl⟩
  rw [← hx] at h0 h1 HC
  rw [← hy] at HC h2 h3 ⊢
  have hy2 := HC.out
  have n0 : IntKind.i64.wrap (-dt) = -dt := IntWalk.i64_in _ (by omega)
  have n1 : max dt (-dt) = dt := by omega
  have n2 : ¬ dt < -dt := by omega
  have e0 : IntKind.i64.wrap (r * dt) = x := by rw [← hx]; exact IntWalk.i64_in _ (by omega)
  have e1 : IntKind.i64.wrap (x + 999999999) = x + 999999999 := IntWalk.i64_in _ (by omega)
  have e3 : (x + 999999999).tdiv 1000000000 = y := by rw [Int.tdiv_eq_ediv_of_nonneg (by omega)]; omega
  have e4 : IntKind.i64.wrap ((x + 999999999).tdiv 1000000000) = y := by rw [e3]; exact IntWalk.i64_in _ (by omega)
  have e5 : IntKind.i64.wrap y = y := IntWalk.i64_in _ (by omega)
  have e6 : (x + 999999999) / 1000000000 = y := hy2.symm
  clear hx hy hy2 h0 h1 h2 h3
  go_enter Try.func59, Try.ntmps59
  go_wp2_with fail
  all_goals (go_ret; exact ⟨ret_int rfl, rfl⟩)
set_option maxRecDepth 100000 in
set_option maxHeartbeats 3200000 in
theorem carryN_any (A : Option Addr) (n c : Nat) (R : Nat → Int) (B : Option Addr) (m d : Nat) (S : Nat → Sgt) (a t : Int) (w : World) (hA : Sl w A n R) (hB : Sgl w B m S) (hn : n ≤ maxLen) (hm : m ≤ maxLen) :
    Calls Try.prog 15 #[encN A n c B m d, .int .i64 a, .int .i64 t] w fun e w' => e = .returned (crV R S n m a t) ∧ Bl w w' := by
  have HV := Lib.hid (fun (W : World) (hW : Bl w W) => validN_any A n c R B m d S W (hA.below hW) (hB.below hW) hn hm)
  have HC := Lib.hid (fun W => isClockS_any A n c B m d a W)
  have HT := Lib.hid (fun W => isTimeS_any t W)
  have HA := Lib.hid hA
  clear hA hB hn hm
  by_cases hv : vnB R n S m = false
  · rw [hv] at HV
    have HR := Lib.hid (show crV R S n m a t = .tuple #[.int .i64 0, .int .i64 1] from by rw [crV, if_pos hv])
    clear hv
    go_enter Try.func15, Try.ntmps15
    go_wp2_with fail
    have BX : Bl w (w.alloc (Obj.cells #[.slice A n c, .slice B m d] 25)) := by go_grown
    have x0 : (w.alloc (Obj.cells #[.slice A n c, .slice B m d] 25)).cell? ⟨w.heap.size, 0, none⟩ = some (.slice A n c) := by go_cell
    have x1 : (w.alloc (Obj.cells #[.slice A n c, .slice B m d] 25)).cell? ⟨w.heap.size, 1, none⟩ = some (.slice B m d) := by go_cell
    refine (HV.out _ BX).mono ?_
    rintro e1 w1 ⟨rfl, hb1⟩
    have HK1 := Lib.hid (show Bl w w1 from Bl.tr (BX) hb1)
    have x0 := kcb hb1 x0
    have x1 := kcb hb1 x1
    have lx := ltb x0
    clear hb1
    go_wp2_with fail
    go_ret2
    exact ⟨by rw [HR.out]; rfl, HK1.out⟩
  have hv' : vnB R n S m = true := by simpa using hv
  rw [hv'] at HV
  have HVN := Lib.hid (vn_iff.1 hv')
  by_cases ha : clB n a = false
  · rw [ha] at HC
    have HR := Lib.hid (show crV R S n m a t = .tuple #[.int .i64 0, .int .i64 5] from by rw [crV, if_neg hv, if_pos ha])
    clear hv hv' ha
    go_enter Try.func15, Try.ntmps15
    go_wp2_with fail
    have BX : Bl w (w.alloc (Obj.cells #[.slice A n c, .slice B m d] 25)) := by go_grown
    have x0 : (w.alloc (Obj.cells #[.slice A n c, .slice B m d] 25)).cell? ⟨w.heap.size, 0, none⟩ = some (.slice A n c) := by go_cell
    have x1 : (w.alloc (Obj.cells #[.slice A n c, .slice B m d] 25)).cell? ⟨w.heap.size, 1, none⟩ = some (.slice B m d) := by go_cell
    refine (HV.out _ BX).mono ?_
    rintro e1 w1 ⟨rfl, hb1⟩
    have HK1 := Lib.hid (show Bl w w1 from Bl.tr (BX) hb1)
    have x0 := kcb hb1 x0
    have x1 := kcb hb1 x1
    have lx := ltb x0
    clear hb1
    go_wp2_with fail
    refine (HC.out _).mono ?_
    rintro e2 w2 ⟨rfl, hb2⟩
    have HK2 := Lib.hid (show Bl w w2 from Bl.tr (HK1.out) hb2)
    have x0 := kcb hb2 x0
    have x1 := kcb hb2 x1
    have lx := ltb x0
    clear hb2
    go_wp2_with fail
    go_ret2
    exact ⟨by rw [HR.out]; rfl, HK2.out⟩
  have ha' : clB n a = true := by simpa using ha
  rw [ha'] at HC
  by_cases ht : inB t 0 1000000000000 = false
  · rw [ht] at HT
    have HR := Lib.hid (show crV R S n m a t = .tuple #[.int .i64 0, .int .i64 7] from by rw [crV, if_neg hv, if_neg ha, if_pos ht])
    clear hv hv' ha ha' ht
    go_enter Try.func15, Try.ntmps15
    go_wp2_with fail
    have BX : Bl w (w.alloc (Obj.cells #[.slice A n c, .slice B m d] 25)) := by go_grown
    have x0 : (w.alloc (Obj.cells #[.slice A n c, .slice B m d] 25)).cell? ⟨w.heap.size, 0, none⟩ = some (.slice A n c) := by go_cell
    have x1 : (w.alloc (Obj.cells #[.slice A n c, .slice B m d] 25)).cell? ⟨w.heap.size, 1, none⟩ = some (.slice B m d) := by go_cell
    refine (HV.out _ BX).mono ?_
    rintro e1 w1 ⟨rfl, hb1⟩
    have HK1 := Lib.hid (show Bl w w1 from Bl.tr (BX) hb1)
    have x0 := kcb hb1 x0
    have x1 := kcb hb1 x1
    have lx := ltb x0
    clear hb1
    go_wp2_with fail
    refine (HC.out _).mono ?_
    rintro e2 w2 ⟨rfl, hb2⟩
    have HK2 := Lib.hid (show Bl w w2 from Bl.tr (HK1.out) hb2)
    have x0 := kcb hb2 x0
    have x1 := kcb hb2 x1
    have lx := ltb x0
    clear hb2
    go_wp2_with fail
    refine (HT.out _).mono ?_
    rintro e3 w3 ⟨rfl, hb3⟩
    have HK3 := Lib.hid (show Bl w w3 from Bl.tr (HK2.out) hb3)
    have x0 := kcb hb3 x0
    have x1 := kcb hb3 x1
    have lx := ltb x0
    clear hb3
    go_wp2_with fail
    go_ret2
    exact ⟨by rw [HR.out]; rfl, HK3.out⟩
  have ht' : inB t 0 1000000000000 = true := by simpa using ht
  rw [ht'] at HT
  · have HR := Lib.hid (show crV R S n m a t = .tuple #[.int .i64 (crr (R a.toNat) t), .int .i64 0] from by rw [crV, if_neg hv, if_neg ha, if_neg ht])
    obtain ⟨k, rfl⟩ : ∃ k : Nat, a = (k : Int) := ⟨a.toNat, by have := (clB_iff.1 ha').1; omega⟩
    have hk : k < n := by have := (clB_iff.1 ha').2; omega
    obtain ⟨b, off, rfl, hbb, hbc⟩ := HA.out (by omega)
    have c0 := hbc k hk
    rw [Int.toNat_natCast] at HR
    have HCR := Lib.hid (fun W => carryS_any (R k) t (HVN.out.ra k hk) (inB_iff.1 ht') W)
    clear hv hv' ha ha' ht ht' hbc
    go_enter Try.func15, Try.ntmps15
    go_wp2_with fail
    have BX : Bl w (w.alloc (Obj.cells #[.slice (some ⟨b, off, none⟩) n c, .slice B m d] 25)) := by go_grown
    have x0 : (w.alloc (Obj.cells #[.slice (some ⟨b, off, none⟩) n c, .slice B m d] 25)).cell? ⟨w.heap.size, 0, none⟩ = some (.slice (some ⟨b, off, none⟩) n c) := by go_cell
    have x1 : (w.alloc (Obj.cells #[.slice (some ⟨b, off, none⟩) n c, .slice B m d] 25)).cell? ⟨w.heap.size, 1, none⟩ = some (.slice B m d) := by go_cell
    refine (HV.out _ BX).mono ?_
    rintro e1 w1 ⟨rfl, hb1⟩
    have HK1 := Lib.hid (show Bl w w1 from Bl.tr (BX) hb1)
    have x0 := kcb hb1 x0
    have x1 := kcb hb1 x1
    have lx := ltb x0
    clear hb1
    go_wp2_with fail
    refine (HC.out _).mono ?_
    rintro e2 w2 ⟨rfl, hb2⟩
    have HK2 := Lib.hid (show Bl w w2 from Bl.tr (HK1.out) hb2)
    have x0 := kcb hb2 x0
    have x1 := kcb hb2 x1
    have lx := ltb x0
    clear hb2
    go_wp2_with fail
    refine (HT.out _).mono ?_
    rintro e3 w3 ⟨rfl, hb3⟩
    have HK3 := Lib.hid (show Bl w w3 from Bl.tr (HK2.out) hb3)
    have x0 := kcb hb3 x0
    have x1 := kcb hb3 x1
    have lx := ltb x0
    clear hb3
    have c0 := kcb HK3.out c0
    have lc := ltb c0
    go_wp2_with fail
    refine (HCR.out _).mono ?_
    rintro e4 w4 ⟨rfl, rfl⟩
    go_wp2_with fail
    go_ret2
    exact ⟨by rw [HR.out]; rfl, HK3.out⟩
set_option maxRecDepth 100000 in
set_option maxHeartbeats 3200000 in
theorem rcarryN_any (A : Option Addr) (n c : Nat) (R : Nat → Int) (B : Option Addr) (m d : Nat) (S : Nat → Sgt) (a t : Int) (w : World) (hA : Sl w A n R) (hB : Sgl w B m S) (hn : n ≤ maxLen) (hm : m ≤ maxLen) :
    Calls Try.prog 16 #[encN A n c B m d, .int .i64 a, .int .i64 t] w fun e w' => e = .returned (crV R S n m a t) ∧ Bl w w' := by
  have HV := Lib.hid (fun (W : World) (hW : Bl w W) => rvalidN_any A n c R B m d S W (hA.below hW) (hB.below hW) hn hm)
  have HC := Lib.hid (fun W => named2_any A n c B m d a W)
  have HT := Lib.hid (fun W => within2_any t 0 1000000000000 W)
  have HA := Lib.hid hA
  clear hA hB hn hm
  by_cases hv : vnB R n S m = false
  · rw [hv] at HV
    have HR := Lib.hid (show crV R S n m a t = .tuple #[.int .i64 0, .int .i64 1] from by rw [crV, if_pos hv])
    clear hv
    go_enter Try.func16, Try.ntmps16
    go_wp2_with fail
    have BX : Bl w (w.alloc (Obj.cells #[.slice A n c, .slice B m d] 25)) := by go_grown
    have x0 : (w.alloc (Obj.cells #[.slice A n c, .slice B m d] 25)).cell? ⟨w.heap.size, 0, none⟩ = some (.slice A n c) := by go_cell
    have x1 : (w.alloc (Obj.cells #[.slice A n c, .slice B m d] 25)).cell? ⟨w.heap.size, 1, none⟩ = some (.slice B m d) := by go_cell
    refine (HV.out _ BX).mono ?_
    rintro e1 w1 ⟨rfl, hb1⟩
    have HK1 := Lib.hid (show Bl w w1 from Bl.tr (BX) hb1)
    have x0 := kcb hb1 x0
    have x1 := kcb hb1 x1
    have lx := ltb x0
    clear hb1
    go_wp2_with fail
    go_ret2
    exact ⟨by rw [HR.out]; rfl, HK1.out⟩
  have hv' : vnB R n S m = true := by simpa using hv
  rw [hv'] at HV
  have HVN := Lib.hid (vn_iff.1 hv')
  by_cases ha : clB n a = false
  · rw [ha] at HC
    have HR := Lib.hid (show crV R S n m a t = .tuple #[.int .i64 0, .int .i64 5] from by rw [crV, if_neg hv, if_pos ha])
    clear hv hv' ha
    go_enter Try.func16, Try.ntmps16
    go_wp2_with fail
    have BX : Bl w (w.alloc (Obj.cells #[.slice A n c, .slice B m d] 25)) := by go_grown
    have x0 : (w.alloc (Obj.cells #[.slice A n c, .slice B m d] 25)).cell? ⟨w.heap.size, 0, none⟩ = some (.slice A n c) := by go_cell
    have x1 : (w.alloc (Obj.cells #[.slice A n c, .slice B m d] 25)).cell? ⟨w.heap.size, 1, none⟩ = some (.slice B m d) := by go_cell
    refine (HV.out _ BX).mono ?_
    rintro e1 w1 ⟨rfl, hb1⟩
    have HK1 := Lib.hid (show Bl w w1 from Bl.tr (BX) hb1)
    have x0 := kcb hb1 x0
    have x1 := kcb hb1 x1
    have lx := ltb x0
    clear hb1
    go_wp2_with fail
    refine (HC.out _).mono ?_
    rintro e2 w2 ⟨rfl, hb2⟩
    have HK2 := Lib.hid (show Bl w w2 from Bl.tr (HK1.out) hb2)
    have x0 := kcb hb2 x0
    have x1 := kcb hb2 x1
    have lx := ltb x0
    clear hb2
    go_wp2_with fail
    go_ret2
    exact ⟨by rw [HR.out]; rfl, HK2.out⟩
  have ha' : clB n a = true := by simpa using ha
  rw [ha'] at HC
  by_cases ht : inB t 0 1000000000000 = false
  · rw [ht] at HT
    have HR := Lib.hid (show crV R S n m a t = .tuple #[.int .i64 0, .int .i64 7] from by rw [crV, if_neg hv, if_neg ha, if_pos ht])
    clear hv hv' ha ha' ht
    go_enter Try.func16, Try.ntmps16
    go_wp2_with fail
    have BX : Bl w (w.alloc (Obj.cells #[.slice A n c, .slice B m d] 25)) := by go_grown
    have x0 : (w.alloc (Obj.cells #[.slice A n c, .slice B m d] 25)).cell? ⟨w.heap.size, 0, none⟩ = some (.slice A n c) := by go_cell
    have x1 : (w.alloc (Obj.cells #[.slice A n c, .slice B m d] 25)).cell? ⟨w.heap.size, 1, none⟩ = some (.slice B m d) := by go_cell
    refine (HV.out _ BX).mono ?_
    rintro e1 w1 ⟨rfl, hb1⟩
    have HK1 := Lib.hid (show Bl w w1 from Bl.tr (BX) hb1)
    have x0 := kcb hb1 x0
    have x1 := kcb hb1 x1
    have lx := ltb x0
    clear hb1
    go_wp2_with fail
    refine (HC.out _).mono ?_
    rintro e2 w2 ⟨rfl, hb2⟩
    have HK2 := Lib.hid (show Bl w w2 from Bl.tr (HK1.out) hb2)
    have x0 := kcb hb2 x0
    have x1 := kcb hb2 x1
    have lx := ltb x0
    clear hb2
    go_wp2_with fail
    refine (HT.out _).mono ?_
    rintro e3 w3 ⟨rfl, hb3⟩
    have HK3 := Lib.hid (show Bl w w3 from Bl.tr (HK2.out) hb3)
    have x0 := kcb hb3 x0
    have x1 := kcb hb3 x1
    have lx := ltb x0
    clear hb3
    go_wp2_with fail
    go_ret2
    exact ⟨by rw [HR.out]; rfl, HK3.out⟩
  have ht' : inB t 0 1000000000000 = true := by simpa using ht
  rw [ht'] at HT
  · have HR := Lib.hid (show crV R S n m a t = .tuple #[.int .i64 (crr (R a.toNat) t), .int .i64 0] from by rw [crV, if_neg hv, if_neg ha, if_neg ht])
    obtain ⟨k, rfl⟩ : ∃ k : Nat, a = (k : Int) := ⟨a.toNat, by have := (clB_iff.1 ha').1; omega⟩
    have hk : k < n := by have := (clB_iff.1 ha').2; omega
    obtain ⟨b, off, rfl, hbb, hbc⟩ := HA.out (by omega)
    have c0 := hbc k hk
    rw [Int.toNat_natCast] at HR
    have HCR := Lib.hid (fun W => rcarryS_any (R k) t (HVN.out.ra k hk) (inB_iff.1 ht') W)
    clear hv hv' ha ha' ht ht' hbc
    go_enter Try.func16, Try.ntmps16
    go_wp2_with fail
    have BX : Bl w (w.alloc (Obj.cells #[.slice (some ⟨b, off, none⟩) n c, .slice B m d] 25)) := by go_grown
    have x0 : (w.alloc (Obj.cells #[.slice (some ⟨b, off, none⟩) n c, .slice B m d] 25)).cell? ⟨w.heap.size, 0, none⟩ = some (.slice (some ⟨b, off, none⟩) n c) := by go_cell
    have x1 : (w.alloc (Obj.cells #[.slice (some ⟨b, off, none⟩) n c, .slice B m d] 25)).cell? ⟨w.heap.size, 1, none⟩ = some (.slice B m d) := by go_cell
    refine (HV.out _ BX).mono ?_
    rintro e1 w1 ⟨rfl, hb1⟩
    have HK1 := Lib.hid (show Bl w w1 from Bl.tr (BX) hb1)
    have x0 := kcb hb1 x0
    have x1 := kcb hb1 x1
    have lx := ltb x0
    clear hb1
    go_wp2_with fail
    refine (HC.out _).mono ?_
    rintro e2 w2 ⟨rfl, hb2⟩
    have HK2 := Lib.hid (show Bl w w2 from Bl.tr (HK1.out) hb2)
    have x0 := kcb hb2 x0
    have x1 := kcb hb2 x1
    have lx := ltb x0
    clear hb2
    go_wp2_with fail
    refine (HT.out _).mono ?_
    rintro e3 w3 ⟨rfl, hb3⟩
    have HK3 := Lib.hid (show Bl w w3 from Bl.tr (HK2.out) hb3)
    have x0 := kcb hb3 x0
    have x1 := kcb hb3 x1
    have lx := ltb x0
    clear hb3
    have c0 := kcb HK3.out c0
    have lc := ltb c0
    go_wp2_with fail
    refine (HCR.out _).mono ?_
    rintro e4 w4 ⟨rfl, rfl⟩
    go_wp2_with fail
    go_ret2
    exact ⟨by rw [HR.out]; rfl, HK3.out⟩
end Go.Proofs.Ytennmdlajealpaa
