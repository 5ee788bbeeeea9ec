/-
  Package sight: Shifted of the program.
-/
import Derived.Test.YtennmdlajealpaaUG
namespace Go.Proofs.Ytennmdlajealpaa
open Go.RowKit Go.Maps
set_option linter.unusedSimpArgs false
set_option linter.unusedVariables false

def movS (x : Sgt) (b : Int) : Sgt := ⟨x.tm, x.ca, x.cb, x.lo + b, x.hi + b⟩
/-- A sight of a net in which a clock's error is greater. -/
def shfS (a b : Int) (x : Sgt) : Sgt := if x.cb = a then movS x (-b) else if x.ca = a then movS x b else x
def shTo (S : Nat → Sgt) (a b : Int) (k j : Nat) : Sgt := if j < k then shfS a b (S j) else S j
def shiftF (R : Nat → Int) (n : Nat) (S : Nat → Sgt) (m : Nat) (a b : Int) : NetF :=
  if vnB R n S m = false then noN 1 else if (clB n a && decide (a ≠ 0)) = false then noN 5 else if inB b (-86400000) 86400000 = false then noN 7
  else if vnB R n (fun j => shfS a b (S j)) m = false then noN 4 else ⟨n, R, m, fun j => shfS a b (S j), 0⟩
theorem sgC_set (S T : Nat → Sgt) {n k : Nat} (hk : k < n) (h2 : ∀ j, j < n → j ≠ k → T j = S j) :
    ((((((sgC S n).set (k * 5) (.int .i64 (T k).tm)).set (k * 5 + 1) (.int .i64 (T k).ca)).set (k * 5 + 2) (.int .i64 (T k).cb)).set (k * 5 + 3) (.int .i64 (T k).lo)).set (k * 5 + 4) (.int .i64 (T k).hi)) = sgC T n := by
  induction n with
  | zero => omega
  | succ n ih =>
    by_cases e : k = n
    · subst e
      rw [sgC, sgC, sgC_congr (f := T) (g := S) (fun j hj => h2 j (by omega) (by omega))]
      rw [List.set_append_right _ _ (by rw [sgC_len]; omega), sgC_len, List.set_append_right _ _ (by rw [sgC_len]; omega), sgC_len, List.set_append_right _ _ (by rw [sgC_len]; omega), sgC_len, List.set_append_right _ _ (by rw [sgC_len]; omega), sgC_len, List.set_append_right _ _ (by rw [sgC_len]; omega), sgC_len]
      rw [show k * 5 - k * 5 = 0 by omega, show k * 5 + 1 - k * 5 = 1 by omega, show k * 5 + 2 - k * 5 = 2 by omega, show k * 5 + 3 - k * 5 = 3 by omega, show k * 5 + 4 - k * 5 = 4 by omega]
      rfl
    · rw [sgC, sgC, h2 n (by omega) (by omega), ← ih (by omega) (fun j hj hne => h2 j (by omega) hne)]
      rw [List.set_append_left _ _ (by rw [sgC_len]; omega), List.set_append_left _ _ (by simp only [List.length_set, sgC_len]; omega), List.set_append_left _ _ (by simp only [List.length_set, sgC_len]; omega), List.set_append_left _ _ (by simp only [List.length_set, sgC_len]; omega), List.set_append_left _ _ (by simp only [List.length_set, sgC_len]; omega)]
def set5 (w : World) (g o : Nat) (y : Sgt) : World := ((((w.setCell ⟨g, o, none⟩ (.int .i64 y.tm)).setCell ⟨g, o + 1, none⟩ (.int .i64 y.ca)).setCell ⟨g, o + 2, none⟩ (.int .i64 y.cb)).setCell ⟨g, o + 3, none⟩ (.int .i64 y.lo)).setCell ⟨g, o + 4, none⟩ (.int .i64 y.hi)
theorem own_set5 {w : World} {base g n cap k : Nat} {S T : Nat → Sgt} (h : w.ownsRow base 52 5 (.slice (some ⟨g, 0, none⟩) n cap) n (sgC S n)) (hk : k < n) (h2 : ∀ j, j < n → j ≠ k → T j = S j) : (set5 w g (k * 5) (T k)).ownsRow base 52 5 (.slice (some ⟨g, 0, none⟩) n cap) n (sgC T n) := by
  have h1 := (h.stored (k * 5) (.int .i64 (T k).tm)).1
  have h3 := (h1.stored (k * 5 + 1) (.int .i64 (T k).ca)).1
  have h4 := (h3.stored (k * 5 + 2) (.int .i64 (T k).cb)).1
  have h5 := (h4.stored (k * 5 + 3) (.int .i64 (T k).lo)).1
  have h6 := (h5.stored (k * 5 + 4) (.int .i64 (T k).hi)).1
  rw [sgC_set S T hk h2] at h6
  exact h6
theorem set5_cell {w : World} {g b o i : Nat} {y : Sgt} {v : Value} (h : w.cell? ⟨b, i, none⟩ = some v) (hne : b ≠ g) : (set5 w g o y).cell? ⟨b, i, none⟩ = some v :=
  cell_setO (cell_setO (cell_setO (cell_setO (cell_setO h hne) hne) hne) hne) hne
theorem set5_fz {w : World} {g b o i : Nat} {y : Sgt} (h : w.frozen? ⟨b, i, none⟩ = false) : (set5 w g o y).frozen? ⟨b, i, none⟩ = false := by
  unfold set5
  simpa using h
theorem set5_bl {X w : World} {g o : Nat} {y : Sgt} (h : Bl X w) (hb : X.heap.size ≤ g) : Bl X (set5 w g o y) := bl_set (bl_set (bl_set (bl_set (bl_set h hb) hb) hb) hb) hb
theorem set5_own {w : World} {base g o : Nat} {y : Sgt} {e : TypeId} {size n base' n' : Nat} {v : Value} {xs : List Value} {cap : Nat} {S : Nat → Sgt} (h : w.ownsRow base e size v n xs) (h' : w.ownsRow base' 52 5 (.slice (some ⟨g, 0, none⟩) n' cap) n' (sgC S n')) (he : e ≠ 52) : (set5 w g o y).ownsRow base e size v n xs :=
  row_keptS h (fun b q => by
    have hne : some b ≠ some g := (rows_apartU h h' he b q).2
    have hb : b ≠ g := fun e => hne (by rw [e])
    unfold set5
    rw [Below.heap_setCell _ _ _ b (fun e => hb (by rw [e])), Below.heap_setCell _ _ _ b (fun e => hb (by rw [e])), Below.heap_setCell _ _ _ b (fun e => hb (by rw [e])), Below.heap_setCell _ _ _ b (fun e => hb (by rw [e])), Below.heap_setCell _ _ _ b (fun e => hb (by rw [e]))])
theorem sgt_res82 (tmps : Array Value) (W : World) (p1 : Nat) (y : Sgt) (h8 : tmps.getD 4 undef = .pointer (some ⟨p1, 0, none⟩)) (c0 : W.cell? ⟨p1, 0, none⟩ = some (.int .i64 y.tm)) (c1 : W.cell? ⟨p1, 1, none⟩ = some (.int .i64 y.ca)) (c2 : W.cell? ⟨p1, 2, none⟩ = some (.int .i64 y.cb)) (c3 : W.cell? ⟨p1, 3, none⟩ = some (.int .i64 y.lo)) (c4 : W.cell? ⟨p1, 4, none⟩ = some (.int .i64 y.hi)) :
    (results Try.f82 tmps).run Try.prog W = .ok (encG y) W := by
  have h8' : tmps[4]?.getD undef = .pointer (some ⟨p1, 0, none⟩) := by simpa using h8
  simp [results, Try.results82, go_sem, h8', c0, c1, c2, c3, c4]
  try rfl
set_option maxRecDepth 100000 in
set_option maxHeartbeats 3200000 in
theorem moved_any (x : Sgt) (b : Int) (w : World) (h1 : -86400000 ≤ x.lo ∧ x.lo ≤ 86400000) (h2 : -86400000 ≤ x.hi ∧ x.hi ≤ 86400000) (h3 : -86400000 ≤ b ∧ b ≤ 86400000) :
    Calls Try.prog 82 #[encG x, .int .i64 b] w fun e w' => e = .returned (encG (movS x b)) ∧ Bl w w' := by
  have e1 : IntKind.i64.wrap (x.lo + b) = x.lo + b := IntWalk.i64_in _ (by omega)
  have e2 : IntKind.i64.wrap (x.hi + b) = x.hi + b := IntWalk.i64_in _ (by omega)
  clear h1 h2 h3
  go_enter Try.func82, Try.ntmps82
  go_wp2_with fail
  refine bodyPost_ret (sgt_res82 _ _ _ (movS x b) rfl (by unfold movS; go_cell) (by unfold movS; go_cell) (by unfold movS; go_cell) (by unfold movS; go_cell) (by unfold movS; go_cell)) rfl ⟨rfl, ?_⟩
  first | (go_grown; done) | (refine bl_set (bl_set (bl_set (bl_set (bl_set ?_ ?_) ?_) ?_) ?_) ?_ <;> first | (go_grown; done) | omega)
theorem cell5 {w : World} {base g n cap k : Nat} {S : Nat → Sgt} (h : w.ownsRow base 52 5 (.slice (some ⟨g, 0, none⟩) n cap) n (sgC S n)) (hk : k < n) :
    w.cell? ⟨g, k * 5, none⟩ = some (.int .i64 (S k).tm) ∧ w.cell? ⟨g, k * 5 + 1, none⟩ = some (.int .i64 (S k).ca) ∧ w.cell? ⟨g, k * 5 + 2, none⟩ = some (.int .i64 (S k).cb) ∧ w.cell? ⟨g, k * 5 + 3, none⟩ = some (.int .i64 (S k).lo) ∧ w.cell? ⟨g, k * 5 + 4, none⟩ = some (.int .i64 (S k).hi) := by
  have hat : ∀ i, i < 5 → w.cell? ⟨g, k * 5 + i, none⟩ = (cellsG (S k))[i]? := fun i hi => by rw [h.cellAt (k * 5 + i) (by omega), sgC_at S hk hi]
  exact ⟨hat 0 (by omega), hat 1 (by omega), hat 2 (by omega), hat 3 (by omega), hat 4 (by omega)⟩
theorem own_someU {w : World} {base : Nat} {e : TypeId} {size n d : Nat} {A : Option Addr} {xs : List Value} (h : w.ownsRow base e size (.slice A n d) n xs) (hn : 0 < n) : ∃ g, A = some ⟨g, 0, none⟩ ∧ base ≤ g ∧ g < w.heap.size := by
  rcases h.2 with ⟨_, h0⟩ | ⟨g, cap, cur, e, hb, hg, _⟩
  · omega
  · simp only [Value.slice.injEq] at e
    exact ⟨g, e.1, hb, (Array.getElem?_eq_some_iff.1 hg).1⟩
theorem net_res49 (tmps : Array Value) (W : World) (p1 : Nat) (a b : Value) (k : Int) (h8 : tmps.getD 6 undef = .pointer (some ⟨p1, 0, none⟩)) (h9 : tmps.getD 7 undef = .int .i64 k) (c0 : W.cell? ⟨p1, 0, none⟩ = some a) (c1 : W.cell? ⟨p1, 1, none⟩ = some b) :
    (results Try.f49 tmps).run Try.prog W = .ok (.tuple #[.agg #[a, b], .int .i64 k]) W := by
  have h8' : tmps[6]?.getD undef = .pointer (some ⟨p1, 0, none⟩) := by simpa using h8
  have h9' : tmps[7]?.getD undef = .int .i64 k := by simpa using h9
  simp [results, Try.results49, go_sem, h8', h9', c0, c1]
  try rfl
set_option maxRecDepth 100000 in
set_option maxHeartbeats 25600000 in
theorem shiftedS_any (A : Option Addr) (n c : Nat) (R : Nat → Int) (B : Option Addr) (m d : Nat) (S : Nat → Sgt) (a b : Int) (w : World) (hA : Sl w A n R) (hB : Sgl w B m S) (hn : n ≤ maxLen) (hm : m ≤ maxLen) :
    Calls Try.prog 49 #[encN A n c B m d, .int .i64 a, .int .i64 b] w (NetPost (shiftF R n S m a b) w) := by
  have HV := Lib.hid (fun (W : World) (hW : Bl w W) => validN_any A n c R B m d S W (hA.below hW) (hB.below hW) hn hm)
  have HCL := Lib.hid (fun W => isClockS_any A n c B m d a W)
  have HA := Lib.hid hA
  have HB := Lib.hid hB
  clear hA hB hn hm
  cases hv : vnB R n S m with
  | false =>
    rw [hv] at HV
    have HF := Lib.hid (show shiftF R n S m a b = noN 1 by rw [shiftF, if_pos hv])
    clear hv
    go_enter Try.func49, Try.ntmps49
    go_wp2_with fail
    obtain ⟨Z1, hZ⟩ : ∃ Z, Z = ((w.alloc (Obj.cells #[.slice A n c, .slice B m d] 25)).alloc (Obj.cells #[.slice none 0 0, .slice none 0 0] 25)) := ⟨_, rfl⟩
    have bz : Bl w Z1 := by rw [hZ]; exact Bl.tr (bl_alS _ _) (bl_alS _ _)
    have x0 : Z1.cell? ⟨w.heap.size, 0, none⟩ = some (.slice A n c) := by rw [hZ]; go_cell
    have fx0 : Z1.frozen? ⟨w.heap.size, 0, none⟩ = false := by rw [hZ]; go_cell
    have x1 : Z1.cell? ⟨w.heap.size, 1, none⟩ = some (.slice B m d) := by rw [hZ]; go_cell
    have fx1 : Z1.frozen? ⟨w.heap.size, 1, none⟩ = false := by rw [hZ]; go_cell
    have r0 : Z1.cell? ⟨w.heap.size + 1, 0, none⟩ = some (.slice none 0 0) := by rw [hZ]; go_cell
    have fr0 : Z1.frozen? ⟨w.heap.size + 1, 0, none⟩ = false := by rw [hZ]; go_cell
    have r1 : Z1.cell? ⟨w.heap.size + 1, 1, none⟩ = some (.slice none 0 0) := by rw [hZ]; go_cell
    have fr1 : Z1.frozen? ⟨w.heap.size + 1, 1, none⟩ = false := by rw [hZ]; go_cell
    rw [← hZ]
    have HB1 := Lib.hid (bz)
    clear hZ bz
    refine (HV.out _ HB1.out).mono ?_
    rintro e w2 ⟨rfl, hb⟩
    replace fx0 := fzb hb fx0 (ltb x0)
    replace fx1 := fzb hb fx1 (ltb x0)
    replace fr0 := fzb hb fr0 (ltb r0)
    replace fr1 := fzb hb fr1 (ltb r0)
    replace x0 := kcb hb x0
    replace x1 := kcb hb x1
    replace r0 := kcb hb r0
    replace r1 := kcb hb r1
    have HB2 := Lib.hid (HB1.out.tr hb)
    clear hb
    have lz0 := ltb x0
    have lz1 := ltb r0
    go_wp2_with fail
    exact bodyPost_ret (net_res49 _ _ _ _ _ _ rfl rfl (put_0U r0 _ _) (put_1U r0 r1 _ _)) rfl (by rw [HF.out]; exact netPost_no (bl_set (bl_set HB2.out (by omega)) (by omega)))
  | true =>
    have HVN := Lib.hid (vn_iff.1 hv)
    have HS0 := Lib.hid (show shiftF R n S m a b = if (clB n a && decide (a ≠ 0)) = false then noN 5 else if inB b (-86400000) 86400000 = false then noN 7 else if vnB R n (fun j => shfS a b (S j)) m = false then noN 4 else ⟨n, R, m, fun j => shfS a b (S j), 0⟩ by rw [shiftF, if_neg (by rw [hv]; decide)])
    rw [hv] at HV
    clear hv
    cases hc : clB n a with
    | false =>
      rw [hc] at HCL
      have HF := Lib.hid (show shiftF R n S m a b = noN 5 by rw [HS0.out, hc]; rfl)
      clear hc HS0
      go_enter Try.func49, Try.ntmps49
      go_wp2_with fail
      obtain ⟨Z1, hZ⟩ : ∃ Z, Z = ((w.alloc (Obj.cells #[.slice A n c, .slice B m d] 25)).alloc (Obj.cells #[.slice none 0 0, .slice none 0 0] 25)) := ⟨_, rfl⟩
      have bz : Bl w Z1 := by rw [hZ]; exact Bl.tr (bl_alS _ _) (bl_alS _ _)
      have x0 : Z1.cell? ⟨w.heap.size, 0, none⟩ = some (.slice A n c) := by rw [hZ]; go_cell
      have fx0 : Z1.frozen? ⟨w.heap.size, 0, none⟩ = false := by rw [hZ]; go_cell
      have x1 : Z1.cell? ⟨w.heap.size, 1, none⟩ = some (.slice B m d) := by rw [hZ]; go_cell
      have fx1 : Z1.frozen? ⟨w.heap.size, 1, none⟩ = false := by rw [hZ]; go_cell
      have r0 : Z1.cell? ⟨w.heap.size + 1, 0, none⟩ = some (.slice none 0 0) := by rw [hZ]; go_cell
      have fr0 : Z1.frozen? ⟨w.heap.size + 1, 0, none⟩ = false := by rw [hZ]; go_cell
      have r1 : Z1.cell? ⟨w.heap.size + 1, 1, none⟩ = some (.slice none 0 0) := by rw [hZ]; go_cell
      have fr1 : Z1.frozen? ⟨w.heap.size + 1, 1, none⟩ = false := by rw [hZ]; go_cell
      rw [← hZ]
      have HB1 := Lib.hid (bz)
      clear hZ bz
      refine (HV.out _ HB1.out).mono ?_
      rintro e w2 ⟨rfl, hb⟩
      replace fx0 := fzb hb fx0 (ltb x0)
      replace fx1 := fzb hb fx1 (ltb x0)
      replace fr0 := fzb hb fr0 (ltb r0)
      replace fr1 := fzb hb fr1 (ltb r0)
      replace x0 := kcb hb x0
      replace x1 := kcb hb x1
      replace r0 := kcb hb r0
      replace r1 := kcb hb r1
      have HB2 := Lib.hid (HB1.out.tr hb)
      clear hb
      have lz0 := ltb x0
      have lz1 := ltb r0
      go_wp2_with fail
      refine (HCL.out _).mono ?_
      rintro e w3 ⟨rfl, hb⟩
      replace fx0 := fzb hb fx0 (ltb x0)
      replace fx1 := fzb hb fx1 (ltb x0)
      replace fr0 := fzb hb fr0 (ltb r0)
      replace fr1 := fzb hb fr1 (ltb r0)
      replace x0 := kcb hb x0
      replace x1 := kcb hb x1
      replace r0 := kcb hb r0
      replace r1 := kcb hb r1
      have HB3 := Lib.hid (HB2.out.tr hb)
      clear hb
      have lz0 := ltb x0
      have lz1 := ltb r0
      go_wp2_with fail
      exact bodyPost_ret (net_res49 _ _ _ _ _ _ rfl rfl (put_0U r0 _ _) (put_1U r0 r1 _ _)) rfl (by rw [HF.out]; exact netPost_no (bl_set (bl_set HB3.out (by omega)) (by omega)))
    | true =>
      rw [hc] at HCL
      by_cases h0 : a = 0
      · have HF := Lib.hid (show shiftF R n S m a b = noN 5 by rw [HS0.out, hc, h0]; rfl)
        have h0' : (a == 0) = true := by simp [h0]
        clear hc HS0 h0
        go_enter Try.func49, Try.ntmps49
        go_wp2_with fail
        obtain ⟨Z1, hZ⟩ : ∃ Z, Z = ((w.alloc (Obj.cells #[.slice A n c, .slice B m d] 25)).alloc (Obj.cells #[.slice none 0 0, .slice none 0 0] 25)) := ⟨_, rfl⟩
        have bz : Bl w Z1 := by rw [hZ]; exact Bl.tr (bl_alS _ _) (bl_alS _ _)
        have x0 : Z1.cell? ⟨w.heap.size, 0, none⟩ = some (.slice A n c) := by rw [hZ]; go_cell
        have fx0 : Z1.frozen? ⟨w.heap.size, 0, none⟩ = false := by rw [hZ]; go_cell
        have x1 : Z1.cell? ⟨w.heap.size, 1, none⟩ = some (.slice B m d) := by rw [hZ]; go_cell
        have fx1 : Z1.frozen? ⟨w.heap.size, 1, none⟩ = false := by rw [hZ]; go_cell
        have r0 : Z1.cell? ⟨w.heap.size + 1, 0, none⟩ = some (.slice none 0 0) := by rw [hZ]; go_cell
        have fr0 : Z1.frozen? ⟨w.heap.size + 1, 0, none⟩ = false := by rw [hZ]; go_cell
        have r1 : Z1.cell? ⟨w.heap.size + 1, 1, none⟩ = some (.slice none 0 0) := by rw [hZ]; go_cell
        have fr1 : Z1.frozen? ⟨w.heap.size + 1, 1, none⟩ = false := by rw [hZ]; go_cell
        rw [← hZ]
        have HB1 := Lib.hid (bz)
        clear hZ bz
        refine (HV.out _ HB1.out).mono ?_
        rintro e w2 ⟨rfl, hb⟩
        replace fx0 := fzb hb fx0 (ltb x0)
        replace fx1 := fzb hb fx1 (ltb x0)
        replace fr0 := fzb hb fr0 (ltb r0)
        replace fr1 := fzb hb fr1 (ltb r0)
        replace x0 := kcb hb x0
        replace x1 := kcb hb x1
        replace r0 := kcb hb r0
        replace r1 := kcb hb r1
        have HB2 := Lib.hid (HB1.out.tr hb)
        clear hb
        have lz0 := ltb x0
        have lz1 := ltb r0
        go_wp2_with fail
        refine (HCL.out _).mono ?_
        rintro e w3 ⟨rfl, hb⟩
        replace fx0 := fzb hb fx0 (ltb x0)
        replace fx1 := fzb hb fx1 (ltb x0)
        replace fr0 := fzb hb fr0 (ltb r0)
        replace fr1 := fzb hb fr1 (ltb r0)
        replace x0 := kcb hb x0
        replace x1 := kcb hb x1
        replace r0 := kcb hb r0
        replace r1 := kcb hb r1
        have HB3 := Lib.hid (HB2.out.tr hb)
        clear hb
        have lz0 := ltb x0
        have lz1 := ltb r0
        go_wp2_with fail
        exact bodyPost_ret (net_res49 _ _ _ _ _ _ rfl rfl (put_0U r0 _ _) (put_1U r0 r1 _ _)) rfl (by rw [HF.out]; exact netPost_no (bl_set (bl_set HB3.out (by omega)) (by omega)))
      · have h0' : (a == 0) = false := by simp [h0]
        have HS1 := Lib.hid (show shiftF R n S m a b = if inB b (-86400000) 86400000 = false then noN 7 else if vnB R n (fun j => shfS a b (S j)) m = false then noN 4 else ⟨n, R, m, fun j => shfS a b (S j), 0⟩ by rw [HS0.out, hc, decide_eq_true h0, if_neg (by decide)])
        clear hc HS0 h0
        by_cases l1 : b < -86400000
        · have HF := Lib.hid (show shiftF R n S m a b = noN 7 by rw [HS1.out, if_pos (inB_no.2 (by omega))])
          clear HS1
          go_enter Try.func49, Try.ntmps49
          go_wp2_with fail
          obtain ⟨Z1, hZ⟩ : ∃ Z, Z = ((w.alloc (Obj.cells #[.slice A n c, .slice B m d] 25)).alloc (Obj.cells #[.slice none 0 0, .slice none 0 0] 25)) := ⟨_, rfl⟩
          have bz : Bl w Z1 := by rw [hZ]; exact Bl.tr (bl_alS _ _) (bl_alS _ _)
          have x0 : Z1.cell? ⟨w.heap.size, 0, none⟩ = some (.slice A n c) := by rw [hZ]; go_cell
          have fx0 : Z1.frozen? ⟨w.heap.size, 0, none⟩ = false := by rw [hZ]; go_cell
          have x1 : Z1.cell? ⟨w.heap.size, 1, none⟩ = some (.slice B m d) := by rw [hZ]; go_cell
          have fx1 : Z1.frozen? ⟨w.heap.size, 1, none⟩ = false := by rw [hZ]; go_cell
          have r0 : Z1.cell? ⟨w.heap.size + 1, 0, none⟩ = some (.slice none 0 0) := by rw [hZ]; go_cell
          have fr0 : Z1.frozen? ⟨w.heap.size + 1, 0, none⟩ = false := by rw [hZ]; go_cell
          have r1 : Z1.cell? ⟨w.heap.size + 1, 1, none⟩ = some (.slice none 0 0) := by rw [hZ]; go_cell
          have fr1 : Z1.frozen? ⟨w.heap.size + 1, 1, none⟩ = false := by rw [hZ]; go_cell
          rw [← hZ]
          have HB1 := Lib.hid (bz)
          clear hZ bz
          refine (HV.out _ HB1.out).mono ?_
          rintro e w2 ⟨rfl, hb⟩
          replace fx0 := fzb hb fx0 (ltb x0)
          replace fx1 := fzb hb fx1 (ltb x0)
          replace fr0 := fzb hb fr0 (ltb r0)
          replace fr1 := fzb hb fr1 (ltb r0)
          replace x0 := kcb hb x0
          replace x1 := kcb hb x1
          replace r0 := kcb hb r0
          replace r1 := kcb hb r1
          have HB2 := Lib.hid (HB1.out.tr hb)
          clear hb
          have lz0 := ltb x0
          have lz1 := ltb r0
          go_wp2_with fail
          refine (HCL.out _).mono ?_
          rintro e w3 ⟨rfl, hb⟩
          replace fx0 := fzb hb fx0 (ltb x0)
          replace fx1 := fzb hb fx1 (ltb x0)
          replace fr0 := fzb hb fr0 (ltb r0)
          replace fr1 := fzb hb fr1 (ltb r0)
          replace x0 := kcb hb x0
          replace x1 := kcb hb x1
          replace r0 := kcb hb r0
          replace r1 := kcb hb r1
          have HB3 := Lib.hid (HB2.out.tr hb)
          clear hb
          have lz0 := ltb x0
          have lz1 := ltb r0
          go_wp2_with fail
          exact bodyPost_ret (net_res49 _ _ _ _ _ _ rfl rfl (put_0U r0 _ _) (put_1U r0 r1 _ _)) rfl (by rw [HF.out]; exact netPost_no (bl_set (bl_set HB3.out (by omega)) (by omega)))
        by_cases l2 : 86400000 < b
        · have HF := Lib.hid (show shiftF R n S m a b = noN 7 by rw [HS1.out, if_pos (inB_no.2 (by omega))])
          clear HS1
          go_enter Try.func49, Try.ntmps49
          go_wp2_with fail
          obtain ⟨Z1, hZ⟩ : ∃ Z, Z = ((w.alloc (Obj.cells #[.slice A n c, .slice B m d] 25)).alloc (Obj.cells #[.slice none 0 0, .slice none 0 0] 25)) := ⟨_, rfl⟩
          have bz : Bl w Z1 := by rw [hZ]; exact Bl.tr (bl_alS _ _) (bl_alS _ _)
          have x0 : Z1.cell? ⟨w.heap.size, 0, none⟩ = some (.slice A n c) := by rw [hZ]; go_cell
          have fx0 : Z1.frozen? ⟨w.heap.size, 0, none⟩ = false := by rw [hZ]; go_cell
          have x1 : Z1.cell? ⟨w.heap.size, 1, none⟩ = some (.slice B m d) := by rw [hZ]; go_cell
          have fx1 : Z1.frozen? ⟨w.heap.size, 1, none⟩ = false := by rw [hZ]; go_cell
          have r0 : Z1.cell? ⟨w.heap.size + 1, 0, none⟩ = some (.slice none 0 0) := by rw [hZ]; go_cell
          have fr0 : Z1.frozen? ⟨w.heap.size + 1, 0, none⟩ = false := by rw [hZ]; go_cell
          have r1 : Z1.cell? ⟨w.heap.size + 1, 1, none⟩ = some (.slice none 0 0) := by rw [hZ]; go_cell
          have fr1 : Z1.frozen? ⟨w.heap.size + 1, 1, none⟩ = false := by rw [hZ]; go_cell
          rw [← hZ]
          have HB1 := Lib.hid (bz)
          clear hZ bz
          refine (HV.out _ HB1.out).mono ?_
          rintro e w2 ⟨rfl, hb⟩
          replace fx0 := fzb hb fx0 (ltb x0)
          replace fx1 := fzb hb fx1 (ltb x0)
          replace fr0 := fzb hb fr0 (ltb r0)
          replace fr1 := fzb hb fr1 (ltb r0)
          replace x0 := kcb hb x0
          replace x1 := kcb hb x1
          replace r0 := kcb hb r0
          replace r1 := kcb hb r1
          have HB2 := Lib.hid (HB1.out.tr hb)
          clear hb
          have lz0 := ltb x0
          have lz1 := ltb r0
          go_wp2_with fail
          refine (HCL.out _).mono ?_
          rintro e w3 ⟨rfl, hb⟩
          replace fx0 := fzb hb fx0 (ltb x0)
          replace fx1 := fzb hb fx1 (ltb x0)
          replace fr0 := fzb hb fr0 (ltb r0)
          replace fr1 := fzb hb fr1 (ltb r0)
          replace x0 := kcb hb x0
          replace x1 := kcb hb x1
          replace r0 := kcb hb r0
          replace r1 := kcb hb r1
          have HB3 := Lib.hid (HB2.out.tr hb)
          clear hb
          have lz0 := ltb x0
          have lz1 := ltb r0
          go_wp2_with fail
          exact bodyPost_ret (net_res49 _ _ _ _ _ _ rfl rfl (put_0U r0 _ _) (put_1U r0 r1 _ _)) rfl (by rw [HF.out]; exact netPost_no (bl_set (bl_set HB3.out (by omega)) (by omega)))
        have HSF := Lib.hid (show shiftF R n S m a b = if vnB R n (fun j => shfS a b (S j)) m = false then noN 4 else ⟨n, R, m, fun j => shfS a b (S j), 0⟩ by rw [HS1.out, if_neg (by rw [inB_iff.2 ⟨by omega, by omega⟩]; decide)])
        have hb1 : -86400000 ≤ b := by omega
        have hb2 : b ≤ 86400000 := by omega
        have HB12 := Lib.hid (And.intro hb1 hb2)
        clear HS1
        go_enter Try.func49, Try.ntmps49
        go_wp2_with fail
        obtain ⟨Z1, hZ⟩ : ∃ Z, Z = ((w.alloc (Obj.cells #[.slice A n c, .slice B m d] 25)).alloc (Obj.cells #[.slice none 0 0, .slice none 0 0] 25)) := ⟨_, rfl⟩
        have bz : Bl w Z1 := by rw [hZ]; exact Bl.tr (bl_alS _ _) (bl_alS _ _)
        have x0 : Z1.cell? ⟨w.heap.size, 0, none⟩ = some (.slice A n c) := by rw [hZ]; go_cell
        have fx0 : Z1.frozen? ⟨w.heap.size, 0, none⟩ = false := by rw [hZ]; go_cell
        have x1 : Z1.cell? ⟨w.heap.size, 1, none⟩ = some (.slice B m d) := by rw [hZ]; go_cell
        have fx1 : Z1.frozen? ⟨w.heap.size, 1, none⟩ = false := by rw [hZ]; go_cell
        have r0 : Z1.cell? ⟨w.heap.size + 1, 0, none⟩ = some (.slice none 0 0) := by rw [hZ]; go_cell
        have fr0 : Z1.frozen? ⟨w.heap.size + 1, 0, none⟩ = false := by rw [hZ]; go_cell
        have r1 : Z1.cell? ⟨w.heap.size + 1, 1, none⟩ = some (.slice none 0 0) := by rw [hZ]; go_cell
        have fr1 : Z1.frozen? ⟨w.heap.size + 1, 1, none⟩ = false := by rw [hZ]; go_cell
        rw [← hZ]
        have HB1 := Lib.hid (bz)
        clear hZ bz
        refine (HV.out _ HB1.out).mono ?_
        rintro e w2 ⟨rfl, hb⟩
        replace fx0 := fzb hb fx0 (ltb x0)
        replace fx1 := fzb hb fx1 (ltb x0)
        replace fr0 := fzb hb fr0 (ltb r0)
        replace fr1 := fzb hb fr1 (ltb r0)
        replace x0 := kcb hb x0
        replace x1 := kcb hb x1
        replace r0 := kcb hb r0
        replace r1 := kcb hb r1
        have HB2 := Lib.hid (HB1.out.tr hb)
        clear hb
        have lz0 := ltb x0
        have lz1 := ltb r0
        go_wp2_with fail
        refine (HCL.out _).mono ?_
        rintro e w3 ⟨rfl, hb⟩
        replace fx0 := fzb hb fx0 (ltb x0)
        replace fx1 := fzb hb fx1 (ltb x0)
        replace fr0 := fzb hb fr0 (ltb r0)
        replace fr1 := fzb hb fr1 (ltb r0)
        replace x0 := kcb hb x0
        replace x1 := kcb hb x1
        replace r0 := kcb hb r0
        replace r1 := kcb hb r1
        have HB3 := Lib.hid (HB2.out.tr hb)
        clear hb
        have lz0 := ltb x0
        have lz1 := ltb r0
        go_wp2_with fail
        clear hb1 hb2
        refine (copied_any A n c R B m d S _ (HA.out.below HB3.out) (HB.out.below HB3.out) (by have := HVN.out.n8; omega) (by have := HVN.out.m30; omega)).mono ?_
        rintro e w4 ⟨A1, d1, B1, d2, rfl, ho1, ho2, hb⟩
        have hxw : w.heap.size + 1 < w3.heap.size := ltb r0
        have HXW := Lib.hid hxw
        replace fx0 := fzb hb fx0 (ltb x0)
        replace fx1 := fzb hb fx1 (ltb x0)
        replace fr0 := fzb hb fr0 (ltb r0)
        replace fr1 := fzb hb fr1 (ltb r0)
        replace x0 := kcb hb x0
        replace x1 := kcb hb x1
        replace r0 := kcb hb r0
        replace r1 := kcb hb r1
        have HB4 := Lib.hid (HB3.out.tr hb)
        have lz0 := ltb x0
        have lz1 := ltb r0
        obtain ⟨P, hP⟩ : ∃ P, P = (w4.setCell ⟨w.heap.size, 0, none⟩ (.slice A1 n d1)).setCell ⟨w.heap.size, 1, none⟩ (.slice B1 m d2) := ⟨_, rfl⟩
        have HST := Lib.hid (show ∀ wr, wr = P → (wr.ownsRow w3.heap.size 3 1 (.slice A1 n d1) n (rgC R n) ∧ wr.ownsRow w3.heap.size 52 5 (.slice B1 m d2) m (sgC (shTo S a b 0) m)) ∧ Bl w wr ∧ wr.cell? ⟨w.heap.size, 0, none⟩ = some (.slice A1 n d1) ∧ wr.cell? ⟨w.heap.size, 1, none⟩ = some (.slice B1 m d2) ∧ wr.cell? ⟨w.heap.size + 1, 0, none⟩ = some (.slice none 0 0) ∧ wr.cell? ⟨w.heap.size + 1, 1, none⟩ = some (.slice none 0 0) ∧ wr.frozen? ⟨w.heap.size + 1, 0, none⟩ = false ∧ wr.frozen? ⟨w.heap.size + 1, 1, none⟩ = false from fun wr e => by
          subst e
          rw [hP]
          refine ⟨⟨own_setS (own_setS ho1 (by omega)) (by omega), ?_⟩, bl_set (bl_set HB4.out (Nat.le_refl _)) (Nat.le_refl _), put_0U x0 _ _, put_1U x0 x1 _ _, cell_setO (cell_setO r0 (by omega)) (by omega), cell_setO (cell_setO r1 (by omega)) (by omega), by simpa using fr0, by simpa using fr1⟩
          rw [sgC_congr (f := shTo S a b 0) (g := S) (fun j _ => by simp [shTo])]
          exact own_setS (own_setS ho2 (by omega)) (by omega))
        clear ho1 ho2 hb
        go_wp2_with fail
        rw [← hP]
        clear hP
        have hm30 : m ≤ 30 := HVN.out.m30
        clear x0 x1 r0 r1 fx0 fx1 fr0 fr1 lz0 lz1 hxw
        go_loopw [35] (fun i wr => ∃ k : Nat, k ≤ m ∧ i = .int .i64 k ∧ Hid (wr.ownsRow w3.heap.size 3 1 (.slice A1 n d1) n (rgC R n) ∧ wr.ownsRow w3.heap.size 52 5 (.slice B1 m d2) m (sgC (shTo S a b k) m)) ∧ Bl w wr ∧ wr.cell? ⟨w.heap.size, 0, none⟩ = some (.slice A1 n d1) ∧ wr.cell? ⟨w.heap.size, 1, none⟩ = some (.slice B1 m d2) ∧ wr.cell? ⟨w.heap.size + 1, 0, none⟩ = some (.slice none 0 0) ∧ wr.cell? ⟨w.heap.size + 1, 1, none⟩ = some (.slice none 0 0) ∧ wr.frozen? ⟨w.heap.size + 1, 0, none⟩ = false ∧ wr.frozen? ⟨w.heap.size + 1, 1, none⟩ = false) (fun i _ => m - (intOf i).toNat)
        case atStart => exact ⟨0, Nat.zero_le _, rfl, (HST.out P rfl).1, (HST.out P rfl).2⟩
        case round =>
          obtain ⟨k, hk, rfl, HO, hZ, x0, x1, r0, r1, f0, f1⟩ := hrel
          have HZ := Lib.hid hZ
          have lx := ltb x0
          have lr := ltb r0
          clear hZ HST
          by_cases hlt : k < m
          · obtain ⟨g, rfl, hg1, hg2⟩ := own_someU HO.out.2 (by omega)
            obtain ⟨c0, c1, c2, c3, c4⟩ := cell5 HO.out.2 hlt
            rw [show shTo S a b k k = S k by simp [shTo]] at c0 c1 c2 c3 c4
            have hsg := sgB_iff.1 (HVN.out.sg k hlt)
            have HXK := Lib.hid (show ∀ j, j < m → j ≠ k → shTo S a b (k + 1) j = shTo S a b k j from fun j hj hne => by
              unfold shTo
              by_cases h : j < k
              · rw [if_pos h, if_pos (by omega)]
              · rw [if_neg h, if_neg (by omega)])
            have HX1 := Lib.hid (show shTo S a b (k + 1) k = shfS a b (S k) by simp [shTo])
            have HX0 := Lib.hid (show shTo S a b k k = S k by simp [shTo])
            obtain ⟨x, hx⟩ : ∃ x, x = S k := ⟨_, rfl⟩
            rw [← hx] at c0 c1 c2 c3 c4 hsg HX1 HX0
            have HMV := Lib.hid (fun (b' : Int) (h : -86400000 ≤ b' ∧ b' ≤ 86400000) (W : World) => moved_any x b' W ⟨by omega, by omega⟩ ⟨by omega, by omega⟩ h)
            have hgx : g ≠ w.heap.size := by have := HXW.out; omega
            have hgr : g ≠ w.heap.size + 1 := by have := HXW.out; omega
            have hgw : w.heap.size ≤ g := by have := HXW.out; omega
            clear hx hsg
            obtain ⟨Y, hY⟩ : ∃ Y, Y = wr.alloc (Obj.cells #[.int .i64 x.tm, .int .i64 x.ca, .int .i64 x.cb, .int .i64 x.lo, .int .i64 x.hi] 52) := ⟨_, rfl⟩
            have BY : Bl wr Y := by rw [hY]; exact bl_alU _ _
            have y0 : Y.cell? ⟨wr.heap.size, 0, none⟩ = some (.int .i64 x.tm) := by rw [hY]; go_cell
            have y1 : Y.cell? ⟨wr.heap.size, 1, none⟩ = some (.int .i64 x.ca) := by rw [hY]; go_cell
            have y2 : Y.cell? ⟨wr.heap.size, 2, none⟩ = some (.int .i64 x.cb) := by rw [hY]; go_cell
            have y3 : Y.cell? ⟨wr.heap.size, 3, none⟩ = some (.int .i64 x.lo) := by rw [hY]; go_cell
            have y4 : Y.cell? ⟨wr.heap.size, 4, none⟩ = some (.int .i64 x.hi) := by rw [hY]; go_cell
            have HOY := Lib.hid (show (Y.ownsRow w3.heap.size 3 1 (.slice A1 n d1) n (rgC R n)) ∧ Y.ownsRow w3.heap.size 52 5 (.slice (some ⟨g, 0, none⟩) m d2) m (sgC (shTo S a b k) m) from ⟨own_belowU HO.out.1 BY, own_belowU HO.out.2 BY⟩)
            have HBY := Lib.hid (HZ.out.tr BY)
            have HXY := Lib.hid (show Y.cell? ⟨w.heap.size, 0, none⟩ = some (.slice A1 n d1) ∧ Y.cell? ⟨w.heap.size, 1, none⟩ = some (.slice (some ⟨g, 0, none⟩) m d2) ∧ Y.cell? ⟨w.heap.size + 1, 0, none⟩ = some (.slice none 0 0) ∧ Y.cell? ⟨w.heap.size + 1, 1, none⟩ = some (.slice none 0 0) ∧ Y.frozen? ⟨w.heap.size + 1, 0, none⟩ = false ∧ Y.frozen? ⟨w.heap.size + 1, 1, none⟩ = false from ⟨kcb BY x0, kcb BY x1, kcb BY r0, kcb BY r1, fzb BY f0 lr, fzb BY f1 lr⟩)
            have hyg : wr.heap.size ≠ g := by omega
            by_cases q1 : x.cb = a
            · have q1' : (x.cb == a) = true := by simp [q1]
              have HSH := Lib.hid (show shTo S a b (k + 1) k = movS x (-b) by rw [HX1.out, shfS, if_pos q1])
              have v1 : IntKind.i64.wrap (-b) = -b := IntWalk.i64_in _ (by have := HB12.out; omega)
              clear q1
              go_wp2_with fail
              rw [← hY]
              clear hY BY x0 x1 r0 r1 f0 f1 lr c0 c1 c2 c3 c4
              refine wp_region_noPanic ?_
              refine wp_region_held_drew (S := fun w' => Bl w w' ∧ w'.cell? ⟨w.heap.size, 0, none⟩ = some (.slice A1 n d1) ∧ w'.cell? ⟨w.heap.size, 1, none⟩ = some (.slice (some ⟨g, 0, none⟩) m d2) ∧ w'.cell? ⟨wr.heap.size, 0, none⟩ = some (.int .i64 x.tm) ∧ w'.cell? ⟨wr.heap.size, 1, none⟩ = some (.int .i64 x.ca) ∧ w'.cell? ⟨wr.heap.size, 2, none⟩ = some (.int .i64 x.cb) ∧ w'.cell? ⟨wr.heap.size, 3, none⟩ = some (.int .i64 x.lo) ∧ w'.cell? ⟨wr.heap.size, 4, none⟩ = some (.int .i64 x.hi)) (by kernel_rfl) (⟨HBY.out.tr (bl_drS _), kcb (bl_drS _) HXY.out.1, kcb (bl_drS _) HXY.out.2.1, kcb (bl_drS _) y0, kcb (bl_drS _) y1, kcb (bl_drS _) y2, kcb (bl_drS _) y3, kcb (bl_drS _) y4⟩) (fun hH => ?_)
              refine wpAnyH_take (i := 0) (oi := ({ dst := some 44, op := Go.Op.fieldAddr 25 (Go.Operand.tmp 3) 1, type := 0, pos := "sight.go:84", after := #[], guard := none } : Oper)) (v := ?_) rfl (by kernel_rfl) (by kernel_rfl) (by kernel_rfl) (fun _ _ _ h => h) (Or.inl ⟨by rfl, ?_⟩) hH ?_
              rotate_left
              · intro w hSw; (try dsimp only at hSw); go_simp; try with_reducible rfl
              try simp only [Act.put, List.setIfInBounds_toArray, List.set_cons_zero, List.set_cons_succ]
              refine wpAnyH_take (i := 1) (oi := ({ dst := some 45, op := Go.Op.load 23 (Go.Operand.tmp 44), type := 23, pos := "sight.go:84", after := #[{ on := 0, ground := Go.Ground.data }], guard := none } : Oper)) (v := ?_) rfl (by kernel_rfl) (by kernel_rfl) (by kernel_rfl) (fun _ _ _ h => h) (Or.inl ⟨by rfl, ?_⟩) hH ?_
              rotate_left
              · intro w hSw; (try dsimp only at hSw); go_simp; try with_reducible rfl
              try simp only [Act.put, List.setIfInBounds_toArray, List.set_cons_zero, List.set_cons_succ]
              refine wpAnyH_take (i := 2) (oi := ({ dst := some 46, op := Go.Op.move (Go.Operand.tmp 8), type := 3, pos := "sight.go:84", after := #[], guard := none } : Oper)) (v := ?_) rfl (by kernel_rfl) (by kernel_rfl) (by kernel_rfl) (fun _ _ _ h => h) (Or.inl ⟨by rfl, ?_⟩) hH ?_
              rotate_left
              · intro w hSw; (try dsimp only at hSw); go_simp; try with_reducible rfl
              try simp only [Act.put, List.setIfInBounds_toArray, List.set_cons_zero, List.set_cons_succ]
              refine wpAnyH_take (i := 3) (oi := ({ dst := some 47, op := Go.Op.load 52 (Go.Operand.tmp 9), type := 52, pos := "sight.go:84", after := #[], guard := none } : Oper)) (v := ?_) rfl (by kernel_rfl) (by kernel_rfl) (by kernel_rfl) (fun _ _ _ h => h) (Or.inl ⟨by rfl, ?_⟩) hH ?_
              rotate_left
              · intro w hSw; (try dsimp only at hSw); go_simp; try with_reducible rfl
              try simp only [Act.put, List.setIfInBounds_toArray, List.set_cons_zero, List.set_cons_succ]
              refine wpAnyH_take (i := 4) (oi := ({ dst := some 48, op := Go.Op.move (Go.Operand.tmp 2), type := 3, pos := "sight.go:84", after := #[], guard := none } : Oper)) (v := ?_) rfl (by kernel_rfl) (by kernel_rfl) (by kernel_rfl) (fun _ _ _ h => h) (Or.inl ⟨by rfl, ?_⟩) hH ?_
              rotate_left
              · intro w hSw; (try dsimp only at hSw); go_simp; try with_reducible rfl
              try simp only [Act.put, List.setIfInBounds_toArray, List.set_cons_zero, List.set_cons_succ]
              refine wpAnyH_take (i := 5) (oi := ({ dst := some 49, op := Go.Op.unOp Go.UnOp.neg 3 (Go.Operand.tmp 48), type := 3, pos := "sight.go:84", after := #[{ on := 4, ground := Go.Ground.data }], guard := none } : Oper)) (v := ?_) rfl (by kernel_rfl) (by kernel_rfl) (by kernel_rfl) (fun _ _ _ h => h) (Or.inl ⟨by rfl, ?_⟩) hH ?_
              rotate_left
              · intro w hSw; (try dsimp only at hSw); go_simp; try with_reducible rfl
              try simp only [Act.put, List.setIfInBounds_toArray, List.set_cons_zero, List.set_cons_succ]
              refine wpAnyH_ready (rs := [6]) (by kernel_rfl) (by simp) ?_
              refine AllReadyH.cons (o := ({ dst := some 50, op := Go.Op.call { callee := Go.Callee.value (Go.Operand.func 82), args := #[Go.Operand.tmp 47, Go.Operand.tmp 49], argTypes := #[52, 3] }, type := 52, pos := "sight.go:84", after := #[{ on := 3, ground := Go.Ground.data }, { on := 5, ground := Go.Ground.data }], guard := none } : Oper)) rfl (fun K hK => ?_) AllReadyH.nil
              go_simp
              go_at_call 82
              refine (HMV.out (-b) (by have := HB12.out; omega) _).mono ?_
              rintro e9 w9 ⟨rfl, hb⟩
              have hb9 := Bl.tr (bl_drS Y) hb
              have HO9 := Lib.hid (And.intro (own_belowU HOY.out.1 hb9) (own_belowU HOY.out.2 hb9))
              obtain ⟨c0, c1, c2, c3, c4⟩ := cell5 HO9.out.2 hlt
              have zf0 := HO9.out.2.frozenAt (k * 5)
              have zf1 := HO9.out.2.frozenAt (k * 5 + 1)
              have zf2 := HO9.out.2.frozenAt (k * 5 + 2)
              have zf3 := HO9.out.2.frozenAt (k * 5 + 3)
              have zf4 := HO9.out.2.frozenAt (k * 5 + 4)
              have lg9 := ltb c0
              have lx9 := ltb (kcb hb9 HXY.out.1)
              have HX9 := Lib.hid (show w9.cell? ⟨w.heap.size, 0, none⟩ = some (.slice A1 n d1) ∧ w9.cell? ⟨w.heap.size, 1, none⟩ = some (.slice (some ⟨g, 0, none⟩) m d2) ∧ w9.cell? ⟨w.heap.size + 1, 0, none⟩ = some (.slice none 0 0) ∧ w9.cell? ⟨w.heap.size + 1, 1, none⟩ = some (.slice none 0 0) ∧ w9.frozen? ⟨w.heap.size + 1, 0, none⟩ = false ∧ w9.frozen? ⟨w.heap.size + 1, 1, none⟩ = false from ⟨kcb hb9 HXY.out.1, kcb hb9 HXY.out.2.1, kcb hb9 HXY.out.2.2.1, kcb hb9 HXY.out.2.2.2.1, fzb hb9 HXY.out.2.2.2.2.1 (ltb HXY.out.2.2.1), fzb hb9 HXY.out.2.2.2.2.2 (ltb HXY.out.2.2.1)⟩)
              have HB9 := Lib.hid (HBY.out.tr hb9)
              clear hb9
              refine hK.out _ _ ⟨hH.1.tr hb, kcb hb hH.2.1, kcb hb hH.2.2.1, kcb hb hH.2.2.2.1, kcb hb hH.2.2.2.2.1, kcb hb hH.2.2.2.2.2.1, kcb hb hH.2.2.2.2.2.2.1, kcb hb hH.2.2.2.2.2.2.2⟩ (fun hH' => ?_)
              clear hH
              have hH := hH'
              clear hH' hK K
              try simp only [Act.put, List.setIfInBounds_toArray, List.set_cons_zero, List.set_cons_succ]
              refine wpAnyH_take (i := 7) (oi := ({ dst := some 51, op := Go.Op.indexAddr 23 (Go.Operand.tmp 45) (Go.Operand.tmp 46), type := 0, pos := "sight.go:84", after := #[{ on := 1, ground := Go.Ground.data }, { on := 2, ground := Go.Ground.data }, { on := 0, ground := Go.Ground.phase }, { on := 1, ground := Go.Ground.phase }, { on := 2, ground := Go.Ground.phase }, { on := 3, ground := Go.Ground.phase }, { on := 4, ground := Go.Ground.phase }, { on := 5, ground := Go.Ground.phase }, { on := 6, ground := Go.Ground.phase }], guard := none } : Oper)) (v := ?_) rfl (by kernel_rfl) (by kernel_rfl) (by kernel_rfl) (fun _ _ _ h => h) (Or.inl ⟨by rfl, ?_⟩) hH ?_
              rotate_left
              · intro w hSw; (try dsimp only at hSw); go_simp; try with_reducible rfl
              try simp only [Act.put, List.setIfInBounds_toArray, List.set_cons_zero, List.set_cons_succ]
              refine wpAnyH_ready (rs := [8]) (by kernel_rfl) (by simp) ?_
              refine AllReadyH.cons (o := ({ dst := none, op := Go.Op.store 52 (Go.Operand.tmp 51) (Go.Operand.tmp 50), type := 0, pos := "sight.go:84", after := #[{ on := 7, ground := Go.Ground.data }, { on := 6, ground := Go.Ground.data }, { on := 6, ground := Go.Ground.chain }, { on := 0, ground := Go.Ground.phase }, { on := 1, ground := Go.Ground.phase }, { on := 2, ground := Go.Ground.phase }, { on := 3, ground := Go.Ground.phase }, { on := 4, ground := Go.Ground.phase }, { on := 5, ground := Go.Ground.phase }, { on := 6, ground := Go.Ground.phase }], guard := none } : Oper)) rfl (fun K hK => ?_) AllReadyH.nil
              go_simp
              refine hK.out _ _ (show Bl w (set5 w9 g (k * 5) (movS x (-b))) ∧ _ from ⟨set5_bl hH.1 hgw, set5_cell hH.2.1 (Ne.symm hgx), set5_cell hH.2.2.1 (Ne.symm hgx), set5_cell hH.2.2.2.1 hyg, set5_cell hH.2.2.2.2.1 hyg, set5_cell hH.2.2.2.2.2.1 hyg, set5_cell hH.2.2.2.2.2.2.1 hyg, set5_cell hH.2.2.2.2.2.2.2 hyg⟩) (fun hH' => ?_)
              clear hH
              have hH := hH'
              clear hH' hK K
              try simp only [Act.put, List.setIfInBounds_toArray, List.set_cons_zero, List.set_cons_succ]
              refine wpAnyH_done (by kernel_rfl) ?_ _
              refine NoPanic.normal ?_
              go_wp2_with fail
              go_roundw
              case rel => exact ⟨k + 1, by omega, by go_num, ⟨set5_own HO9.out.1 HO9.out.2 (by decide), by have h := own_set5 (T := shTo S a b (k + 1)) HO9.out.2 hlt HXK.out; rw [HSH.out] at h; exact h⟩, set5_bl HB9.out hgw, set5_cell HX9.out.1 (Ne.symm hgx), set5_cell HX9.out.2.1 (Ne.symm hgx), set5_cell HX9.out.2.2.1 (Ne.symm hgr), set5_cell HX9.out.2.2.2.1 (Ne.symm hgr), set5_fz HX9.out.2.2.2.2.1, set5_fz HX9.out.2.2.2.2.2⟩
              case measure => simp [RowKit.intOf]; omega
            · have q1' : (x.cb == a) = false := by simp [q1]
              by_cases q2 : x.ca = a
              · have q2' : (x.ca == a) = true := by simp [q2]
                have HSH := Lib.hid (show shTo S a b (k + 1) k = movS x b by rw [HX1.out, shfS, if_neg q1, if_pos q2])
                clear q1 q2
                go_wp2_with fail
                rw [← hY]
                clear hY BY x0 x1 r0 r1 f0 f1 lr c0 c1 c2 c3 c4
                refine wp_region_noPanic ?_
                refine wp_region_held_drew (S := fun w' => Bl w w' ∧ w'.cell? ⟨w.heap.size, 0, none⟩ = some (.slice A1 n d1) ∧ w'.cell? ⟨w.heap.size, 1, none⟩ = some (.slice (some ⟨g, 0, none⟩) m d2) ∧ w'.cell? ⟨wr.heap.size, 0, none⟩ = some (.int .i64 x.tm) ∧ w'.cell? ⟨wr.heap.size, 1, none⟩ = some (.int .i64 x.ca) ∧ w'.cell? ⟨wr.heap.size, 2, none⟩ = some (.int .i64 x.cb) ∧ w'.cell? ⟨wr.heap.size, 3, none⟩ = some (.int .i64 x.lo) ∧ w'.cell? ⟨wr.heap.size, 4, none⟩ = some (.int .i64 x.hi)) (by kernel_rfl) (⟨HBY.out.tr (bl_drS _), kcb (bl_drS _) HXY.out.1, kcb (bl_drS _) HXY.out.2.1, kcb (bl_drS _) y0, kcb (bl_drS _) y1, kcb (bl_drS _) y2, kcb (bl_drS _) y3, kcb (bl_drS _) y4⟩) (fun hH => ?_)
                refine wpAnyH_take (i := 0) (oi := ({ dst := some 56, op := Go.Op.fieldAddr 25 (Go.Operand.tmp 3) 1, type := 0, pos := "sight.go:86", after := #[], guard := none } : Oper)) (v := ?_) rfl (by kernel_rfl) (by kernel_rfl) (by kernel_rfl) (fun _ _ _ h => h) (Or.inl ⟨by rfl, ?_⟩) hH ?_
                rotate_left
                · intro w hSw; (try dsimp only at hSw); go_simp; try with_reducible rfl
                try simp only [Act.put, List.setIfInBounds_toArray, List.set_cons_zero, List.set_cons_succ]
                refine wpAnyH_take (i := 1) (oi := ({ dst := some 57, op := Go.Op.load 23 (Go.Operand.tmp 56), type := 23, pos := "sight.go:86", after := #[{ on := 0, ground := Go.Ground.data }], guard := none } : Oper)) (v := ?_) rfl (by kernel_rfl) (by kernel_rfl) (by kernel_rfl) (fun _ _ _ h => h) (Or.inl ⟨by rfl, ?_⟩) hH ?_
                rotate_left
                · intro w hSw; (try dsimp only at hSw); go_simp; try with_reducible rfl
                try simp only [Act.put, List.setIfInBounds_toArray, List.set_cons_zero, List.set_cons_succ]
                refine wpAnyH_take (i := 2) (oi := ({ dst := some 58, op := Go.Op.move (Go.Operand.tmp 8), type := 3, pos := "sight.go:86", after := #[], guard := none } : Oper)) (v := ?_) rfl (by kernel_rfl) (by kernel_rfl) (by kernel_rfl) (fun _ _ _ h => h) (Or.inl ⟨by rfl, ?_⟩) hH ?_
                rotate_left
                · intro w hSw; (try dsimp only at hSw); go_simp; try with_reducible rfl
                try simp only [Act.put, List.setIfInBounds_toArray, List.set_cons_zero, List.set_cons_succ]
                refine wpAnyH_take (i := 3) (oi := ({ dst := some 59, op := Go.Op.load 52 (Go.Operand.tmp 9), type := 52, pos := "sight.go:86", after := #[], guard := none } : Oper)) (v := ?_) rfl (by kernel_rfl) (by kernel_rfl) (by kernel_rfl) (fun _ _ _ h => h) (Or.inl ⟨by rfl, ?_⟩) hH ?_
                rotate_left
                · intro w hSw; (try dsimp only at hSw); go_simp; try with_reducible rfl
                try simp only [Act.put, List.setIfInBounds_toArray, List.set_cons_zero, List.set_cons_succ]
                refine wpAnyH_take (i := 4) (oi := ({ dst := some 60, op := Go.Op.move (Go.Operand.tmp 2), type := 3, pos := "sight.go:86", after := #[], guard := none } : Oper)) (v := ?_) rfl (by kernel_rfl) (by kernel_rfl) (by kernel_rfl) (fun _ _ _ h => h) (Or.inl ⟨by rfl, ?_⟩) hH ?_
                rotate_left
                · intro w hSw; (try dsimp only at hSw); go_simp; try with_reducible rfl
                try simp only [Act.put, List.setIfInBounds_toArray, List.set_cons_zero, List.set_cons_succ]
                refine wpAnyH_ready (rs := [5]) (by kernel_rfl) (by simp) ?_
                refine AllReadyH.cons (o := ({ dst := some 61, op := Go.Op.call { callee := Go.Callee.value (Go.Operand.func 82), args := #[Go.Operand.tmp 59, Go.Operand.tmp 60], argTypes := #[52, 3] }, type := 52, pos := "sight.go:86", after := #[{ on := 3, ground := Go.Ground.data }, { on := 4, ground := Go.Ground.data }], guard := none } : Oper)) rfl (fun K hK => ?_) AllReadyH.nil
                go_simp
                go_at_call 82
                refine (HMV.out b HB12.out _).mono ?_
                rintro e9 w9 ⟨rfl, hb⟩
                have hb9 := Bl.tr (bl_drS Y) hb
                have HO9 := Lib.hid (And.intro (own_belowU HOY.out.1 hb9) (own_belowU HOY.out.2 hb9))
                obtain ⟨c0, c1, c2, c3, c4⟩ := cell5 HO9.out.2 hlt
                have zf0 := HO9.out.2.frozenAt (k * 5)
                have zf1 := HO9.out.2.frozenAt (k * 5 + 1)
                have zf2 := HO9.out.2.frozenAt (k * 5 + 2)
                have zf3 := HO9.out.2.frozenAt (k * 5 + 3)
                have zf4 := HO9.out.2.frozenAt (k * 5 + 4)
                have lg9 := ltb c0
                have lx9 := ltb (kcb hb9 HXY.out.1)
                have HX9 := Lib.hid (show w9.cell? ⟨w.heap.size, 0, none⟩ = some (.slice A1 n d1) ∧ w9.cell? ⟨w.heap.size, 1, none⟩ = some (.slice (some ⟨g, 0, none⟩) m d2) ∧ w9.cell? ⟨w.heap.size + 1, 0, none⟩ = some (.slice none 0 0) ∧ w9.cell? ⟨w.heap.size + 1, 1, none⟩ = some (.slice none 0 0) ∧ w9.frozen? ⟨w.heap.size + 1, 0, none⟩ = false ∧ w9.frozen? ⟨w.heap.size + 1, 1, none⟩ = false from ⟨kcb hb9 HXY.out.1, kcb hb9 HXY.out.2.1, kcb hb9 HXY.out.2.2.1, kcb hb9 HXY.out.2.2.2.1, fzb hb9 HXY.out.2.2.2.2.1 (ltb HXY.out.2.2.1), fzb hb9 HXY.out.2.2.2.2.2 (ltb HXY.out.2.2.1)⟩)
                have HB9 := Lib.hid (HBY.out.tr hb9)
                clear hb9
                refine hK.out _ _ ⟨hH.1.tr hb, kcb hb hH.2.1, kcb hb hH.2.2.1, kcb hb hH.2.2.2.1, kcb hb hH.2.2.2.2.1, kcb hb hH.2.2.2.2.2.1, kcb hb hH.2.2.2.2.2.2.1, kcb hb hH.2.2.2.2.2.2.2⟩ (fun hH' => ?_)
                clear hH
                have hH := hH'
                clear hH' hK K
                try simp only [Act.put, List.setIfInBounds_toArray, List.set_cons_zero, List.set_cons_succ]
                refine wpAnyH_take (i := 6) (oi := ({ dst := some 62, op := Go.Op.indexAddr 23 (Go.Operand.tmp 57) (Go.Operand.tmp 58), type := 0, pos := "sight.go:86", after := #[{ on := 1, ground := Go.Ground.data }, { on := 2, ground := Go.Ground.data }, { on := 0, ground := Go.Ground.phase }, { on := 1, ground := Go.Ground.phase }, { on := 2, ground := Go.Ground.phase }, { on := 3, ground := Go.Ground.phase }, { on := 4, ground := Go.Ground.phase }, { on := 5, ground := Go.Ground.phase }], guard := none } : Oper)) (v := ?_) rfl (by kernel_rfl) (by kernel_rfl) (by kernel_rfl) (fun _ _ _ h => h) (Or.inl ⟨by rfl, ?_⟩) hH ?_
                rotate_left
                · intro w hSw; (try dsimp only at hSw); go_simp; try with_reducible rfl
                try simp only [Act.put, List.setIfInBounds_toArray, List.set_cons_zero, List.set_cons_succ]
                refine wpAnyH_ready (rs := [7]) (by kernel_rfl) (by simp) ?_
                refine AllReadyH.cons (o := ({ dst := none, op := Go.Op.store 52 (Go.Operand.tmp 62) (Go.Operand.tmp 61), type := 0, pos := "sight.go:86", after := #[{ on := 6, ground := Go.Ground.data }, { on := 5, ground := Go.Ground.data }, { on := 5, ground := Go.Ground.chain }, { on := 0, ground := Go.Ground.phase }, { on := 1, ground := Go.Ground.phase }, { on := 2, ground := Go.Ground.phase }, { on := 3, ground := Go.Ground.phase }, { on := 4, ground := Go.Ground.phase }, { on := 5, ground := Go.Ground.phase }], guard := none } : Oper)) rfl (fun K hK => ?_) AllReadyH.nil
                go_simp
                refine hK.out _ _ (show Bl w (set5 w9 g (k * 5) (movS x b)) ∧ _ from ⟨set5_bl hH.1 hgw, set5_cell hH.2.1 (Ne.symm hgx), set5_cell hH.2.2.1 (Ne.symm hgx), set5_cell hH.2.2.2.1 hyg, set5_cell hH.2.2.2.2.1 hyg, set5_cell hH.2.2.2.2.2.1 hyg, set5_cell hH.2.2.2.2.2.2.1 hyg, set5_cell hH.2.2.2.2.2.2.2 hyg⟩) (fun hH' => ?_)
                clear hH
                have hH := hH'
                clear hH' hK K
                try simp only [Act.put, List.setIfInBounds_toArray, List.set_cons_zero, List.set_cons_succ]
                refine wpAnyH_done (by kernel_rfl) ?_ _
                refine NoPanic.normal ?_
                go_wp2_with fail
                go_roundw
                case rel => exact ⟨k + 1, by omega, by go_num, ⟨set5_own HO9.out.1 HO9.out.2 (by decide), by have h := own_set5 (T := shTo S a b (k + 1)) HO9.out.2 hlt HXK.out; rw [HSH.out] at h; exact h⟩, set5_bl HB9.out hgw, set5_cell HX9.out.1 (Ne.symm hgx), set5_cell HX9.out.2.1 (Ne.symm hgx), set5_cell HX9.out.2.2.1 (Ne.symm hgr), set5_cell HX9.out.2.2.2.1 (Ne.symm hgr), set5_fz HX9.out.2.2.2.2.1, set5_fz HX9.out.2.2.2.2.2⟩
                case measure => simp [RowKit.intOf]; omega
              · have q2' : (x.ca == a) = false := by simp [q2]
                have HSH := Lib.hid (show sgC (shTo S a b (k + 1)) m = sgC (shTo S a b k) m from sgC_congr fun j hj => by
                  by_cases e : j = k
                  · subst e; rw [HX1.out, HX0.out, shfS, if_neg q1, if_neg q2]
                  · exact HXK.out j hj e)
                clear q1 q2
                go_wp2_with fail
                rw [← hY]
                go_roundw
                case rel => exact ⟨k + 1, by omega, by go_num, ⟨HOY.out.1, by rw [HSH.out]; exact HOY.out.2⟩, HBY.out, HXY.out⟩
                case measure => simp [RowKit.intOf]; omega
          · obtain rfl : k = m := by omega
            have HE := Lib.hid (show sgC (shTo S a b k) k = sgC (fun j => shfS a b (S j)) k from sgC_congr fun j hj => by simp [shTo, hj])
            obtain ⟨A2, d3, e2, hd1, hd2, hs1⟩ := sl_of_ownU HO.out.1
            have HO3 := Lib.hid (show wr.ownsRow w3.heap.size 52 5 (.slice B1 k d2) k (sgC (fun j => shfS a b (S j)) k) by rw [← HE.out]; exact HO.out.2)
            obtain ⟨B2, d4, e3, hd3, hd4, hs2⟩ := sgl_of_own HO3.out
            cases e2
            cases e3
            have HS1 := Lib.hid hs1
            have HS2 := Lib.hid hs2
            have HVX := Lib.hid (validN_any A1 n d1 R B1 k d2 (fun j => shfS a b (S j)) wr hs1 hs2 (by unfold maxLen; have := HVN.out.n8; omega) (by unfold maxLen; have := HVN.out.m30; omega))
            clear hs1 hs2 hd1 hd2 hd3 hd4
            cases hv2 : vnB R n (fun j => shfS a b (S j)) k with
            | false =>
              rw [hv2] at HVX
              have HF := Lib.hid (show shiftF R n S k a b = noN 4 by rw [HSF.out, if_pos hv2])
              clear hv2
              go_wp2_with fail
              refine HVX.out.mono ?_
              rintro e w9 ⟨rfl, hb⟩
              have r0 := kcb hb r0
              have r1 := kcb hb r1
              have lx9 := ltb (kcb hb x0)
              have lr9 := ltb r0
              have f0 := fzb hb f0 lr
              have f1 := fzb hb f1 lr
              have HB9 := Lib.hid (HZ.out.tr hb)
              clear hb
              go_wp2_with fail
              exact bodyPost_ret (net_res49 _ _ _ _ _ _ rfl rfl (put_0U r0 _ _) (put_1U r0 r1 _ _)) rfl (by rw [HF.out]; exact netPost_no (bl_set (bl_set HB9.out (by omega)) (by omega)))
            | true =>
              rw [hv2] at HVX
              have HF := Lib.hid (show shiftF R n S k a b = ⟨n, R, k, fun j => shfS a b (S j), 0⟩ by rw [HSF.out, if_neg (by rw [hv2]; decide)])
              clear hv2
              go_wp2_with fail
              refine HVX.out.mono ?_
              rintro e w9 ⟨rfl, hb⟩
              have x0 := kcb hb x0
              have x1 := kcb hb x1
              have r0 := kcb hb r0
              have r1 := kcb hb r1
              have lx9 := ltb x0
              have lr9 := ltb r0
              have f0 := fzb hb f0 lr
              have f1 := fzb hb f1 lr
              have HB9 := Lib.hid (HZ.out.tr hb)
              have HO9 := Lib.hid (own_belowU HO.out.1 hb)
              have HP9 := Lib.hid (own_belowU HO3.out hb)
              have hxw := HXW.out
              clear hb
              go_wp2_with fail
              refine bodyPost_ret (net_res49 _ _ _ _ _ _ rfl rfl (put_0U r0 _ _) (put_1U r0 r1 _ _)) rfl ?_
              rw [HF.out]
              obtain ⟨A8, d8, e8, _, _, hs8⟩ := sl_of_ownU (own_setS (own_setS HO9.out (show w.heap.size + 1 < w3.heap.size by omega) (o := 0) (u := .slice A1 n d1)) (show w.heap.size + 1 < w3.heap.size by omega) (o := 1) (u := .slice B1 k d2))
              obtain ⟨B8, f8, e9, _, _, hs9⟩ := sgl_of_own (own_setS (own_setS HP9.out (show w.heap.size + 1 < w3.heap.size by omega) (o := 0) (u := .slice A1 n d1)) (show w.heap.size + 1 < w3.heap.size by omega) (o := 1) (u := .slice B1 k d2))
              cases e8
              cases e9
              exact ⟨A1, d1, B1, d2, rfl, by unfold maxLen; dsimp only; have := HVN.out.n8; omega, by unfold maxLen; dsimp only; have := HVN.out.m30; omega, hs8, hs9, bl_set (bl_set HB9.out (by omega)) (by omega)⟩
end Go.Proofs.Ytennmdlajealpaa
