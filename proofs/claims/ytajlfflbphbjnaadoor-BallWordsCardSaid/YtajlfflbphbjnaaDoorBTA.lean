/-
  The walk of a law of package ball: a flag unsays a fault.
-/
import Derived.Test.YtajlfflbphbjnaaDoorBQ
import Derived.Deep.RegionLaw
namespace Go.Proofs.YtajlfflbphbjnaaDoor
open Go.RowKit Go.Shelf
set_option linter.unusedSimpArgs false
set_option linter.unusedVariables false

theorem step_own {P : Program} {w : World} {ops : Array Oper} {o : Oper} {a : Act} {K : Act → World → Prop} {Q : Exit → Act → World → Prop} {E : Prop} (hgd : o.guard = none) (s x : Operand) (t : TypeId)
    (ho : o.op = .call { callee := .builtin .append, args := #[s, x], argTypes := #[t, t] })
    (base : Nat) (e : TypeId) (i : TypeInfo) (z : Value) (size bytes : Nat) (ht : P.underlying t = some (.slice e)) (hi : P.info? e = some i) (hz : i.zero = some z)
    (hsize : i.size = size) (hby : i.bytes = bytes) (hzs : z.cells.size = size) (hsz : 0 < size)
    (v : Value) (n : Nat) (xs : List Value) (hs : a.eval s = v) (hown : w.ownsRow base e size v n xs)
    (ad : Addr) (m c : Nat) (news : List Value) (hx : a.eval x = .slice (some ad) m c) (hl : news.length = m * size) (hnews : ∀ j u, news[j]? = some u → w.cell? (ad.add j) = some u) (h1 : ∀ u ∈ news, u.oneCell' = true)
    (h63 : n + m ≤ maxLen) (hbytes : (n + m) * bytes ≤ 140737488355328) (hbase : base ≤ w.heap.size)
    (h : ∀ v' w', w'.ownsRow base e size v' (n + m) (xs ++ news) → w.grownBy w' v.ownBlock → (v' = .slice none 0 0 ↔ v = .slice none 0 0 ∧ m = 0) → K (a.put o.dst v') w') :
    if Region.wanted o (yielded ops a.tmps) = true then Oper.wp P o a w K Q else E := by
  have hw : Region.wanted o (yielded ops a.tmps) = true := by simp [Region.wanted, hgd]
  rw [if_pos hw]
  exact wp_append_own w s x t ho base e i z size bytes ht hi hz hsize hby hzs hsz v n xs hs hown ad m c news hx hl hnews h1 h63 hbytes hbase h
theorem step_own_nil {P : Program} {w : World} {ops : Array Oper} {o : Oper} {a : Act} {K : Act → World → Prop} {Q : Exit → Act → World → Prop} {E : Prop} (hgd : o.guard = none) (s x : Operand) (t : TypeId)
    (ho : o.op = .call { callee := .builtin .append, args := #[s, x], argTypes := #[t, t] })
    (base : Nat) (e : TypeId) (i : TypeInfo) (size : Nat) (ht : P.underlying t = some (.slice e)) (hi : P.info? e = some i)
    (v : Value) (n : Nat) (xs : List Value) (hs : a.eval s = v) (hown : w.ownsRow base e size v n xs) (hx : a.eval x = .slice none 0 0)
    (h : K (a.put o.dst v) w) : if Region.wanted o (yielded ops a.tmps) = true then Oper.wp P o a w K Q else E := by
  have hw : Region.wanted o (yielded ops a.tmps) = true := by simp [Region.wanted, hgd]
  rw [if_pos hw]
  have hr := run_append_owned_none (P := P) (w := w) base t o.type e i size ht hi v n xs hown
  unfold Oper.wp execOp
  simp only [ho, resolve, invoke, builtin, Sem.run_bind, Sem.run_pure, Result.andThen_ok, List.map_toArray, List.map_cons, List.map_nil, hs, hx, hr]
  exact h
theorem el_news {w : World} {ad : Addr} {n : Nat} {E : Nat → Evt} (h : El w (some ad) n E) : ∀ j u, (evC E n)[j]? = some u → w.cell? (ad.add j) = some u := fun j u hu => by
  have hj : j < n * 3 := by have := (List.getElem?_eq_some_iff.1 hu).1; rwa [evC_len] at this
  obtain ⟨b', off', e, _, hc⟩ := h (by omega)
  obtain rfl : ad = ⟨b', off', none⟩ := Option.some.inj e
  obtain ⟨c0, c1, c2⟩ := hc (j / 3) (by omega)
  have hd : (evC E n)[j / 3 * 3 + j % 3]? = (cellsE (E (j / 3)))[j % 3]? := evC_at E (by omega) (by omega)
  rw [show j / 3 * 3 + j % 3 = j by omega, hu] at hd
  rw [show (⟨b', off', none⟩ : Addr).add j = ⟨b', off' + j, none⟩ by unfold Addr.add; split <;> simp_all]
  rcases (show j % 3 = 0 ∨ j % 3 = 1 ∨ j % 3 = 2 by omega) with r | r | r
  · rw [r] at hd
    rw [show off' + j = off' + j / 3 * 3 by omega, c0]; exact hd.symm
  · rw [r] at hd
    rw [show off' + j = off' + j / 3 * 3 + 1 by omega, c1]; exact hd.symm
  · rw [r] at hd
    rw [show off' + j = off' + j / 3 * 3 + 2 by omega, c2]; exact hd.symm
theorem own_shape_b {w : World} {base : Nat} {e : TypeId} {size : Nat} {v : Value} {n : Nat} {xs : List Value} (h : w.ownsRow base e size v n xs) : ∃ A c, v = .slice A n c := by
  rcases h.2 with ⟨hv, h0⟩ | ⟨g, cap, cur, hv, _⟩
  · exact ⟨none, 0, by rw [hv, h0]⟩
  · exact ⟨_, _, hv⟩
theorem evC_one (E : Nat → Evt) (n : Nat) : ∀ u ∈ evC E n, u.oneCell' = true := by
  induction n with
  | zero => intro u hu; cases hu
  | succ n ih =>
    intro u hu
    rcases List.mem_append.1 hu with h | h
    · exact ih u h
    · simp only [cellsE, List.mem_cons, List.not_mem_nil, or_false] at h
      rcases h with rfl | rfl | rfl <;> rfl
theorem evC_snoc (E : Nat → Evt) (n : Nat) (e : Evt) : evC (snoc E n e) (n + 1) = evC E n ++ cellsE e := by
  rw [evC, snoc_at, evC_congr (E' := E) fun j hj => snoc_lt hj]
set_option maxHeartbeats 400000 in
theorem fault_any (v : Int) (w : World) : Calls Tryd.prog 7 #[.int .i64 v] w fun e w' => e = .returned (.bool (decide (fltF v))) ∧ w = w' := by
  go_enter Tryd.func7, Tryd.ntmps7
  go_wp2
  all_goals (go_ret; exact ⟨ret_bool (by rw [Bool.eq_iff_iff, decide_eq_true_eq (p := fltF v)]; first | (simp [fltF] at *; done) | (simp [fltF] at *; omega)), rfl⟩)
theorem verL_range (M : Mst) (E : Nat → Evt) (n : Nat) : 0 ≤ verL M E n ∧ verL M E n ≤ 5 := by
  unfold verL
  split
  · split <;> omega
  · split
    · omega
    · split
      · omega
      · split <;> omega