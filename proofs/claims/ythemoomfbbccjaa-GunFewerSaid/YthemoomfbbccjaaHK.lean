/-
  A further shot, pure: fewer places; mirrored shots.
-/
import Derived.Test.YthemoomfbbccjaaHJ
import Derived.Test.YthemoomfbbccjaaGX
import Derived.Test.YthemoomfbbccjaaGY
namespace Go.Proofs.Ythemoomfbbccjaa
open Go.RowKit
set_option linter.unusedSimpArgs false
set_option linter.unusedVariables false

def snocS (S : Nat → Sho) (n : Nat) (s : Sho) (j : Nat) : Sho := if j < n then S j else s
theorem shC_snoc (S : Nat → Sho) (n : Nat) (s : Sho) : shC (snocS S n s) (n + 1) = shC S n ++ cellsH s := by
  rw [shC, shC_congr (g := S) (fun j hj => by simp [snocS, hj])]
  simp [snocS]
theorem fewer_sub {a : Air} {S : Nat → Sho} {n : Nat} {s : Sho} {lo hi : Pt} {st : Int} (h : whE a S n lo hi st = 0) (h' : whE a (snocS S n s) (n + 1) lo hi st = 0) :
    (whL a (snocS S n s) (n + 1) lo hi st).Sublist (whL a S n lo hi st) := by
  unfold whL
  rw [if_pos h, if_pos h', gridL_filter, gridL_filter (whP a S n)]
  have e : ∀ l : List Pt, l.filter (whP a (snocS S n s) (n + 1)) = (l.filter (whP a S n)).filter (whP a (snocS S n s) (n + 1)) := fun l => by
    rw [List.filter_filter]
    refine List.filter_congr fun x _ => ?_
    cases hx : whP a (snocS S n s) (n + 1) x with
    | false => rfl
    | true =>
      have h1 : suitN a (snocS S n s) (n + 1) x := of_decide_eq_true hx
      have h2 : suitN a S n x := fun j hj => by have := h1 j (by omega); unfold snocS at this; rwa [if_pos hj] at this
      have h3 : whP a S n x = true := decide_eq_true h2
      rw [h3]; rfl
  rw [e]
  exact List.filter_sublist
theorem sub_lt {x : Pt} {r l : List Pt} {k : Nat} (h : (x :: r).Sublist (l.drop k)) : k < l.length := by
  have := h.length_le
  simp only [List.length_cons, List.length_drop] at this
  omega
theorem sub_next {x : Pt} {r l : List Pt} {k : Nat} (h : (x :: r).Sublist (l.drop k)) (hne : l.getD k ⟨0, 0⟩ ≠ x) : (x :: r).Sublist (l.drop (k + 1)) := by
  have hk := sub_lt h
  rw [List.drop_eq_getElem_cons hk] at h
  rcases List.sublist_cons_iff.1 h with h | ⟨r', e, _⟩
  · exact h
  · have e1 : x = l[k] := by injection e
    exact absurd (by rw [List.getD_eq_getElem?_getD, List.getElem?_eq_getElem hk, e1]; rfl) hne
theorem sub_head {l m : List Pt} {k j : Nat} (hk : k < l.length) (h : (l.drop k).Sublist (m.drop j)) : (l.getD k ⟨0, 0⟩ :: l.drop (k + 1)).Sublist (m.drop j) := by
  rw [List.drop_eq_getElem_cons hk] at h
  rw [List.getD_eq_getElem?_getD, List.getElem?_eq_getElem hk]
  exact h
theorem sub_tail {x : Pt} {r l : List Pt} (h : (x :: r).Sublist l) : r.Sublist l := (List.sublist_cons_self x r).trans h
theorem mir_isP {p : Pt} (h : isP p) : isP ⟨-p.x, p.y⟩ := by
  obtain ⟨⟨h1, h2⟩, h3, h4⟩ := h
  exact ⟨(show -50000 ≤ -p.x ∧ -p.x ≤ 50000 from ⟨by omega, by omega⟩), (show -50000 ≤ p.y ∧ p.y ≤ 50000 from ⟨by omega, by omega⟩)⟩
theorem mir_sh {s : Sho} (h : vSh s) : vSh (mir s) := by
  obtain ⟨h1, h2⟩ := h
  exact ⟨mir_isP h1, h2⟩
theorem mir_V {S : Nat → Sho} {n : Nat} (h : VSh S n) : VSh (fun j => mir (S j)) n := ⟨h.1, h.2.1, fun j hj => mir_sh (h.2.2 j hj)⟩
theorem mir_sqd (p q : Pt) : sqd ⟨-p.x, p.y⟩ ⟨-q.x, q.y⟩ = sqd p q := by unfold sqd; grind
theorem mir_suit (a : Air) (S : Nat → Sho) (n : Nat) (p : Pt) : suitN a (fun j => mir (S j)) n ⟨-p.x, p.y⟩ ↔ suitN a S n p := by
  have e : ∀ s : Sho, suit1 a (mir s) ⟨-p.x, p.y⟩ ↔ suit1 a s p := fun s => by
    unfold suit1 lagP mir
    rw [mir_sqd]
  exact ⟨fun h j hj => (e _).1 (h j hj), fun h j hj => (e _).2 (h j hj)⟩
/-- A place suits the shots, and its mirror image the mirrored ones, alike. -/
theorem mir_same {a : Air} {S : Nat → Sho} {n : Nat} {lo hi : Pt} {st : Int} (h : whE a S n lo hi st = 0) : ∃ x : Bool, rB (suitsR a S n lo) = .tuple #[.bool x, .int .i64 0] ∧ rB (suitsR a (fun j => mir (S j)) n ⟨-lo.x, lo.y⟩) = .tuple #[.bool x, .int .i64 0] := by
  obtain ⟨ha, hv, hb, _⟩ := whE_ok h
  have hp : isP lo := hb.1
  refine ⟨decide (suitN a S n lo), ?_, ?_⟩
  · unfold suitsR; rw [if_pos ⟨ha, hv⟩, if_pos hp]; rfl
  · unfold suitsR
    rw [if_pos ⟨ha, mir_V hv⟩, if_pos (mir_isP hp)]
    show Value.tuple #[.bool (decide (suitN a (fun j => mir (S j)) n ⟨-lo.x, lo.y⟩)), .int .i64 0] = _
    rw [decide_eq_decide.2 (mir_suit a S n lo)]
theorem own_shape_g {w : World} {base : Nat} {e : TypeId} {size : Nat} {v : Value} {n : Nat} {xs : List Value} (h : w.ownsRow base e size v n xs) : ∃ A c, v = .slice A n c := by
  rcases h.2 with ⟨hv, h0⟩ | ⟨g, cap, cur, hv, _⟩
  · exact ⟨none, 0, by rw [hv, h0]⟩
  · exact ⟨_, _, hv⟩
theorem step_owng {P : Program} {w : World} {ops : Array Oper} {o : Oper} {a : Act} {K : Act → World → Prop} {Q : Exit → Act → World → Prop} {E : Prop} (hgd : o.guard = none) (s x : Operand) (t : TypeId)
    (ho : o.op = .call { callee := .builtin .append, args := #[s, x], argTypes := #[t, t] })
    (base : Nat) (e : TypeId) (i : TypeInfo) (z : Value) (size bytes : Nat) (ht : P.underlying t = some (.slice e)) (hi : P.info? e = some i) (hz : i.zero = some z)
    (hsize : i.size = size) (hby : i.bytes = bytes) (hzs : z.cells.size = size) (hsz : 0 < size)
    (v : Value) (n : Nat) (xs : List Value) (hs : a.eval s = v) (hown : w.ownsRow base e size v n xs)
    (ad : Addr) (m c : Nat) (news : List Value) (hx : a.eval x = .slice (some ad) m c) (hl : news.length = m * size) (hnews : ∀ j u, news[j]? = some u → w.cell? (ad.add j) = some u) (h1 : ∀ u ∈ news, u.oneCell' = true)
    (h63 : n + m ≤ maxLen) (hbytes : (n + m) * bytes ≤ 140737488355328) (hbase : base ≤ w.heap.size)
    (h : ∀ v' w', w'.ownsRow base e size v' (n + m) (xs ++ news) → w.grownBy w' v.ownBlock → (v' = .slice none 0 0 ↔ v = .slice none 0 0 ∧ m = 0) → K (a.put o.dst v') w') :
    if Region.wanted o (yielded ops a.tmps) = true then Oper.wp P o a w K Q else E := by
  have hw : Region.wanted o (yielded ops a.tmps) = true := by simp [Region.wanted, hgd]
  rw [if_pos hw]
  exact wp_append_own w s x t ho base e i z size bytes ht hi hz hsize hby hzs hsz v n xs hs hown ad m c news hx hl hnews h1 h63 hbytes hbase h
/-- What the region of the two appends leaves. -/
def CR (w2 : World) (S : Nat → Sho) (n : Nat) (s : Sho) (v : Value) (W : World) : Prop :=
  ∃ g cap, v = .slice (some ⟨g, 0, none⟩) (n + 1) cap ∧ Bl w2 W ∧ n + 1 ≤ cap ∧ cap ≤ maxLen ∧ Shl W (some ⟨g, 0, none⟩) (n + 1) (snocS S n s)
theorem CR.of {w2 W : World} {S : Nat → Sho} {n base g cap : Nat} {s : Sho} {e : TypeId} (hb : Bl w2 W) (h : W.ownsRow base e 4 (.slice (some ⟨g, 0, none⟩) (0 + n + 1) cap) (0 + n + 1) ([] ++ shC S n ++ cellsH s)) : CR w2 S n s (.slice (some ⟨g, 0, none⟩) (n + 1) cap) W := by
  rw [List.nil_append, ← shC_snoc, Nat.zero_add] at h
  obtain ⟨A, c, e1, h1, h2, h3⟩ := shl_of_own h
  injection e1 with e11 _ e12
  subst e11 e12
  exact ⟨g, cap, rfl, hb, h1, h2, h3⟩
end Go.Proofs.Ythemoomfbbccjaa
