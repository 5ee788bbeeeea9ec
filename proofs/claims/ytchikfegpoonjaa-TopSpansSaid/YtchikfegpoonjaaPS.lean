/-
  Package sight: the chart of a valid net may be settled; what conflict and difference then say.
-/
import Derived.Test.YtchikfegpoonjaaPL
import Derived.Test.YtchikfegpoonjaaPR
namespace Go.Proofs.Ytchikfegpoonjaa
open Go.RowKit Go.Maps
set_option linter.unusedSimpArgs false
set_option linter.unusedVariables false

theorem spo_fst (c t : Int) : (spo c t).1 = c := by
  unfold spo
  split
  · rename_i h; exact h.symm
  · rfl
theorem tkn_ne {S : Nat → Sgt} {k : Nat} (h : (S (k / 2)).ca ≠ (S (k / 2)).cb) : (tkn S k).1 ≠ (tkn S k).2.1 := fun e => by
  have e' := congrArg Prod.fst e
  unfold tkn at e'
  split at e' <;> simp only [spo_fst] at e' <;> omega
theorem stp_ne {R : Nat → Int} {S : Nat → Sgt} {ns : Nat} {q : List Spt} (hS : ∀ k, k < ns → (S k).ca ≠ (S k).cb) {i : Nat} (hi : i < (stpC R S ns q).length) : (gtE (stpC R S ns q) i).fr ≠ (gtE (stpC R S ns q) i).to := by
  have hm := gtE_mem hi
  rcases List.mem_append.1 hm with h | h
  · obtain ⟨j, hj, e⟩ := mem_gtE h
    rw [(mkS_len S (2 * ns)).2] at hj
    obtain ⟨_, _, h3, h4, _⟩ := mkS_edge S hj
    rw [e] at h3 h4
    intro q'
    rw [q', h4] at h3
    exact tkn_ne (hS (j / 2) (by omega)) h3.symm
  · obtain ⟨a, b, _, _, _, hne, e⟩ := crO_mem.1 h
    rw [e]; exact hne
theorem stp_ok {R : Nat → Int} {n m : Nat} {S : Nat → Sgt} {q : List Spt} (h : VN R n S m) (hS : ∀ k, k < m → (S k).ca ≠ (S k).cb) (hq : ∀ p, p ∈ q → PtB n p) (hl : q.length ≤ 8) :
    Chart R S m (gtP (ptsC S m q)) (ptsC S m q).length (gtE (stpC R S m q)) (stpC R S m q).length ∧ StpOk (gtE (stpC R S m q)) (stpC R S m q).length (ptsC S m q).length 1000000000 ∧ (ptsC S m q).length ≤ 128 := by
  have hR : ∀ p : Spt, PtB n p → 0 ≤ R p.1.toNat ∧ R p.1.toNat ≤ 1000000 := fun p hp => h.ra _ (by have := hp.1; omega)
  have C := chart_ok (R := R) (S := S) (ns := m) (q := q) (fun k hk => ⟨(hR _ (tkn_ok h hk).1).1, (hR _ (tkn_ok h hk).2.1).1⟩) (fun p hp => (hR _ (hq p hp)).1)
  have hp : ∀ p, p ∈ ptsC S m q → PtB n p := fun p hp => by
    rcases aqS_mem hp with h1 | h1
    · obtain ⟨j, hj, e | e⟩ := mkS_mem h1
      · rw [e]; exact (tkn_ok h hj).1
      · rw [e]; exact (tkn_ok h hj).2.1
    · exact hq p h1
  have hlen : (ptsC S m q).length ≤ 128 := by
    obtain ⟨r, e, hr⟩ := aqS_app (mkS S (2 * m)).1 q
    have h1 := (mkS_len S (2 * m)).1
    have h2 := h.m30
    show (aqS (mkS S (2 * m)).1 q).length ≤ 128
    rw [e, List.length_append]; omega
  have hst : (stpC R S m q).length ≤ 16444 := by
    have h1 := (mkS_len S (2 * m)).2
    have h2 := crO_len R (gtP (ptsC S m q)) (ptsC S m q).length (ptsC S m q).length
    have h3 := h.m30
    have h4 : (ptsC S m q).length * (ptsC S m q).length ≤ 128 * 128 := Nat.mul_le_mul hlen hlen
    show ((mkS S (2 * m)).2 ++ crO _ _ _ _).length ≤ _
    rw [List.length_append]; omega
  refine ⟨C, ⟨fun i hi => ⟨(C.ends i hi).1, (C.ends i hi).2, stp_ne hS hi⟩, fun i hi => ?_, by omega, ?_, by omega, by omega⟩, hlen⟩
  · obtain ⟨h1, h2, h3⟩ := C.edge i hi
    rcases h3 with ⟨k, hk, _, _, e, _⟩ | ⟨_, e, _⟩
    · have := (tkn_ok h hk).2.2
      rw [e]; omega
    · have a := hp _ (gtP_mem h1)
      have b := hp _ (gtP_mem h2)
      have := crr_bd (hR _ a) (dt := max (gtP (ptsC S m q) (gtE (stpC R S m q) i).fr).2 (gtP (ptsC S m q) (gtE (stpC R S m q) i).to).2 - min (gtP (ptsC S m q) (gtE (stpC R S m q) i).fr).2 (gtP (ptsC S m q) (gtE (stpC R S m q) i).to).2) (by have := a.2; have := b.2; omega)
      rw [e]
      unfold crb
      omega
  · have h1 : ((ptsC S m q).length : Int) * (((stpC R S m q).length : Int) * 1000000000) ≤ 128 * (((stpC R S m q).length : Int) * 1000000000) := Int.mul_le_mul_of_nonneg_right (by omega) (by omega)
    omega
/-- A chart contradicts itself exactly if the net does. -/
theorem zr_iff {R : Nat → Int} {S : Nat → Sgt} {ns : Nat} {l : List Spt} {s : List Edg} {K : Int} (C : Chart R S ns (gtP l) l.length (gtE s) s.length) (hK : StpOk (gtE s) s.length l.length K) : (zrS s l.length).2 = -1 ↔ NoC R S ns := by
  have hk := hK.kb
  have h0 : 0 ≤ (s.length : Int) * K := Int.mul_nonneg (by omega) hK.k0
  by_cases hn : 1 ≤ l.length
  · rw [← C.noC]
    by_cases hs : 1 ≤ s.length
    · have hKs : K ≤ (s.length : Int) * K := by
        have : 1 * K ≤ (s.length : Int) * K := Int.mul_le_mul_of_nonneg_right (by omega) hK.k0
        omega
      constructor
      · intro h
        exact rest_noNeg hK.cost hK.k0 (by show _ < (9223372036854775807 : Int); omega) hn h
      · intro h
        refine set_rest (fun i hi => ⟨(hK.ends i hi).1, (hK.ends i hi).2.1⟩) hK.cost hK.k0 (fun v => .inr rfl) ?_ hn h (-1)
        have : (l.length : Int) * K ≤ l.length * (s.length * K) := Int.mul_le_mul_of_nonneg_left hKs (by omega)
        show _ < (9223372036854775807 : Int)
        omega
    · obtain e : s.length = 0 := by omega
      constructor
      · intro _ u k w hw
        cases hw with
        | nil => omega
        | snoc _ i hi _ => omega
      · intro _
        have hp : ∀ st : Stt, (pasS (gtE s) st 0).2 = -1 := fun st => rfl
        obtain ⟨k, hk⟩ : ∃ k, l.length = k + 1 := ⟨l.length - 1, by omega⟩
        rw [zrS, e, hk, setS, if_pos (hp _)]
        exact hp _
  · obtain e : l.length = 0 := by omega
    constructor
    · intro _
      refine C.noC.1 fun u k w hw => ?_
      cases hw with
      | nil => omega
      | snoc _ i hi _ => have := (C.ends i hi).1; omega
    · intro _; rw [zrS, e]; rfl
/-- A cost is unreached, or the least of the ways. -/
theorem fr_way {R : Nat → Int} {S : Nat → Sgt} {ns : Nat} {l : List Spt} {s : List Edg} {K : Int} (C : Chart R S ns (gtP l) l.length (gtE s) s.length) (hK : StpOk (gtE s) s.length l.length K) (hC : NoC R S ns) {u v : Nat} (hu : u < l.length) (hv : v < l.length) :
    ((frS s l.length u).1.c v = unR ∧ ∀ w, ¬ Way R S ns (gtP l u) (gtP l v) w) ∨ ((frS s l.length u).1.c v ≠ unR ∧ LstW R S ns (gtP l u) (gtP l v) ((frS s l.length u).1.c v)) := by
  obtain ⟨K', hc', hk', hb1, hb2⟩ : ∃ K' : Int, (∀ i, i < s.length → -K' ≤ (gtE s i).co ∧ (gtE s i).co ≤ K') ∧ 0 ≤ K' ∧ (l.length : Int) * (s.length * K') + K' < unR ∧ (l.length : Int) * K' < unR := by
    by_cases h1 : 1 ≤ s.length
    · have hk := hK.kb
      have h0 : 0 ≤ (s.length : Int) * K := Int.mul_nonneg (by omega) hK.k0
      have hKs : K ≤ (s.length : Int) * K := by
        have : 1 * K ≤ (s.length : Int) * K := Int.mul_le_mul_of_nonneg_right (by omega) hK.k0
        omega
      have hle : (l.length : Int) * K ≤ l.length * (s.length * K) := Int.mul_le_mul_of_nonneg_left hKs (by omega)
      exact ⟨K, hK.cost, hK.k0, by show _ < (9223372036854775807 : Int); omega, by show _ < (9223372036854775807 : Int); omega⟩
    · exact ⟨0, fun i hi => by omega, by omega, by simp [unR], by simp [unR]⟩
  rcases rest_least (b0 := fun _ => -1) (f := -1) (u := u) (fun i hi => ⟨(hK.ends i hi).1, (hK.ends i hi).2.1⟩) hc' hk' (by omega) (C.noC.2 hC) hb1 hb2 v with ⟨a, b⟩ | ⟨a, b⟩
  · exact .inl ⟨a, C.none hu hv b⟩
  · exact .inr ⟨a, C.least hu hv b⟩
end Go.Proofs.Ytchikfegpoonjaa
