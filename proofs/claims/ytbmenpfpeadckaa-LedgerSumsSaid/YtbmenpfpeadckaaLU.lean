/-
  Contracts of the reference of package ledger: all (the days of entries).
-/
import Derived.Test.YtbmenpfpeadckaaLF
import Derived.Test.YtbmenpfpeadckaaLG
import Derived.Test.YtbmenpfpeadckaaLS
namespace Go.Proofs.Ytbmenpfpeadckaa
open Go.RowKit Go.Maps
set_option linter.unusedSimpArgs false
set_option linter.unusedVariables false

/-- The least day behind d, of the first k entries; -1: none. -/
def nxtF (L : Nat → En) (d : Int) : Nat → Int
  | 0 => -1
  | k + 1 => if d < (L k).day ∧ (nxtF L d k < 0 ∨ (L k).day < nxtF L d k) then (L k).day else nxtF L d k
theorem nxt_spec {L : Nat → En} {d : Int} {n : Nat} (h : ∀ k, k < n → 0 ≤ (L k).day) (hd : -1 ≤ d) :
    (nxtF L d n = -1 ∧ ∀ j, j < n → (L j).day ≤ d) ∨ (d < nxtF L d n ∧ (∃ j, j < n ∧ (L j).day = nxtF L d n) ∧ ∀ j, j < n → d < (L j).day → nxtF L d n ≤ (L j).day) := by
  induction n with
  | zero => exact .inl ⟨rfl, fun j hj => by omega⟩
  | succ n ih =>
    have ih := ih fun k hk => h k (by omega)
    have h0 := h n (by omega)
    rw [nxtF]
    by_cases q : d < (L n).day ∧ (nxtF L d n < 0 ∨ (L n).day < nxtF L d n)
    · rw [if_pos q]
      right
      refine ⟨q.1, ⟨n, by omega, rfl⟩, fun j hj hdj => ?_⟩
      by_cases e : j = n
      · subst e; exact Int.le_refl _
      · rcases ih with ⟨i1, i2⟩ | ⟨i1, i2, i3⟩
        · have := i2 j (by omega); omega
        · have := i3 j (by omega) hdj; omega
    · rw [if_neg q]
      rcases ih with ⟨i1, i2⟩ | ⟨i1, ⟨j, hj, e⟩, i3⟩
      · left
        refine ⟨i1, fun j hj => ?_⟩
        by_cases e : j = n
        · subst e; rw [i1] at q; omega
        · exact i2 j (by omega)
      · right
        refine ⟨i1, ⟨j, by omega, e⟩, fun k hk hdk => ?_⟩
        by_cases e : k = n
        · subst e; omega
        · exact i3 k (by omega) hdk
/-- The days up to d that were met. -/
def UpTo (L : Nat → En) (n : Nat) (d : Int) (ds : List Int) : Prop := ds.Pairwise (· < ·) ∧ (∀ x, x ∈ ds ↔ x ≤ d ∧ ∃ j, j < n ∧ (L j).day = x) ∧ (ds.length : Int) ≤ d + 1
theorem upTo_start (L : Nat → En) (n : Nat) (h : ∀ k, k < n → 0 ≤ (L k).day) : UpTo L n (-1) [] := ⟨List.Pairwise.nil, fun x => by
  constructor
  · intro h; cases h
  · rintro ⟨h1, j, hj, rfl⟩; have := h j hj; omega, by simp⟩
theorem upTo_step {L : Nat → En} {n : Nat} {d : Int} {ds : List Int} (h : UpTo L n d ds) {v : Int} (h1 : d < v) (h2 : ∃ j, j < n ∧ (L j).day = v) (h3 : ∀ j, j < n → d < (L j).day → v ≤ (L j).day) : UpTo L n v (ds ++ [v]) := by
  obtain ⟨g1, g2, g3⟩ := h
  refine ⟨List.pairwise_append.2 ⟨g1, by simp, fun a ha b hb => ?_⟩, fun x => ?_, by simp; omega⟩
  · have := (g2 a).1 ha
    have hb : b = v := by simpa using hb
    omega
  · rw [List.mem_append, g2 x, List.mem_singleton]
    constructor
    · rintro (⟨q, j, hj, e⟩ | rfl)
      · exact ⟨by omega, j, hj, e⟩
      · exact ⟨Int.le_refl _, h2⟩
    · rintro ⟨q, j, hj, e⟩
      by_cases e2 : x ≤ d
      · exact .inl ⟨e2, j, hj, e⟩
      · right
        have := h3 j hj (by omega)
        omega
theorem lst_some_iff {L : Nat → En} {n : Nat} {d : Int} : (∃ f, (lst L d f n).isSome = true) ↔ ∃ j, j < n ∧ (L j).day = d := by
  constructor
  · rintro ⟨f, h⟩
    induction n with
    | zero => simp [lst] at h
    | succ n ih =>
      rw [lst] at h
      split at h
      · rename_i q; exact ⟨n, by omega, (slot_iff.1 q).1⟩
      · obtain ⟨j, hj, e⟩ := ih h; exact ⟨j, by omega, e⟩
  · rintro ⟨j, hj, e⟩
    refine ⟨(L j).fo, ?_⟩
    induction n with
    | zero => omega
    | succ n ih =>
      rw [lst]
      split
      · rfl
      · by_cases q : j = n
        · subst q; rename_i q2; exact absurd (slot_iff.2 ⟨e, rfl⟩) q2
        · exact ih (by omega)
theorem upTo_end {L : Nat → En} {n : Nat} {d : Int} {ds : List Int} (h : UpTo L n d ds) (hd : ∀ j, j < n → (L j).day ≤ d) : IsDys (fun d f => lst L d f n) ds :=
  ⟨h.1, fun x => by
    rw [h.2.1 x]
    refine Iff.trans ?_ lst_some_iff.symm
    constructor
    · rintro ⟨_, q⟩; exact q
    · rintro ⟨j, hj, rfl⟩; exact ⟨hd j hj, j, hj, rfl⟩⟩
set_option maxRecDepth 100000 in
set_option maxHeartbeats 6400000 in
theorem all_any (A : Option Addr) (n c : Nat) (L : Nat → En) (w : World) (hA : El w A n L) (hn : n ≤ 1000) (hv : ∀ k, k < n → enB (L k) = true) :
    Calls Try.prog 126 #[.slice A n c] w fun e w' => (∃ v l, e = .returned v ∧ IsDys (fun d f => lst L d f n) l ∧ l.length ≤ 182986 ∧ w'.ownsRow w.heap.size 3 1 v l.length (intL l)) ∧ Bl w w' := by
  obtain ⟨i0, hi0, hz0, hz1, hz2⟩ := info_parts6N int_infoN
  have HI := Lib.hid (And.intro hi0 (And.intro hz0 (And.intro hz1 hz2)))
  clear hi0 hz0 hz1 hz2
  have HA := Lib.hid hA
  have HV := Lib.hid (fun k (hk : k < n) => en_iff.1 (hv k hk))
  have H0 := Lib.hid (fun k (hk : k < n) => (en_iff.1 (hv k hk)).1)
  clear hA hv
  go_enter Try.func126, Try.ntmps126
  go_wp2_with fail
  have NV := Lib.hid (show w.ownsRow w.heap.size 3 1 (.slice none 0 0) ([] : List Int).length (intL []) from World.ownsRow_nil _ _ _ _)
  go_loopw [3, 4] (fun v d wr => ∃ (ds : List Int) (dd : Int) (sv : Value), sv = v ∧ d = .int .i64 dd ∧ -1 ≤ dd ∧ dd ≤ 182985 ∧ Hid (UpTo L n dd ds) ∧ Hid (wr.ownsRow w.heap.size 3 1 sv ds.length (intL ds)) ∧ Hid (Bl w wr)) (fun _ d _ => (182986 - RowKit.intOf d).toNat)
  case atStart => exact ⟨[], -1, _, rfl, rfl, by omega, by omega, upTo_start L n H0.out, NV.out, Bl.rf _⟩
  case round =>
    clear NV
    obtain ⟨ds, dd, sv, rfl, rfl, hd1, hd2, HU, HO, HB⟩ := hrel
    obtain ⟨Wo, hWo⟩ : ∃ Wo, Wo = wr := ⟨_, rfl⟩
    subst hWo
    have zo := HB.out.size
    have hlen := HU.out.2.2
    go_wp2_with fail
    go_loopw [5, 10] (fun x i wr => ∃ k : Nat, k ≤ n ∧ i = .int .i64 k ∧ x = .int .i64 (nxtF L dd k) ∧ Hid (Bl Wo wr)) (fun _ i _ => n - (RowKit.intOf i).toNat)
    case atStart => exact ⟨0, Nat.zero_le _, rfl, rfl, Bl.rf _⟩
    case round =>
      obtain ⟨k, hk, rfl, rfl, HZ⟩ := hrel
      have zr := HZ.out.size
      by_cases hlt : k < n
      · obtain ⟨b', off, rfl, hbb, hc⟩ := (HA.out.below (HB.out.tr HZ.out)) (by omega)
        obtain ⟨c0, c1, c2⟩ := hc k hlt
        clear hc
        have HN := Lib.hid (show nxtF L dd (k + 1) = if dd < (L k).day ∧ (nxtF L dd k < 0 ∨ (L k).day < nxtF L dd k) then (L k).day else nxtF L dd k from rfl)
        obtain ⟨y, hy⟩ : ∃ y, y = L k := ⟨_, rfl⟩
        rw [← hy] at c0 c1 c2 HN
        clear hy
        obtain ⟨nx, hnx⟩ : ∃ z, z = nxtF L dd k := ⟨_, rfl⟩
        rw [← hnx] at HN
        rw [← hnx]
        clear hnx
        by_cases q1 : dd < y.day
        · by_cases q2 : nx < 0
          · have HR := Lib.hid (show nxtF L dd (k + 1) = y.day by rw [HN.out, if_pos ⟨q1, .inl q2⟩])
            go_wp2_with fail
            go_roundw
            case rel => exact ⟨k + 1, by omega, by go_num, by rw [HR.out], HZ.out.tr (by go_grown)⟩
            case measure => simp [RowKit.intOf]; omega
          · by_cases q3 : y.day < nx
            · have HR := Lib.hid (show nxtF L dd (k + 1) = y.day by rw [HN.out, if_pos ⟨q1, .inr q3⟩])
              go_wp2_with fail
              go_roundw
              case rel => exact ⟨k + 1, by omega, by go_num, by rw [HR.out], HZ.out.tr (by go_grown)⟩
              case measure => simp [RowKit.intOf]; omega
            · have HR := Lib.hid (show nxtF L dd (k + 1) = nx by rw [HN.out, if_neg (by omega)])
              go_wp2_with fail
              go_roundw
              case rel => exact ⟨k + 1, by omega, by go_num, by rw [HR.out], HZ.out.tr (by go_grown)⟩
              case measure => simp [RowKit.intOf]; omega
        · have HR := Lib.hid (show nxtF L dd (k + 1) = nx by rw [HN.out, if_neg (by omega)])
          go_wp2_with fail
          go_roundw
          case rel => exact ⟨k + 1, by omega, by go_num, by rw [HR.out], HZ.out.tr (by go_grown)⟩
          case measure => simp [RowKit.intOf]; omega
      · obtain rfl : k = n := by omega
        have HB2 := Lib.hid (HB.out.tr HZ.out)
        have hspec := nxt_spec H0.out hd1
        rcases hspec with ⟨e, hall⟩ | ⟨g1, g2, g3⟩
        · have HE := Lib.hid (upTo_end HU.out hall)
          rw [e]
          clear hall
          go_wp2_with fail
          go_ret
          exact ⟨⟨sv, ds, rfl, HE.out, by omega, own_bN HO.out HZ.out⟩, HB2.out⟩
        · have HS := Lib.hid (upTo_step HU.out g1 g2 g3)
          have hmax : nxtF L dd k ≤ 182985 := by
            obtain ⟨j, hj, e⟩ := g2
            rw [← e]; exact (HV.out j hj).2.1
          obtain ⟨nx, hnx⟩ : ∃ z, z = nxtF L dd k := ⟨_, rfl⟩
          rw [← hnx] at g1 hmax HS
          rw [← hnx]
          clear hnx g2 g3
          have q0 : ¬ (nx < 0) := by omega
          have HO2 := Lib.hid (own_bN HO.out HZ.out)
          have hnew := Lib.hid (heap_alloc_new wr (.cells #[.int .i64 nx] 3))
          go_wp2_with (at_builtin; refine wpList_append_lies _ rfl _ _ _ rfl w.heap.size 3 i0 _ 1 8 Try.underlying24 HI.out.1 HI.out.2.1 HI.out.2.2.1 HI.out.2.2.2 rfl (by omega) _ ds.length (intL ds) rfl (HO2.out.alloc _) ⟨wr.heap.size, 0, none⟩ 1 1 [.int .i64 nx] rfl rfl (World.news_of_block hnew.out) (by simp [Value.oneCell']) (by omega) (by unfold maxLen; omega) (by omega) (by (try simp only [World.size_alloc]); omega) _ rfl ?_; intro gg cap w9 hown1 hgrow hat hlt9)
          have HO9 := Lib.hid (show w9.ownsRow w.heap.size 3 1 (.slice (some ⟨gg, 0, none⟩) (ds.length + 1) cap) (ds ++ [nx]).length (intL (ds ++ [nx])) by
            rw [intL_snoc, List.length_append, List.length_singleton]; exact hown1)
          have HB9 := Lib.hid (show Bl w w9 from Below.grown (HB2.out.tr (by go_grown)) hgrow (by (try simp only [World.size_alloc]); omega) (fun j hj => (HO2.out.lt j hj).1))
          clear hown1 hgrow hat
          go_roundw
          case rel => exact ⟨ds ++ [nx], nx, _, rfl, rfl, by omega, hmax, HS.out, HO9.out, HB9.out⟩
          case measure => simp [RowKit.intOf]; omega
end Go.Proofs.Ytbmenpfpeadckaa
