/-
  How a list of stars that came in reads; what the row of the texts takes of the library's variables, and a world that holds them.
-/
import Derived.Test.YtlpbmcnojkhdcaaDoorTPD
import Derived.Test.YtlpbmcnojkhdcaaDoorTO
import Derived.Test.YtlpbmcnojkhdcaaDoorR
import Derived.Deep.Slices
import Derived.Lib.LaidU8
import Derived.Lib.LaidTab
import Derived.Stop.LaidErr
namespace Go.Proofs.YtlpbmcnojkhdcaaDoor
open Go.ChangeShapes Go.WideShapes Go.ChangeAt Go.RowKit Go.Joins Go.Deep
set_option linter.unusedSimpArgs false
set_option linter.unusedVariables false

section
variable {H : Type} {enc : TypeId × Value → H} {w : World} {base : Nat} {spare : Nat → Bool} {held : Bool}
set_option maxRecDepth 100000 in
theorem op_stars {r : Reach} {b0 : Nat} {v : Value} {d : DataW H} {p : List MemPlace} (hv : Value.okWide Tryd.prog w r b0 22 v) (h : DataW.Trod enc Tryd.prog w base spare held 22 v d p) :
    ∃ (A : Option Addr) (n c : Nat) (T : Nat → Sta), v = .slice A n c ∧ n ≤ maxLen ∧ (∀ j, j < n → (T j).s.size ≤ maxLen) ∧ Stl w A n T := by
  obtain ⟨A, n, c, rfl⟩ := okWide_slice Tryd.underlying22 hv
  obtain ⟨fuel, hf⟩ := h
  rcases open_slice Tryd.underlying22 hf with ⟨hcs, _⟩ | ⟨a, len, cap, m, n', D, Pl, hcs, hb, hl, hm, hmm, hx, hi⟩
  · simp [Value.cells] at hcs
    obtain ⟨rfl, rfl, rfl⟩ := hcs
    exact ⟨none, 0, 0, fun _ => zeroS, rfl, by decide, fun j hj => absurd hj (by omega), fun h => absurd h (by omega)⟩
  · simp [Value.cells] at hcs
    obtain ⟨rfl, rfl, rfl⟩ := hcs
    have hml : n ≤ m := by rw [hmm]; split <;> omega
    have key : ∀ i, ∃ x : Sta, i < n → x.s.size ≤ maxLen ∧ w.cell? ((a.add (i * 4)).add 0) = some (.string x.s) ∧ w.cell? ((a.add (i * 4)).add 1) = some (.int .i64 x.a) ∧ w.cell? ((a.add (i * 4)).add 2) = some (.int .i64 x.h) ∧ w.cell? ((a.add (i * 4)).add 3) = some (.int .i64 x.l) := by
      intro i
      by_cases hin : i < n
      · obtain ⟨cs', hc, ht⟩ := hi i (by omega)
        rw [cStar] at hc
        obtain ⟨_, _, hat⟩ := World.cells?_some hc
        obtain ⟨s, x, y, z, rfl, hs⟩ := rd_star ht
        exact ⟨⟨s, x, y, z⟩, fun _ => ⟨hs, hat 0 (by omega), hat 1 (by omega), hat 2 (by omega), hat 3 (by omega)⟩⟩
      · exact ⟨zeroS, fun h => absurd h hin⟩
    obtain ⟨T, hT⟩ := Classical.axiomOfChoice key
    refine ⟨some a, n, c, T, rfl, by omega, fun j hj => (hT j hj).1, fun hn => ?_⟩
    obtain ⟨b, off, spot⟩ := a
    have hspot : spot = none := by simpa [Addr.add] using World.cell?_spot (hT 0 hn).2.1
    subst hspot
    refine ⟨b, off, rfl, ?_, fun j hj => ?_⟩
    · have := (hT 0 hn).2.1
      exact World.block_lt_of_cell? w _ (by rw [add_plain, add_plain] at this; exact this)
    · obtain ⟨_, h0, h1, h2, h3⟩ := hT j hj
      rw [add_plain, add_plain] at h0 h1 h2 h3
      exact ⟨h0, h1, h2, h3⟩
end

theorem starErr : "*" ++ "errors.errorString" = "*errors.errorString" := by decide
theorem rowErr (u : TypeId) (h : Tryd.prog.typeName? 3 u = some "*errors.errorString") : u = 99 :=
  typeName_ptr_named (nm := "errors.errorString") (by rw [starErr]; kernel_rfl) (by kernel_rfl) (by decide) u (by rw [starErr]; exact h)
theorem gvOf {W : World} (h : laidMetH Tryd.prog Rows.transitTextsRow.laid W) (hs : W.ShapedOpen Tryd.prog) : Gv W := by
  have h0 : laidMet Tryd.prog Rows.transitTextsRow.laid W := h
  have h2 := laidMet.tail (laidMet.tail h0)
  have h4 := laidMet.tail (laidMet.tail h2)
  have h5 := laidMet.tail h4
  obtain ⟨a0, s0, hv0, _⟩ := laid_sentinel (g := 2) h4 (by kernel_rfl) (by kernel_rfl) Tryd.underlying48 rowErr Tryd.underlying99 Tryd.underlying101 rfl rfl Tryd.underlying9 (by kernel_rfl) (by kernel_rfl)
  obtain ⟨a1, s1, hv1, _⟩ := laid_sentinel (g := 1) h5 (by kernel_rfl) (by kernel_rfl) Tryd.underlying48 rowErr Tryd.underlying99 Tryd.underlying101 rfl rfl Tryd.underlying9 (by kernel_rfl) (by kernel_rfl)
  exact ⟨Lib.tabIs_of_head gPow gPowT Tryd.underlying113 Tryd.underlying87 cU64 cPow h2, Tryd.laysM146.s1_3 W hs, ⟨_, _, hv1⟩, ⟨_, _, hv0⟩⟩

/-- A world for the witness: the settled one with the two errors' structs more, the listed variables holding what their initialisers lay. -/
noncomputable def laidWorldT (os : Os) : World :=
  let N := (World.settled Tryd.prog os).heap.size
  let w0 := World.holding Tryd.prog os ⟨#[.cells #[.string ⟨([105, 110, 118, 97, 108, 105, 100, 32, 115, 121, 110, 116, 97, 120] : List UInt8).toArray⟩] 101, .cells #[.string ⟨([118, 97, 108, 117, 101, 32, 111, 117, 116, 32, 111, 102, 32, 114, 97, 110, 103, 101] : List UInt8).toArray⟩] 101], #[], []⟩
  { w0 with heap := (((((((w0.heap.modify 6 (refill #[.int .u8 0, .int .u8 1, .int .u8 28, .int .u8 2, .int .u8 29, .int .u8 14, .int .u8 24, .int .u8 3, .int .u8 30, .int .u8 22, .int .u8 20, .int .u8 15, .int .u8 25, .int .u8 17, .int .u8 4, .int .u8 8, .int .u8 31, .int .u8 27, .int .u8 13, .int .u8 23, .int .u8 21, .int .u8 19, .int .u8 16, .int .u8 7, .int .u8 26, .int .u8 12, .int .u8 18, .int .u8 6, .int .u8 11, .int .u8 5, .int .u8 10, .int .u8 9])).modify 7 (refill #[.int .u8 0, .int .u8 1, .int .u8 56, .int .u8 2, .int .u8 57, .int .u8 49, .int .u8 28, .int .u8 3, .int .u8 61, .int .u8 58, .int .u8 42, .int .u8 50, .int .u8 38, .int .u8 29, .int .u8 17, .int .u8 4, .int .u8 62, .int .u8 47, .int .u8 59, .int .u8 36, .int .u8 45, .int .u8 43, .int .u8 51, .int .u8 22, .int .u8 53, .int .u8 39, .int .u8 33, .int .u8 30, .int .u8 24, .int .u8 18, .int .u8 12, .int .u8 5, .int .u8 63, .int .u8 55, .int .u8 48, .int .u8 27, .int .u8 60, .int .u8 41, .int .u8 37, .int .u8 16, .int .u8 46, .int .u8 35, .int .u8 44, .int .u8 21, .int .u8 52, .int .u8 32, .int .u8 23, .int .u8 11, .int .u8 54, .int .u8 26, .int .u8 40, .int .u8 15, .int .u8 34, .int .u8 20, .int .u8 31, .int .u8 10, .int .u8 25, .int .u8 14, .int .u8 19, .int .u8 9, .int .u8 13, .int .u8 8, .int .u8 7, .int .u8 6])).modify 5 (refill #[.int .u64 1, .int .u64 10, .int .u64 100, .int .u64 1000, .int .u64 10000, .int .u64 100000, .int .u64 1000000, .int .u64 10000000, .int .u64 100000000, .int .u64 1000000000, .int .u64 10000000000, .int .u64 100000000000, .int .u64 1000000000000, .int .u64 10000000000000, .int .u64 100000000000000, .int .u64 1000000000000000, .int .u64 10000000000000000, .int .u64 100000000000000000, .int .u64 1000000000000000000, .int .u64 10000000000000000000])).modify 4 (refill #[.int .u8 128, .int .u8 191, .int .u8 160, .int .u8 191, .int .u8 128, .int .u8 159, .int .u8 144, .int .u8 191, .int .u8 128, .int .u8 143, .int .u8 0, .int .u8 0, .int .u8 0, .int .u8 0, .int .u8 0, .int .u8 0, .int .u8 0, .int .u8 0, .int .u8 0, .int .u8 0, .int .u8 0, .int .u8 0, .int .u8 0, .int .u8 0, .int .u8 0, .int .u8 0, .int .u8 0, .int .u8 0, .int .u8 0, .int .u8 0, .int .u8 0, .int .u8 0])).modify 1 (refill #[.iface 99 (.pointer (some ⟨N, 0, none⟩))])).modify 2 (refill #[.iface 99 (.pointer (some ⟨N + 1, 0, none⟩))])).modify 3 (refill (Lib.firstTab.map fun z => Value.int .u8 z).toArray)) }
end Go.Proofs.YtlpbmcnojkhdcaaDoor
