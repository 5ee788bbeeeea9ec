/-
  What a region that draws its order may take for granted of some boxes of two cells.
-/
import Derived.Test.YtdelgijalnmehaaDoorQ
import Derived.Deep.RegionHeld3
namespace Go.Proofs.YtdelgijalnmehaaDoor
open Go.RowKit Cal
set_option linter.unusedSimpArgs false
set_option linter.unusedVariables false

theorem lt_of_cell' {w : World} {b o : Nat} {v : Value} (h : w.cell? ⟨b, o, none⟩ = some v) : b < w.heap.size := World.block_lt_of_cell? w ⟨b, o, none⟩ h

abbrev Hx2 (W : World) (b0 b1 : Nat) (x0 y0 x1 y1 : Value) (w : World) : Prop :=
  Bl W w ∧ w.cell? ⟨b0, 0, none⟩ = some x0 ∧ w.cell? ⟨b0, 1, none⟩ = some y0 ∧ w.cell? ⟨b1, 0, none⟩ = some x1 ∧ w.cell? ⟨b1, 1, none⟩ = some y1 ∧ b0 < W.heap.size ∧ b1 < W.heap.size
theorem Hx2.t {W a b : World} {b0 b1 : Nat} {x0 y0 x1 y1 : Value} (h : Hx2 W b0 b1 x0 y0 x1 y1 a) (hb : Bl a b) : Hx2 W b0 b1 x0 y0 x1 y1 b := by
  obtain ⟨h1, c0, d0, c1, d1, l0, l1⟩ := h
  obtain ⟨hc, hf⟩ := bcell hb
  have hz := h1.size
  exact ⟨h1.tr hb, (hc _ _ (by omega)).trans c0, (hc _ _ (by omega)).trans d0, (hc _ _ (by omega)).trans c1, (hc _ _ (by omega)).trans d1, l0, l1⟩
theorem Hx2.bl {W a : World} {b0 b1 : Nat} {x0 y0 x1 y1 : Value} (h : Hx2 W b0 b1 x0 y0 x1 y1 a) : Bl W a := h.1
theorem Hx2.mo {W a : World} {b0 b1 : Nat} {x0 y0 x1 y1 : Value} (h : Hx2 W b0 b1 x0 y0 x1 y1 a) (hM : Mo W) : Mo a := hM.below h.1
abbrev Hx3 (W : World) (b0 b1 b2 : Nat) (x0 y0 x1 y1 x2 y2 : Value) (w : World) : Prop :=
  Bl W w ∧ w.cell? ⟨b0, 0, none⟩ = some x0 ∧ w.cell? ⟨b0, 1, none⟩ = some y0 ∧ w.cell? ⟨b1, 0, none⟩ = some x1 ∧ w.cell? ⟨b1, 1, none⟩ = some y1 ∧ w.cell? ⟨b2, 0, none⟩ = some x2 ∧ w.cell? ⟨b2, 1, none⟩ = some y2 ∧ b0 < W.heap.size ∧ b1 < W.heap.size ∧ b2 < W.heap.size
theorem Hx3.t {W a b : World} {b0 b1 b2 : Nat} {x0 y0 x1 y1 x2 y2 : Value} (h : Hx3 W b0 b1 b2 x0 y0 x1 y1 x2 y2 a) (hb : Bl a b) : Hx3 W b0 b1 b2 x0 y0 x1 y1 x2 y2 b := by
  obtain ⟨h1, c0, d0, c1, d1, c2, d2, l0, l1, l2⟩ := h
  obtain ⟨hc, hf⟩ := bcell hb
  have hz := h1.size
  exact ⟨h1.tr hb, (hc _ _ (by omega)).trans c0, (hc _ _ (by omega)).trans d0, (hc _ _ (by omega)).trans c1, (hc _ _ (by omega)).trans d1, (hc _ _ (by omega)).trans c2, (hc _ _ (by omega)).trans d2, l0, l1, l2⟩
theorem Hx3.bl {W a : World} {b0 b1 b2 : Nat} {x0 y0 x1 y1 x2 y2 : Value} (h : Hx3 W b0 b1 b2 x0 y0 x1 y1 x2 y2 a) : Bl W a := h.1
theorem Hx3.mo {W a : World} {b0 b1 b2 : Nat} {x0 y0 x1 y1 x2 y2 : Value} (h : Hx3 W b0 b1 b2 x0 y0 x1 y1 x2 y2 a) (hM : Mo W) : Mo a := hM.below h.1
abbrev Hx4 (W : World) (b0 b1 b2 b3 : Nat) (x0 y0 x1 y1 x2 y2 x3 y3 : Value) (w : World) : Prop :=
  Bl W w ∧ w.cell? ⟨b0, 0, none⟩ = some x0 ∧ w.cell? ⟨b0, 1, none⟩ = some y0 ∧ w.cell? ⟨b1, 0, none⟩ = some x1 ∧ w.cell? ⟨b1, 1, none⟩ = some y1 ∧ w.cell? ⟨b2, 0, none⟩ = some x2 ∧ w.cell? ⟨b2, 1, none⟩ = some y2 ∧ w.cell? ⟨b3, 0, none⟩ = some x3 ∧ w.cell? ⟨b3, 1, none⟩ = some y3 ∧ b0 < W.heap.size ∧ b1 < W.heap.size ∧ b2 < W.heap.size ∧ b3 < W.heap.size
theorem Hx4.t {W a b : World} {b0 b1 b2 b3 : Nat} {x0 y0 x1 y1 x2 y2 x3 y3 : Value} (h : Hx4 W b0 b1 b2 b3 x0 y0 x1 y1 x2 y2 x3 y3 a) (hb : Bl a b) : Hx4 W b0 b1 b2 b3 x0 y0 x1 y1 x2 y2 x3 y3 b := by
  obtain ⟨h1, c0, d0, c1, d1, c2, d2, c3, d3, l0, l1, l2, l3⟩ := h
  obtain ⟨hc, hf⟩ := bcell hb
  have hz := h1.size
  exact ⟨h1.tr hb, (hc _ _ (by omega)).trans c0, (hc _ _ (by omega)).trans d0, (hc _ _ (by omega)).trans c1, (hc _ _ (by omega)).trans d1, (hc _ _ (by omega)).trans c2, (hc _ _ (by omega)).trans d2, (hc _ _ (by omega)).trans c3, (hc _ _ (by omega)).trans d3, l0, l1, l2, l3⟩
theorem Hx4.bl {W a : World} {b0 b1 b2 b3 : Nat} {x0 y0 x1 y1 x2 y2 x3 y3 : Value} (h : Hx4 W b0 b1 b2 b3 x0 y0 x1 y1 x2 y2 x3 y3 a) : Bl W a := h.1
theorem Hx4.mo {W a : World} {b0 b1 b2 b3 : Nat} {x0 y0 x1 y1 x2 y2 x3 y3 : Value} (h : Hx4 W b0 b1 b2 b3 x0 y0 x1 y1 x2 y2 x3 y3 a) (hM : Mo W) : Mo a := hM.below h.1
abbrev Hx5 (W : World) (b0 b1 b2 b3 b4 : Nat) (x0 y0 x1 y1 x2 y2 x3 y3 x4 y4 : Value) (w : World) : Prop :=
  Bl W w ∧ w.cell? ⟨b0, 0, none⟩ = some x0 ∧ w.cell? ⟨b0, 1, none⟩ = some y0 ∧ w.cell? ⟨b1, 0, none⟩ = some x1 ∧ w.cell? ⟨b1, 1, none⟩ = some y1 ∧ w.cell? ⟨b2, 0, none⟩ = some x2 ∧ w.cell? ⟨b2, 1, none⟩ = some y2 ∧ w.cell? ⟨b3, 0, none⟩ = some x3 ∧ w.cell? ⟨b3, 1, none⟩ = some y3 ∧ w.cell? ⟨b4, 0, none⟩ = some x4 ∧ w.cell? ⟨b4, 1, none⟩ = some y4 ∧ b0 < W.heap.size ∧ b1 < W.heap.size ∧ b2 < W.heap.size ∧ b3 < W.heap.size ∧ b4 < W.heap.size
theorem Hx5.t {W a b : World} {b0 b1 b2 b3 b4 : Nat} {x0 y0 x1 y1 x2 y2 x3 y3 x4 y4 : Value} (h : Hx5 W b0 b1 b2 b3 b4 x0 y0 x1 y1 x2 y2 x3 y3 x4 y4 a) (hb : Bl a b) : Hx5 W b0 b1 b2 b3 b4 x0 y0 x1 y1 x2 y2 x3 y3 x4 y4 b := by
  obtain ⟨h1, c0, d0, c1, d1, c2, d2, c3, d3, c4, d4, l0, l1, l2, l3, l4⟩ := h
  obtain ⟨hc, hf⟩ := bcell hb
  have hz := h1.size
  exact ⟨h1.tr hb, (hc _ _ (by omega)).trans c0, (hc _ _ (by omega)).trans d0, (hc _ _ (by omega)).trans c1, (hc _ _ (by omega)).trans d1, (hc _ _ (by omega)).trans c2, (hc _ _ (by omega)).trans d2, (hc _ _ (by omega)).trans c3, (hc _ _ (by omega)).trans d3, (hc _ _ (by omega)).trans c4, (hc _ _ (by omega)).trans d4, l0, l1, l2, l3, l4⟩
theorem Hx5.bl {W a : World} {b0 b1 b2 b3 b4 : Nat} {x0 y0 x1 y1 x2 y2 x3 y3 x4 y4 : Value} (h : Hx5 W b0 b1 b2 b3 b4 x0 y0 x1 y1 x2 y2 x3 y3 x4 y4 a) : Bl W a := h.1
theorem Hx5.mo {W a : World} {b0 b1 b2 b3 b4 : Nat} {x0 y0 x1 y1 x2 y2 x3 y3 x4 y4 : Value} (h : Hx5 W b0 b1 b2 b3 b4 x0 y0 x1 y1 x2 y2 x3 y3 x4 y4 a) (hM : Mo W) : Mo a := hM.below h.1
abbrev Hx6 (W : World) (b0 b1 b2 b3 b4 b5 : Nat) (x0 y0 x1 y1 x2 y2 x3 y3 x4 y4 x5 y5 : Value) (w : World) : Prop :=
  Bl W w ∧ w.cell? ⟨b0, 0, none⟩ = some x0 ∧ w.cell? ⟨b0, 1, none⟩ = some y0 ∧ w.cell? ⟨b1, 0, none⟩ = some x1 ∧ w.cell? ⟨b1, 1, none⟩ = some y1 ∧ w.cell? ⟨b2, 0, none⟩ = some x2 ∧ w.cell? ⟨b2, 1, none⟩ = some y2 ∧ w.cell? ⟨b3, 0, none⟩ = some x3 ∧ w.cell? ⟨b3, 1, none⟩ = some y3 ∧ w.cell? ⟨b4, 0, none⟩ = some x4 ∧ w.cell? ⟨b4, 1, none⟩ = some y4 ∧ w.cell? ⟨b5, 0, none⟩ = some x5 ∧ w.cell? ⟨b5, 1, none⟩ = some y5 ∧ b0 < W.heap.size ∧ b1 < W.heap.size ∧ b2 < W.heap.size ∧ b3 < W.heap.size ∧ b4 < W.heap.size ∧ b5 < W.heap.size
theorem Hx6.t {W a b : World} {b0 b1 b2 b3 b4 b5 : Nat} {x0 y0 x1 y1 x2 y2 x3 y3 x4 y4 x5 y5 : Value} (h : Hx6 W b0 b1 b2 b3 b4 b5 x0 y0 x1 y1 x2 y2 x3 y3 x4 y4 x5 y5 a) (hb : Bl a b) : Hx6 W b0 b1 b2 b3 b4 b5 x0 y0 x1 y1 x2 y2 x3 y3 x4 y4 x5 y5 b := by
  obtain ⟨h1, c0, d0, c1, d1, c2, d2, c3, d3, c4, d4, c5, d5, l0, l1, l2, l3, l4, l5⟩ := h
  obtain ⟨hc, hf⟩ := bcell hb
  have hz := h1.size
  exact ⟨h1.tr hb, (hc _ _ (by omega)).trans c0, (hc _ _ (by omega)).trans d0, (hc _ _ (by omega)).trans c1, (hc _ _ (by omega)).trans d1, (hc _ _ (by omega)).trans c2, (hc _ _ (by omega)).trans d2, (hc _ _ (by omega)).trans c3, (hc _ _ (by omega)).trans d3, (hc _ _ (by omega)).trans c4, (hc _ _ (by omega)).trans d4, (hc _ _ (by omega)).trans c5, (hc _ _ (by omega)).trans d5, l0, l1, l2, l3, l4, l5⟩
theorem Hx6.bl {W a : World} {b0 b1 b2 b3 b4 b5 : Nat} {x0 y0 x1 y1 x2 y2 x3 y3 x4 y4 x5 y5 : Value} (h : Hx6 W b0 b1 b2 b3 b4 b5 x0 y0 x1 y1 x2 y2 x3 y3 x4 y4 x5 y5 a) : Bl W a := h.1
theorem Hx6.mo {W a : World} {b0 b1 b2 b3 b4 b5 : Nat} {x0 y0 x1 y1 x2 y2 x3 y3 x4 y4 x5 y5 : Value} (h : Hx6 W b0 b1 b2 b3 b4 b5 x0 y0 x1 y1 x2 y2 x3 y3 x4 y4 x5 y5 a) (hM : Mo W) : Mo a := hM.below h.1
end Go.Proofs.YtdelgijalnmehaaDoor
