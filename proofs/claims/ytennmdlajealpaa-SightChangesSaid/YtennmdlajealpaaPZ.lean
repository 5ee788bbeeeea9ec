/-
  Package sight: the document's net of two sights.
-/
import Derived.Test.YtennmdlajealpaaPY
namespace Go.Proofs.Ytennmdlajealpaa
open Go.RowKit Go.Maps
set_option linter.unusedSimpArgs false
set_option linter.unusedVariables false

def twR (k : Nat) : Int := if k = 1 then 10000 else 0
def twS (k : Nat) : Sgt := if k = 0 then { tm := 0, ca := 1, cb := 0, lo := 100, hi := 100 } else { tm := 1000000, ca := 1, cb := 0, lo := 150, hi := 160 }
theorem two_res (tmps : Array Value) (W : World) (p1 : Nat) (a b : Value) (h8 : tmps.getD 0 undef = .pointer (some ⟨p1, 0, none⟩)) (c0 : W.cell? ⟨p1, 0, none⟩ = some a) (c1 : W.cell? ⟨p1, 1, none⟩ = some b) :
    (results Try.f53 tmps).run Try.prog W = .ok (.agg #[a, b]) W := by
  have h8' : tmps[0]?.getD undef = .pointer (some ⟨p1, 0, none⟩) := by simpa using h8
  simp [results, Try.results53, go_sem, h8', c0, c1]
  try rfl
set_option maxRecDepth 100000 in
set_option maxHeartbeats 3200000 in
theorem two_any (w : World) : Calls Try.prog 53 #[] w fun e w' => ∃ g h, e = .returned (encN (some ⟨g, 0, none⟩) 2 2 (some ⟨h, 0, none⟩) 2 2) ∧ Sl w' (some ⟨g, 0, none⟩) 2 twR ∧ Sgl w' (some ⟨h, 0, none⟩) 2 twS ∧ Bl w w' := by
  go_enter Try.func53, Try.ntmps53
  go_wp2_with fail
  obtain ⟨Z, hZ⟩ : ∃ Z, Z = (((w.alloc (Obj.cells #[.slice (some ⟨w.heap.size + 1, 0, none⟩) 2 2, .slice (some ⟨w.heap.size + 1 + 1, 0, none⟩) 2 2] 25)).alloc (Obj.cells #[.int .i64 0, .int .i64 10000] 3)).alloc (Obj.cells #[.int .i64 0, .int .i64 1, .int .i64 0, .int .i64 100, .int .i64 100, .int .i64 1000000, .int .i64 1, .int .i64 0, .int .i64 150, .int .i64 160] 52)) := ⟨_, rfl⟩
  have BZ : Bl w Z := by rw [hZ]; go_grown
  have n0 : Z.cell? ⟨w.heap.size, 0, none⟩ = some (.slice (some ⟨w.heap.size + 1, 0, none⟩) 2 2) := by rw [hZ]; go_cell
  have n1 : Z.cell? ⟨w.heap.size, 1, none⟩ = some (.slice (some ⟨w.heap.size + 1 + 1, 0, none⟩) 2 2) := by rw [hZ]; go_cell
  have r0 : Z.cell? ⟨w.heap.size + 1, 0, none⟩ = some (.int .i64 0) := by rw [hZ]; go_cell
  have r1 : Z.cell? ⟨w.heap.size + 1, 1, none⟩ = some (.int .i64 10000) := by rw [hZ]; go_cell
  have s0 : Z.cell? ⟨w.heap.size + 1 + 1, 0, none⟩ = some (.int .i64 0) := by rw [hZ]; go_cell
  have s1 : Z.cell? ⟨w.heap.size + 1 + 1, 1, none⟩ = some (.int .i64 1) := by rw [hZ]; go_cell
  have s2 : Z.cell? ⟨w.heap.size + 1 + 1, 2, none⟩ = some (.int .i64 0) := by rw [hZ]; go_cell
  have s3 : Z.cell? ⟨w.heap.size + 1 + 1, 3, none⟩ = some (.int .i64 100) := by rw [hZ]; go_cell
  have s4 : Z.cell? ⟨w.heap.size + 1 + 1, 4, none⟩ = some (.int .i64 100) := by rw [hZ]; go_cell
  have s5 : Z.cell? ⟨w.heap.size + 1 + 1, 5, none⟩ = some (.int .i64 1000000) := by rw [hZ]; go_cell
  have s6 : Z.cell? ⟨w.heap.size + 1 + 1, 6, none⟩ = some (.int .i64 1) := by rw [hZ]; go_cell
  have s7 : Z.cell? ⟨w.heap.size + 1 + 1, 7, none⟩ = some (.int .i64 0) := by rw [hZ]; go_cell
  have s8 : Z.cell? ⟨w.heap.size + 1 + 1, 8, none⟩ = some (.int .i64 150) := by rw [hZ]; go_cell
  have s9 : Z.cell? ⟨w.heap.size + 1 + 1, 9, none⟩ = some (.int .i64 160) := by rw [hZ]; go_cell
  rw [← hZ]
  exact bodyPost_ret (two_res _ _ _ _ _ rfl n0 n1) rfl ⟨_, _, rfl, fun _ => ⟨_, 0, rfl, ltb r0, fun j hj => by
    have hj2 : j = 0 ∨ j = 1 := by omega
    rcases hj2 with rfl | rfl
    · exact r0
    · exact r1⟩, fun _ => ⟨_, 0, rfl, ltb s0, fun j hj => by
    have hj2 : j = 0 ∨ j = 1 := by omega
    rcases hj2 with rfl | rfl
    · exact ⟨s0, s1, s2, s3, s4⟩
    · exact ⟨s5, s6, s7, s8, s9⟩⟩, BZ⟩
end Go.Proofs.Ytennmdlajealpaa
