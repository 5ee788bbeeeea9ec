/-
  No cell of these rows narrows 'for every input' (looked for: loops, veiled, ifaces, maps, wideKeys, modest, calm, conditions, laid).
  DERIVED. THE GIVEN ROWS OF THIS SEAT. 2 by the template 'for every input the law returns true; each argument reads behind the call as it read before'; 0 by the template 'total and deterministic' (their statements: YtchikfegpoonjaaTotals.lean).
  GIVEN WITH THE SEED: the statements are not yours to turn. If you find one false, say at which input.
  Laid BY PROGRAM, IN A SANDBOX (cutbox-rows.mjs): the forced cells as the released guide's own fill.sh prints them over the translation 227c33ff547f9f36… (all of the seat's roots in one cut). By AI agents, Wed Nov 11 2026. No macro, syntax, notation, axiom, sorry.
-/
import Derived.Test.YtchikfegpoonjaaChecked
import GoSem.Claim
import GoSem.ClaimJoined
import GoSem.ClaimMapViews
import Derived.JoinedTies
import Derived.KernelRfl
namespace Go.Proofs.Ytchikfegpoonjaa
/- THE CELL 'sum', in the pinned program and in every row, IS THE sha256 OF THE DUMP (.gsa) THAT YtchikfegpoonjaaProg.lean LOADS. Nothing in Lean hashes anything: it is a label: what it is worth is what the hold of that sum in a sandbox is worth. -/
noncomputable def Try.pinned : Pinned := { name := "ytchikfegpoonjaa", sum := "227c33ff547f9f36a5df156135f3366d50d4bf65bf4e4ca3031c1f1f356de21e", checked := Try.checked }
namespace Rows
def none {H : Type} : Left H := { results := [], args := [] }

/-- 'noonguntop.TopSpans': WHATEVER THE INPUT: true; the input reads as it did. -/
def topSpansSpec : ChangeSpec := { name := "topSpans", fn := fun _ => fun
  | [d1, d2, d3, d4] => { results := [.lit (.bool true)], args := [d1, d2, d3, d4] }
  | _ => none }
def topSpansRow : OpenClaim := { program := "ytchikfegpoonjaa", sum := "227c33ff547f9f36a5df156135f3366d50d4bf65bf4e4ca3031c1f1f356de21e", func := "noongun/noonguntop.TopSpans", spec := "topSpans", unfollowed := true, recurses := true, plainKeys := false, apart := false }
def TopSpansSaid : Prop := topSpansRow.holds Try.pinned (OpenSpec.ofChange topSpansSpec)

/-- ITS FALSE NEIGHBOUR: 'it returns false'. Refute it at one input. -/
def topSpansWrong : ChangeSpec := { name := "topSpans", fn := fun _ => fun
  | [d1, d2, d3, d4] => { results := [.lit (.bool false)], args := [d1, d2, d3, d4] }
  | _ => none }
def TopSpansWrongFalsely : Prop := topSpansRow.holds Try.pinned (OpenSpec.ofChange topSpansWrong)

/-- 'noonguntop.TopCircles': WHATEVER THE INPUT: true; the input reads as it did. -/
def topCirclesSpec : ChangeSpec := { name := "topCircles", fn := fun _ => fun
  | [d] => { results := [.lit (.bool true)], args := [d] }
  | _ => none }
def topCirclesRow : OpenClaim := { program := "ytchikfegpoonjaa", sum := "227c33ff547f9f36a5df156135f3366d50d4bf65bf4e4ca3031c1f1f356de21e", func := "noongun/noonguntop.TopCircles", spec := "topCircles", unfollowed := true, recurses := true, plainKeys := false, apart := false }
def TopCirclesSaid : Prop := topCirclesRow.holds Try.pinned (OpenSpec.ofChange topCirclesSpec)

/-- ITS FALSE NEIGHBOUR: 'it returns false'. Refute it at one input. -/
def topCirclesWrong : ChangeSpec := { name := "topCircles", fn := fun _ => fun
  | [d] => { results := [.lit (.bool false)], args := [d] }
  | _ => none }
def TopCirclesWrongFalsely : Prop := topCirclesRow.holds Try.pinned (OpenSpec.ofChange topCirclesWrong)

/- THE SECOND FORM. 'bulk': how many values and letters a reading holds, each counted each time it is reached (what is shared counts as often as it is met; a slice's spare places count too). A statement '..UptoSaid' is the law's where the arguments, and the package variables that the reading takes, are together of bulk at most 1048576: NARROWER than '..Said'. Prove '..Said' where nothing that the law and all that it calls make is longer than what came in: it says more and counts as full. Else prove '..UptoSaid'. A law counts once. -/
mutual
def uptoBulk {H : Type} : DataW H → Nat
  | .lit (.string bytes) => bytes.length + 1
  | .lit _ => 1
  | .nil => 1
  | .ptr d => uptoBulk d + 1
  | .slice elems spare => uptoBulkAll elems + uptoBulkAll spare + 1
  | .agg parts => uptoBulkAll parts + 1
  | .iface _ d => uptoBulk d + 1
  | .map entries => uptoBulkEntries entries + 1
  | .held _ => 1
def uptoBulkAll {H : Type} : List (DataW H) → Nat
  | [] => 0
  | d :: r => uptoBulk d + uptoBulkAll r
def uptoBulkEntries {H : Type} : List (Lit × DataW H) → Nat
  | [] => 0
  | x :: r => uptoBulkEntry x + uptoBulkEntries r
def uptoBulkEntry {H : Type} : Lit × DataW H → Nat
  | (.string bytes, d) => bytes.length + uptoBulk d + 1
  | (_, d) => uptoBulk d + 1
 end
def uptoSmall : (H : Type) → List (DataW H) → Bool := fun _ ds => decide (uptoBulkAll ds ≤ 1048576)
def OpenSpec.upto (s : _root_.Go.ChangeSpec) : _root_.Go.OpenSpec := { _root_.Go.OpenSpec.ofChange s with cond := some uptoSmall }

/-- 'noonguntop.TopSpans', WHERE WHAT IT READS IS OF BULK AT MOST 1048576: true; the input reads as it did. -/
def topSpansUptoRow : OpenClaim := { program := "ytchikfegpoonjaa", sum := "227c33ff547f9f36a5df156135f3366d50d4bf65bf4e4ca3031c1f1f356de21e", func := "noongun/noonguntop.TopSpans", spec := "topSpans", unfollowed := true, recurses := true, plainKeys := false, apart := false, narrowed := true }
def TopSpansUptoSaid : Prop := topSpansUptoRow.holds Try.pinned (OpenSpec.upto topSpansSpec)

/-- 'noonguntop.TopCircles', WHERE WHAT IT READS IS OF BULK AT MOST 1048576: true; the input reads as it did. -/
def topCirclesUptoRow : OpenClaim := { program := "ytchikfegpoonjaa", sum := "227c33ff547f9f36a5df156135f3366d50d4bf65bf4e4ca3031c1f1f356de21e", func := "noongun/noonguntop.TopCircles", spec := "topCircles", unfollowed := true, recurses := true, plainKeys := false, apart := false, narrowed := true }
def TopCirclesUptoSaid : Prop := topCirclesUptoRow.holds Try.pinned (OpenSpec.upto topCirclesSpec)

end Rows
end Go.Proofs.Ytchikfegpoonjaa
