/-
  No cell of these rows narrows 'for every input' (looked for: loops, veiled, ifaces, maps, wideKeys, modest, calm, conditions, laid).
  DERIVED. THE GIVEN ROWS OF THIS SEAT. 2 by the template 'for every input the law returns true; each argument reads behind the call as it read before'; 0 by the template 'total and deterministic' (their statements: YthemoomfbbccjaaTotals.lean).
  GIVEN WITH THE SEED: the statements are not yours to turn. If you find one false, say at which input.
  Laid BY PROGRAM, IN A SANDBOX (cutbox-rows.mjs): the forced cells as the released guide's own fill.sh prints them over the translation d5f47a83d9ae7f9d… (all of the seat's roots in one cut). By AI agents, Wed Nov 11 2026. No macro, syntax, notation, axiom, sorry.
-/
import Derived.Test.YthemoomfbbccjaaChecked
import GoSem.Claim
import GoSem.ClaimJoined
import GoSem.ClaimMapViews
import Derived.JoinedTies
import Derived.KernelRfl
namespace Go.Proofs.Ythemoomfbbccjaa
/- THE CELL 'sum', in the pinned program and in every row, IS THE sha256 OF THE DUMP (.gsa) THAT YthemoomfbbccjaaProg.lean LOADS. Nothing in Lean hashes anything: it is a label: what it is worth is what the hold of that sum in a sandbox is worth. -/
noncomputable def Try.pinned : Pinned := { name := "ythemoomfbbccjaa", sum := "d5f47a83d9ae7f9de2c84e9f2dc266a617d8ec951df220660e12215689e2a141", checked := Try.checked }
namespace Rows
def none {H : Type} : Left H := { results := [], args := [] }

/-- 'noongunlaw05.GunWhere': WHATEVER THE INPUT: true; the input reads as it did. -/
def gunWhereSpec : ChangeSpec := { name := "gunWhere", fn := fun _ => fun
  | [d1, d2, d3] => { results := [.lit (.bool true)], args := [d1, d2, d3] }
  | _ => none }
def gunWhereRow : OpenClaim := { program := "ythemoomfbbccjaa", sum := "d5f47a83d9ae7f9de2c84e9f2dc266a617d8ec951df220660e12215689e2a141", func := "noongun/noongunlaw05.GunWhere", spec := "gunWhere", unfollowed := true, recurses := true, apart := false }
def GunWhereSaid : Prop := gunWhereRow.holds Try.pinned (OpenSpec.ofChange gunWhereSpec)

/-- ITS FALSE NEIGHBOUR: 'it returns false'. Refute it at one input. -/
def gunWhereWrong : ChangeSpec := { name := "gunWhere", fn := fun _ => fun
  | [d1, d2, d3] => { results := [.lit (.bool false)], args := [d1, d2, d3] }
  | _ => none }
def GunWhereWrongFalsely : Prop := gunWhereRow.holds Try.pinned (OpenSpec.ofChange gunWhereWrong)

/-- 'noongunlaw05.GunFewer': WHATEVER THE INPUT: true; the input reads as it did. -/
def gunFewerSpec : ChangeSpec := { name := "gunFewer", fn := fun _ => fun
  | [d1, d2, d3, d4] => { results := [.lit (.bool true)], args := [d1, d2, d3, d4] }
  | _ => none }
def gunFewerRow : OpenClaim := { program := "ythemoomfbbccjaa", sum := "d5f47a83d9ae7f9de2c84e9f2dc266a617d8ec951df220660e12215689e2a141", func := "noongun/noongunlaw05.GunFewer", spec := "gunFewer", unfollowed := true, recurses := true, apart := false }
def GunFewerSaid : Prop := gunFewerRow.holds Try.pinned (OpenSpec.ofChange gunFewerSpec)

/-- ITS FALSE NEIGHBOUR: 'it returns false'. Refute it at one input. -/
def gunFewerWrong : ChangeSpec := { name := "gunFewer", fn := fun _ => fun
  | [d1, d2, d3, d4] => { results := [.lit (.bool false)], args := [d1, d2, d3, d4] }
  | _ => none }
def GunFewerWrongFalsely : Prop := gunFewerRow.holds Try.pinned (OpenSpec.ofChange gunFewerWrong)

/- THE SECOND FORM. 'bulk': how many values and letters a reading holds, each counted each time it is reached (what is shared counts as often as it is met; a slice's spare places count too). A statement '..UptoSaid' is the law's where the arguments, and the package variables that the reading takes, are together of bulk at most 1048576: NARROWER than '..Said'. Prove '..Said' where nothing that the law and all that it calls make is longer than what came in: it says more and counts as full. Else prove '..UptoSaid'. A law counts once. -/
mutual
def uptoBulk {H : Type} : DataW H → Nat
  | .lit (.string bytes) => bytes.length + 1
  | .lit _ => 1
  | .nil => 1
  | .ptr d => uptoBulk d + 1
  | .slice elems spare => uptoBulkAll elems + uptoBulkAll spare + 1
  | .agg parts => uptoBulkAll parts + 1
  | .iface _ d => uptoBulk d + 1
  | .map entries => uptoBulkEntries entries + 1
  | .held _ => 1
def uptoBulkAll {H : Type} : List (DataW H) → Nat
  | [] => 0
  | d :: r => uptoBulk d + uptoBulkAll r
def uptoBulkEntries {H : Type} : List (Lit × DataW H) → Nat
  | [] => 0
  | x :: r => uptoBulkEntry x + uptoBulkEntries r
def uptoBulkEntry {H : Type} : Lit × DataW H → Nat
  | (.string bytes, d) => bytes.length + uptoBulk d + 1
  | (_, d) => uptoBulk d + 1
 end
def uptoSmall : (H : Type) → List (DataW H) → Bool := fun _ ds => decide (uptoBulkAll ds ≤ 1048576)
def OpenSpec.upto (s : _root_.Go.ChangeSpec) : _root_.Go.OpenSpec := { _root_.Go.OpenSpec.ofChange s with cond := some uptoSmall }

/-- 'noongunlaw05.GunWhere', WHERE WHAT IT READS IS OF BULK AT MOST 1048576: true; the input reads as it did. -/
def gunWhereUptoRow : OpenClaim := { program := "ythemoomfbbccjaa", sum := "d5f47a83d9ae7f9de2c84e9f2dc266a617d8ec951df220660e12215689e2a141", func := "noongun/noongunlaw05.GunWhere", spec := "gunWhere", unfollowed := true, recurses := true, apart := false, narrowed := true }
def GunWhereUptoSaid : Prop := gunWhereUptoRow.holds Try.pinned (OpenSpec.upto gunWhereSpec)

/-- 'noongunlaw05.GunFewer', WHERE WHAT IT READS IS OF BULK AT MOST 1048576: true; the input reads as it did. -/
def gunFewerUptoRow : OpenClaim := { program := "ythemoomfbbccjaa", sum := "d5f47a83d9ae7f9de2c84e9f2dc266a617d8ec951df220660e12215689e2a141", func := "noongun/noongunlaw05.GunFewer", spec := "gunFewer", unfollowed := true, recurses := true, apart := false, narrowed := true }
def GunFewerUptoSaid : Prop := gunFewerUptoRow.holds Try.pinned (OpenSpec.upto gunFewerSpec)

end Rows
end Go.Proofs.Ythemoomfbbccjaa
