/-
  No cell of these rows narrows 'for every input' (looked for: loops, veiled, ifaces, maps, wideKeys, modest, calm, conditions, laid).
  DERIVED. THE GIVEN ROWS OF THIS SEAT. 4 by the template 'for every input the law returns true; each argument reads behind the call as it read before'; 0 by the template 'total and deterministic' (their statements: YtbhdoafcjfcgfaaTotals.lean).
  GIVEN WITH THE SEED: the statements are not yours to turn. If you find one false, say at which input.
  Laid BY PROGRAM, IN A SANDBOX (cutbox-rows.mjs): the forced cells as the released guide's own fill.sh prints them over the translation b1b1ab2fe1f8c296… (all of the seat's roots in one cut). By AI agents, Wed Nov 11 2026. No macro, syntax, notation, axiom, sorry.
-/
import Derived.Test.YtbhdoafcjfcgfaaChecked
import GoSem.Claim
import GoSem.ClaimJoined
import GoSem.ClaimMapViews
import Derived.JoinedTies
import Derived.KernelRfl
namespace Go.Proofs.Ytbhdoafcjfcgfaa
/- THE CELL 'sum', in the pinned program and in every row, IS THE sha256 OF THE DUMP (.gsa) THAT YtbhdoafcjfcgfaaProg.lean LOADS. Nothing in Lean hashes anything: it is a label: what it is worth is what the hold of that sum in a sandbox is worth. -/
noncomputable def Try.pinned : Pinned := { name := "ytbhdoafcjfcgfaa", sum := "b1b1ab2fe1f8c296e28c1e9aa04c839dc3c85a9622089aeacb21b47c5dfe7aaf", checked := Try.checked }
namespace Rows
def none {H : Type} : Left H := { results := [], args := [] }

/-- 'noongunlaw06.RateDays': WHATEVER THE INPUT: true; the input reads as it did. -/
def rateDaysSpec : ChangeSpec := { name := "rateDays", fn := fun _ => fun
  | [d] => { results := [.lit (.bool true)], args := [d] }
  | _ => none }
def rateDaysRow : OpenClaim := { program := "ytbhdoafcjfcgfaa", sum := "b1b1ab2fe1f8c296e28c1e9aa04c839dc3c85a9622089aeacb21b47c5dfe7aaf", func := "noongun/noongunlaw06.RateDays", spec := "rateDays", unfollowed := true, recurses := true, apart := false }
def RateDaysSaid : Prop := rateDaysRow.holds Try.pinned (OpenSpec.ofChange rateDaysSpec)

/-- ITS FALSE NEIGHBOUR: 'it returns false'. Refute it at one input. -/
def rateDaysWrong : ChangeSpec := { name := "rateDays", fn := fun _ => fun
  | [d] => { results := [.lit (.bool false)], args := [d] }
  | _ => none }
def RateDaysWrongFalsely : Prop := rateDaysRow.holds Try.pinned (OpenSpec.ofChange rateDaysWrong)

/-- 'noongunlaw06.RateTrials': WHATEVER THE INPUT: true; the input reads as it did. -/
def rateTrialsSpec : ChangeSpec := { name := "rateTrials", fn := fun _ => fun
  | [d1, d2] => { results := [.lit (.bool true)], args := [d1, d2] }
  | _ => none }
def rateTrialsRow : OpenClaim := { program := "ytbhdoafcjfcgfaa", sum := "b1b1ab2fe1f8c296e28c1e9aa04c839dc3c85a9622089aeacb21b47c5dfe7aaf", func := "noongun/noongunlaw06.RateTrials", spec := "rateTrials", unfollowed := true, recurses := true, apart := false }
def RateTrialsSaid : Prop := rateTrialsRow.holds Try.pinned (OpenSpec.ofChange rateTrialsSpec)

/-- ITS FALSE NEIGHBOUR: 'it returns false'. Refute it at one input. -/
def rateTrialsWrong : ChangeSpec := { name := "rateTrials", fn := fun _ => fun
  | [d1, d2] => { results := [.lit (.bool false)], args := [d1, d2] }
  | _ => none }
def RateTrialsWrongFalsely : Prop := rateTrialsRow.holds Try.pinned (OpenSpec.ofChange rateTrialsWrong)

/-- 'noongunlaw06.RateBuys': WHATEVER THE INPUT: true; the input reads as it did. -/
def rateBuysSpec : ChangeSpec := { name := "rateBuys", fn := fun _ => fun
  | [d1, d2, d3, d4] => { results := [.lit (.bool true)], args := [d1, d2, d3, d4] }
  | _ => none }
def rateBuysRow : OpenClaim := { program := "ytbhdoafcjfcgfaa", sum := "b1b1ab2fe1f8c296e28c1e9aa04c839dc3c85a9622089aeacb21b47c5dfe7aaf", func := "noongun/noongunlaw06.RateBuys", spec := "rateBuys", unfollowed := true, recurses := true, apart := false }
def RateBuysSaid : Prop := rateBuysRow.holds Try.pinned (OpenSpec.ofChange rateBuysSpec)

/-- ITS FALSE NEIGHBOUR: 'it returns false'. Refute it at one input. -/
def rateBuysWrong : ChangeSpec := { name := "rateBuys", fn := fun _ => fun
  | [d1, d2, d3, d4] => { results := [.lit (.bool false)], args := [d1, d2, d3, d4] }
  | _ => none }
def RateBuysWrongFalsely : Prop := rateBuysRow.holds Try.pinned (OpenSpec.ofChange rateBuysWrong)

/-- 'noongunlaw06.RateOdd': WHATEVER THE INPUT: true; the input reads as it did. -/
def rateOddSpec : ChangeSpec := { name := "rateOdd", fn := fun _ => fun
  | [d1, d2, d3, d4] => { results := [.lit (.bool true)], args := [d1, d2, d3, d4] }
  | _ => none }
def rateOddRow : OpenClaim := { program := "ytbhdoafcjfcgfaa", sum := "b1b1ab2fe1f8c296e28c1e9aa04c839dc3c85a9622089aeacb21b47c5dfe7aaf", func := "noongun/noongunlaw06.RateOdd", spec := "rateOdd", unfollowed := true, recurses := true, apart := false }
def RateOddSaid : Prop := rateOddRow.holds Try.pinned (OpenSpec.ofChange rateOddSpec)

/-- ITS FALSE NEIGHBOUR: 'it returns false'. Refute it at one input. -/
def rateOddWrong : ChangeSpec := { name := "rateOdd", fn := fun _ => fun
  | [d1, d2, d3, d4] => { results := [.lit (.bool false)], args := [d1, d2, d3, d4] }
  | _ => none }
def RateOddWrongFalsely : Prop := rateOddRow.holds Try.pinned (OpenSpec.ofChange rateOddWrong)

/- THE SECOND FORM. 'bulk': how many values and letters a reading holds, each counted each time it is reached (what is shared counts as often as it is met; a slice's spare places count too). A statement '..UptoSaid' is the law's where the arguments, and the package variables that the reading takes, are together of bulk at most 1048576: NARROWER than '..Said'. Prove '..Said' where nothing that the law and all that it calls make is longer than what came in: it says more and counts as full. Else prove '..UptoSaid'. A law counts once. -/
mutual
def uptoBulk {H : Type} : DataW H → Nat
  | .lit (.string bytes) => bytes.length + 1
  | .lit _ => 1
  | .nil => 1
  | .ptr d => uptoBulk d + 1
  | .slice elems spare => uptoBulkAll elems + uptoBulkAll spare + 1
  | .agg parts => uptoBulkAll parts + 1
  | .iface _ d => uptoBulk d + 1
  | .map entries => uptoBulkEntries entries + 1
  | .held _ => 1
def uptoBulkAll {H : Type} : List (DataW H) → Nat
  | [] => 0
  | d :: r => uptoBulk d + uptoBulkAll r
def uptoBulkEntries {H : Type} : List (Lit × DataW H) → Nat
  | [] => 0
  | x :: r => uptoBulkEntry x + uptoBulkEntries r
def uptoBulkEntry {H : Type} : Lit × DataW H → Nat
  | (.string bytes, d) => bytes.length + uptoBulk d + 1
  | (_, d) => uptoBulk d + 1
 end
def uptoSmall : (H : Type) → List (DataW H) → Bool := fun _ ds => decide (uptoBulkAll ds ≤ 1048576)
def OpenSpec.upto (s : _root_.Go.ChangeSpec) : _root_.Go.OpenSpec := { _root_.Go.OpenSpec.ofChange s with cond := some uptoSmall }

/-- 'noongunlaw06.RateDays', WHERE WHAT IT READS IS OF BULK AT MOST 1048576: true; the input reads as it did. -/
def rateDaysUptoRow : OpenClaim := { program := "ytbhdoafcjfcgfaa", sum := "b1b1ab2fe1f8c296e28c1e9aa04c839dc3c85a9622089aeacb21b47c5dfe7aaf", func := "noongun/noongunlaw06.RateDays", spec := "rateDays", unfollowed := true, recurses := true, apart := false, narrowed := true }
def RateDaysUptoSaid : Prop := rateDaysUptoRow.holds Try.pinned (OpenSpec.upto rateDaysSpec)

/-- 'noongunlaw06.RateTrials', WHERE WHAT IT READS IS OF BULK AT MOST 1048576: true; the input reads as it did. -/
def rateTrialsUptoRow : OpenClaim := { program := "ytbhdoafcjfcgfaa", sum := "b1b1ab2fe1f8c296e28c1e9aa04c839dc3c85a9622089aeacb21b47c5dfe7aaf", func := "noongun/noongunlaw06.RateTrials", spec := "rateTrials", unfollowed := true, recurses := true, apart := false, narrowed := true }
def RateTrialsUptoSaid : Prop := rateTrialsUptoRow.holds Try.pinned (OpenSpec.upto rateTrialsSpec)

/-- 'noongunlaw06.RateBuys', WHERE WHAT IT READS IS OF BULK AT MOST 1048576: true; the input reads as it did. -/
def rateBuysUptoRow : OpenClaim := { program := "ytbhdoafcjfcgfaa", sum := "b1b1ab2fe1f8c296e28c1e9aa04c839dc3c85a9622089aeacb21b47c5dfe7aaf", func := "noongun/noongunlaw06.RateBuys", spec := "rateBuys", unfollowed := true, recurses := true, apart := false, narrowed := true }
def RateBuysUptoSaid : Prop := rateBuysUptoRow.holds Try.pinned (OpenSpec.upto rateBuysSpec)

/-- 'noongunlaw06.RateOdd', WHERE WHAT IT READS IS OF BULK AT MOST 1048576: true; the input reads as it did. -/
def rateOddUptoRow : OpenClaim := { program := "ytbhdoafcjfcgfaa", sum := "b1b1ab2fe1f8c296e28c1e9aa04c839dc3c85a9622089aeacb21b47c5dfe7aaf", func := "noongun/noongunlaw06.RateOdd", spec := "rateOdd", unfollowed := true, recurses := true, apart := false, narrowed := true }
def RateOddUptoSaid : Prop := rateOddUptoRow.holds Try.pinned (OpenSpec.upto rateOddSpec)

end Rows
end Go.Proofs.Ytbhdoafcjfcgfaa
