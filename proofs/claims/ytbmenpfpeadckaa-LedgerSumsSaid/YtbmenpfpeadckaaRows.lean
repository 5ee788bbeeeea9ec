/-
  No cell of these rows narrows 'for every input' (looked for: loops, veiled, ifaces, maps, wideKeys, modest, calm, conditions, laid).
  DERIVED. THE GIVEN ROWS OF THIS SEAT. 5 by the template 'for every input the law returns true; each argument reads behind the call as it read before'; 0 by the template 'total and deterministic' (their statements: YtbmenpfpeadckaaTotals.lean).
  GIVEN WITH THE SEED: the statements are not yours to turn. If you find one false, say at which input.
  Laid BY PROGRAM, IN A SANDBOX (cutbox-rows.mjs): the forced cells as the released guide's own fill.sh prints them over the translation dae344edd8379752… (all of the seat's roots in one cut). By AI agents, Wed Nov 11 2026. No macro, syntax, notation, axiom, sorry.
-/
import Derived.Test.YtbmenpfpeadckaaChecked
import GoSem.Claim
import GoSem.ClaimJoined
import GoSem.ClaimMapViews
import Derived.JoinedTies
import Derived.KernelRfl
namespace Go.Proofs.Ytbmenpfpeadckaa
/- THE CELL 'sum', in the pinned program and in every row, IS THE sha256 OF THE DUMP (.gsa) THAT YtbmenpfpeadckaaProg.lean LOADS. Nothing in Lean hashes anything: it is a label: what it is worth is what the hold of that sum in a sandbox is worth. -/
noncomputable def Try.pinned : Pinned := { name := "ytbmenpfpeadckaa", sum := "dae344edd837975293fe4e43603865aa2896ed121a663709a1547f0acfb216ab", checked := Try.checked }
namespace Rows
def none {H : Type} : Left H := { results := [], args := [] }

/-- 'noongunlaw08.NightBest': WHATEVER THE INPUT: true; the input reads as it did. -/
def nightBestSpec : ChangeSpec := { name := "nightBest", fn := fun _ => fun
  | [d1, d2, d3, d4] => { results := [.lit (.bool true)], args := [d1, d2, d3, d4] }
  | _ => none }
def nightBestRow : OpenClaim := { program := "ytbmenpfpeadckaa", sum := "dae344edd837975293fe4e43603865aa2896ed121a663709a1547f0acfb216ab", func := "noongun/noongunlaw08.NightBest", spec := "nightBest", unfollowed := true, recurses := true, plainKeys := false, apart := false }
def NightBestSaid : Prop := nightBestRow.holds Try.pinned (OpenSpec.ofChange nightBestSpec)

/-- ITS FALSE NEIGHBOUR: 'it returns false'. Refute it at one input. -/
def nightBestWrong : ChangeSpec := { name := "nightBest", fn := fun _ => fun
  | [d1, d2, d3, d4] => { results := [.lit (.bool false)], args := [d1, d2, d3, d4] }
  | _ => none }
def NightBestWrongFalsely : Prop := nightBestRow.holds Try.pinned (OpenSpec.ofChange nightBestWrong)

/-- 'noongunlaw08.NightWith': WHATEVER THE INPUT: true; the input reads as it did. -/
def nightWithSpec : ChangeSpec := { name := "nightWith", fn := fun _ => fun
  | [d1, d2, d3, d4] => { results := [.lit (.bool true)], args := [d1, d2, d3, d4] }
  | _ => none }
def nightWithRow : OpenClaim := { program := "ytbmenpfpeadckaa", sum := "dae344edd837975293fe4e43603865aa2896ed121a663709a1547f0acfb216ab", func := "noongun/noongunlaw08.NightWith", spec := "nightWith", unfollowed := true, recurses := true, plainKeys := false, apart := false }
def NightWithSaid : Prop := nightWithRow.holds Try.pinned (OpenSpec.ofChange nightWithSpec)

/-- ITS FALSE NEIGHBOUR: 'it returns false'. Refute it at one input. -/
def nightWithWrong : ChangeSpec := { name := "nightWith", fn := fun _ => fun
  | [d1, d2, d3, d4] => { results := [.lit (.bool false)], args := [d1, d2, d3, d4] }
  | _ => none }
def NightWithWrongFalsely : Prop := nightWithRow.holds Try.pinned (OpenSpec.ofChange nightWithWrong)

/-- 'noongunlaw08.NightMore': WHATEVER THE INPUT: true; the input reads as it did. -/
def nightMoreSpec : ChangeSpec := { name := "nightMore", fn := fun _ => fun
  | [d1, d2, d3, d4, d5] => { results := [.lit (.bool true)], args := [d1, d2, d3, d4, d5] }
  | _ => none }
def nightMoreRow : OpenClaim := { program := "ytbmenpfpeadckaa", sum := "dae344edd837975293fe4e43603865aa2896ed121a663709a1547f0acfb216ab", func := "noongun/noongunlaw08.NightMore", spec := "nightMore", unfollowed := true, recurses := true, plainKeys := false, apart := false }
def NightMoreSaid : Prop := nightMoreRow.holds Try.pinned (OpenSpec.ofChange nightMoreSpec)

/-- ITS FALSE NEIGHBOUR: 'it returns false'. Refute it at one input. -/
def nightMoreWrong : ChangeSpec := { name := "nightMore", fn := fun _ => fun
  | [d1, d2, d3, d4, d5] => { results := [.lit (.bool false)], args := [d1, d2, d3, d4, d5] }
  | _ => none }
def NightMoreWrongFalsely : Prop := nightMoreRow.holds Try.pinned (OpenSpec.ofChange nightMoreWrong)

/-- 'noongunlaw09.LedgerSums': WHATEVER THE INPUT: true; the input reads as it did. -/
def ledgerSumsSpec : ChangeSpec := { name := "ledgerSums", fn := fun _ => fun
  | [d1, d2, d3, d4] => { results := [.lit (.bool true)], args := [d1, d2, d3, d4] }
  | _ => none }
def ledgerSumsRow : OpenClaim := { program := "ytbmenpfpeadckaa", sum := "dae344edd837975293fe4e43603865aa2896ed121a663709a1547f0acfb216ab", func := "noongun/noongunlaw09.LedgerSums", spec := "ledgerSums", unfollowed := true, recurses := true, plainKeys := false, apart := false }
def LedgerSumsSaid : Prop := ledgerSumsRow.holds Try.pinned (OpenSpec.ofChange ledgerSumsSpec)

/-- ITS FALSE NEIGHBOUR: 'it returns false'. Refute it at one input. -/
def ledgerSumsWrong : ChangeSpec := { name := "ledgerSums", fn := fun _ => fun
  | [d1, d2, d3, d4] => { results := [.lit (.bool false)], args := [d1, d2, d3, d4] }
  | _ => none }
def LedgerSumsWrongFalsely : Prop := ledgerSumsRow.holds Try.pinned (OpenSpec.ofChange ledgerSumsWrong)

/-- 'noongunlaw09.LedgerLetters': WHATEVER THE INPUT: true; the input reads as it did. -/
def ledgerLettersSpec : ChangeSpec := { name := "ledgerLetters", fn := fun _ => fun
  | [d1, d2] => { results := [.lit (.bool true)], args := [d1, d2] }
  | _ => none }
def ledgerLettersRow : OpenClaim := { program := "ytbmenpfpeadckaa", sum := "dae344edd837975293fe4e43603865aa2896ed121a663709a1547f0acfb216ab", func := "noongun/noongunlaw09.LedgerLetters", spec := "ledgerLetters", unfollowed := true, recurses := true, plainKeys := false, apart := false }
def LedgerLettersSaid : Prop := ledgerLettersRow.holds Try.pinned (OpenSpec.ofChange ledgerLettersSpec)

/-- ITS FALSE NEIGHBOUR: 'it returns false'. Refute it at one input. -/
def ledgerLettersWrong : ChangeSpec := { name := "ledgerLetters", fn := fun _ => fun
  | [d1, d2] => { results := [.lit (.bool false)], args := [d1, d2] }
  | _ => none }
def LedgerLettersWrongFalsely : Prop := ledgerLettersRow.holds Try.pinned (OpenSpec.ofChange ledgerLettersWrong)

/- THE SECOND FORM. 'bulk': how many values and letters a reading holds, each counted each time it is reached (what is shared counts as often as it is met; a slice's spare places count too). A statement '..UptoSaid' is the law's where the arguments, and the package variables that the reading takes, are together of bulk at most 1048576: NARROWER than '..Said'. Prove '..Said' where nothing that the law and all that it calls make is longer than what came in: it says more and counts as full. Else prove '..UptoSaid'. A law counts once. -/
mutual
def uptoBulk {H : Type} : DataW H → Nat
  | .lit (.string bytes) => bytes.length + 1
  | .lit _ => 1
  | .nil => 1
  | .ptr d => uptoBulk d + 1
  | .slice elems spare => uptoBulkAll elems + uptoBulkAll spare + 1
  | .agg parts => uptoBulkAll parts + 1
  | .iface _ d => uptoBulk d + 1
  | .map entries => uptoBulkEntries entries + 1
  | .held _ => 1
def uptoBulkAll {H : Type} : List (DataW H) → Nat
  | [] => 0
  | d :: r => uptoBulk d + uptoBulkAll r
def uptoBulkEntries {H : Type} : List (Lit × DataW H) → Nat
  | [] => 0
  | x :: r => uptoBulkEntry x + uptoBulkEntries r
def uptoBulkEntry {H : Type} : Lit × DataW H → Nat
  | (.string bytes, d) => bytes.length + uptoBulk d + 1
  | (_, d) => uptoBulk d + 1
 end
def uptoSmall : (H : Type) → List (DataW H) → Bool := fun _ ds => decide (uptoBulkAll ds ≤ 1048576)
def OpenSpec.upto (s : _root_.Go.ChangeSpec) : _root_.Go.OpenSpec := { _root_.Go.OpenSpec.ofChange s with cond := some uptoSmall }

/-- 'noongunlaw08.NightBest', WHERE WHAT IT READS IS OF BULK AT MOST 1048576: true; the input reads as it did. -/
def nightBestUptoRow : OpenClaim := { program := "ytbmenpfpeadckaa", sum := "dae344edd837975293fe4e43603865aa2896ed121a663709a1547f0acfb216ab", func := "noongun/noongunlaw08.NightBest", spec := "nightBest", unfollowed := true, recurses := true, plainKeys := false, apart := false, narrowed := true }
def NightBestUptoSaid : Prop := nightBestUptoRow.holds Try.pinned (OpenSpec.upto nightBestSpec)

/-- 'noongunlaw08.NightWith', WHERE WHAT IT READS IS OF BULK AT MOST 1048576: true; the input reads as it did. -/
def nightWithUptoRow : OpenClaim := { program := "ytbmenpfpeadckaa", sum := "dae344edd837975293fe4e43603865aa2896ed121a663709a1547f0acfb216ab", func := "noongun/noongunlaw08.NightWith", spec := "nightWith", unfollowed := true, recurses := true, plainKeys := false, apart := false, narrowed := true }
def NightWithUptoSaid : Prop := nightWithUptoRow.holds Try.pinned (OpenSpec.upto nightWithSpec)

/-- 'noongunlaw08.NightMore', WHERE WHAT IT READS IS OF BULK AT MOST 1048576: true; the input reads as it did. -/
def nightMoreUptoRow : OpenClaim := { program := "ytbmenpfpeadckaa", sum := "dae344edd837975293fe4e43603865aa2896ed121a663709a1547f0acfb216ab", func := "noongun/noongunlaw08.NightMore", spec := "nightMore", unfollowed := true, recurses := true, plainKeys := false, apart := false, narrowed := true }
def NightMoreUptoSaid : Prop := nightMoreUptoRow.holds Try.pinned (OpenSpec.upto nightMoreSpec)

/-- 'noongunlaw09.LedgerSums', WHERE WHAT IT READS IS OF BULK AT MOST 1048576: true; the input reads as it did. -/
def ledgerSumsUptoRow : OpenClaim := { program := "ytbmenpfpeadckaa", sum := "dae344edd837975293fe4e43603865aa2896ed121a663709a1547f0acfb216ab", func := "noongun/noongunlaw09.LedgerSums", spec := "ledgerSums", unfollowed := true, recurses := true, plainKeys := false, apart := false, narrowed := true }
def LedgerSumsUptoSaid : Prop := ledgerSumsUptoRow.holds Try.pinned (OpenSpec.upto ledgerSumsSpec)

/-- 'noongunlaw09.LedgerLetters', WHERE WHAT IT READS IS OF BULK AT MOST 1048576: true; the input reads as it did. -/
def ledgerLettersUptoRow : OpenClaim := { program := "ytbmenpfpeadckaa", sum := "dae344edd837975293fe4e43603865aa2896ed121a663709a1547f0acfb216ab", func := "noongun/noongunlaw09.LedgerLetters", spec := "ledgerLetters", unfollowed := true, recurses := true, plainKeys := false, apart := false, narrowed := true }
def LedgerLettersUptoSaid : Prop := ledgerLettersUptoRow.holds Try.pinned (OpenSpec.upto ledgerLettersSpec)

end Rows
end Go.Proofs.Ytbmenpfpeadckaa
