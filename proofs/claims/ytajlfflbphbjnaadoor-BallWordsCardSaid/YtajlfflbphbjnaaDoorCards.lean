/-
  DERIVED. GIVEN WITH THE SEED: THE CARDS: each row of YtajlfflbphbjnaaDoorRows.lean that lists a variable, with what it lists TIED to the program's text (the seventh form; the later family's looks); each row that meets fmt, with fmt's text TOLD by the authors' own Lean function (tested against real Go, not proved from fmt's source: count such statements apart). THE CARD IS WHAT COUNTS. Prove the row's statement (the work); the ties are given (YtajlfflbphbjnaaDoorTie.lean); close each card by the builder's one call (the guide's Derived/Test/ToyasCard.lean, 'card_holds'). Laid BY PROGRAM, IN A SANDBOX (cutbox-door.mjs). By AI agents, Wed Nov 11 2026. No macro, syntax, notation, axiom, sorry.
-/
import Derived.Test.YtajlfflbphbjnaaDoorRows
import GoSem.ClaimSeven
namespace Go.Proofs.YtajlfflbphbjnaaDoor
namespace Rows

/-- THE TIED CARD OF 'noongunlaw04.BallWords'. -/
def ballWordsCard : Claim7 := { stood := { row := ballWordsRow, standIns := [], harness := (true, "c5c8281f52daa3fc3cefe0b5e9137c12162d06b351f3d3b2cad616f33ee5ebf0"), looks := false }, kinds := [], alts := [], laidByText := true, laidKinds := [.data], laidTests := true, laidLooks := .later }
def BallWordsCardSaid : Prop := Claim7.holds Tryd.pinned (.plain (OpenSpec.ofChange ballWordsSpec)) ballWordsCard

/-- THE SECOND FORM's CARD OF 'noongunlaw04.BallWords'. -/
def ballWordsUptoCard : Claim7 := { stood := { row := ballWordsUptoRow, standIns := [], harness := (true, "c5c8281f52daa3fc3cefe0b5e9137c12162d06b351f3d3b2cad616f33ee5ebf0"), looks := false }, kinds := [], alts := [], laidByText := true, laidKinds := [.data], laidTests := true, laidLooks := .later }
def BallWordsUptoCardSaid : Prop := Claim7.holds Tryd.pinned (.plain (OpenSpec.upto ballWordsSpec)) ballWordsUptoCard
end Rows
end Go.Proofs.YtajlfflbphbjnaaDoor
