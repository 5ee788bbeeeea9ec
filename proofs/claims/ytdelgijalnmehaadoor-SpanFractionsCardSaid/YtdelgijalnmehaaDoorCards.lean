/-
  DERIVED. GIVEN WITH THE SEED: THE CARDS: each row of YtdelgijalnmehaaDoorRows.lean that lists a variable, with what it lists TIED to the program's text (the seventh form; the later family's looks); each row that meets fmt, with fmt's text TOLD by the authors' own Lean function (tested against real Go, not proved from fmt's source: count such statements apart). THE CARD IS WHAT COUNTS. Prove the row's statement (the work); the ties are given (YtdelgijalnmehaaDoorTie.lean); close each card by the builder's one call (the guide's Derived/Test/ToyasCard.lean, 'card_holds'). Laid BY PROGRAM, IN A SANDBOX (cutbox-door.mjs). By AI agents, Wed Nov 11 2026. No macro, syntax, notation, axiom, sorry.
-/
import Derived.Test.YtdelgijalnmehaaDoorRows
import GoSem.ClaimSeven
namespace Go.Proofs.YtdelgijalnmehaaDoor
namespace Rows

/-- THE TIED CARD OF 'noongunlaw01.SpanFractions'. -/
def spanFractionsCard : Claim7 := { stood := { row := spanFractionsRow, standIns := [], harness := (true, "76f24f687c5d9920a516ab55de4e9ddc34edc41586b608c0940c378d01c72d76"), looks := false }, kinds := [], alts := [], laidByText := true, laidKinds := [.data, .data, .data, .data], laidTests := true, laidLooks := .later }
def SpanFractionsCardSaid : Prop := Claim7.holds Tryd.pinned (.plain (OpenSpec.ofChange spanFractionsSpec)) spanFractionsCard

/-- THE TIED CARD OF 'noongunlaw01.SpanScales'. -/
def spanScalesCard : Claim7 := { stood := { row := spanScalesRow, standIns := [], harness := (true, "76f24f687c5d9920a516ab55de4e9ddc34edc41586b608c0940c378d01c72d76"), looks := false }, kinds := [], alts := [], laidByText := true, laidKinds := [.data, .data, .data, .data], laidTests := true, laidLooks := .later }
def SpanScalesCardSaid : Prop := Claim7.holds Tryd.pinned (.plain (OpenSpec.ofChange spanScalesSpec)) spanScalesCard

/-- THE TIED CARD OF 'noongunlaw01.SpanClocks'. -/
def spanClocksCard : Claim7 := { stood := { row := spanClocksRow, standIns := [], harness := (true, "76f24f687c5d9920a516ab55de4e9ddc34edc41586b608c0940c378d01c72d76"), looks := false }, kinds := [], alts := [], laidByText := true, laidKinds := [.data, .data, .data, .data], laidTests := true, laidLooks := .later }
def SpanClocksCardSaid : Prop := Claim7.holds Tryd.pinned (.plain (OpenSpec.ofChange spanClocksSpec)) spanClocksCard

/-- THE SECOND FORM's CARD OF 'noongunlaw01.SpanFractions'. -/
def spanFractionsUptoCard : Claim7 := { stood := { row := spanFractionsUptoRow, standIns := [], harness := (true, "76f24f687c5d9920a516ab55de4e9ddc34edc41586b608c0940c378d01c72d76"), looks := false }, kinds := [], alts := [], laidByText := true, laidKinds := [.data, .data, .data, .data], laidTests := true, laidLooks := .later }
def SpanFractionsUptoCardSaid : Prop := Claim7.holds Tryd.pinned (.plain (OpenSpec.upto spanFractionsSpec)) spanFractionsUptoCard

/-- THE SECOND FORM's CARD OF 'noongunlaw01.SpanScales'. -/
def spanScalesUptoCard : Claim7 := { stood := { row := spanScalesUptoRow, standIns := [], harness := (true, "76f24f687c5d9920a516ab55de4e9ddc34edc41586b608c0940c378d01c72d76"), looks := false }, kinds := [], alts := [], laidByText := true, laidKinds := [.data, .data, .data, .data], laidTests := true, laidLooks := .later }
def SpanScalesUptoCardSaid : Prop := Claim7.holds Tryd.pinned (.plain (OpenSpec.upto spanScalesSpec)) spanScalesUptoCard

/-- THE SECOND FORM's CARD OF 'noongunlaw01.SpanClocks'. -/
def spanClocksUptoCard : Claim7 := { stood := { row := spanClocksUptoRow, standIns := [], harness := (true, "76f24f687c5d9920a516ab55de4e9ddc34edc41586b608c0940c378d01c72d76"), looks := false }, kinds := [], alts := [], laidByText := true, laidKinds := [.data, .data, .data, .data], laidTests := true, laidLooks := .later }
def SpanClocksUptoCardSaid : Prop := Claim7.holds Tryd.pinned (.plain (OpenSpec.upto spanClocksSpec)) spanClocksUptoCard
end Rows
end Go.Proofs.YtdelgijalnmehaaDoor
