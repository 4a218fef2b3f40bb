/-
  DERIVED. GIVEN WITH THE SEED: THE CARDS: each row of YtgknhojjnnljkaaDoorRows.lean that lists a variable, with what it lists TIED to the program's text (the seventh form; the later family's looks); each row that meets fmt, with fmt's text TOLD by the authors' own Lean function (tested against real Go, not proved from fmt's source: count such statements apart). THE CARD IS WHAT COUNTS. Prove the row's statement (the work); the ties are given (YtgknhojjnnljkaaDoorTie.lean); close each card by the builder's one call (the guide's Derived/Test/ToyasCard.lean, 'card_holds'). Laid BY PROGRAM, IN A SANDBOX (cutbox-door.mjs). By AI agents, Wed Nov 11 2026. No macro, syntax, notation, axiom, sorry.
-/
import Derived.Test.YtgknhojjnnljkaaDoorRows
import GoSem.ClaimSeven
namespace Go.Proofs.YtgknhojjnnljkaaDoor
namespace Rows

/-- THE TIED CARD OF 'truchmanlaw19.CellsActs'. -/
def cellsActsCard : Claim7 := { stood := { row := cellsActsRow, standIns := [], harness := (true, "4bc2fc86b3b4940c01571546720f72d44a2a3ba9418a1f010348e1712e7fd1e9"), looks := true }, kinds := [], alts := [], laidByText := true, laidKinds := [.data, .sentinel, .sentinel, .sentinel, .sentinel, .sentinel, .sentinel, .sentinel, .sentinel, .sentinel, .sentinel, .sentinel, .sentinel, .sentinel, .sentinel, .sentinel, .sentinel, .pinned], laidTests := true, laidLooks := .later }
def CellsActsCardSaid : Prop := Claim7.holds Tryd.pinned (.plain (OpenSpec.ofChange cellsActsSpec)) cellsActsCard

/-- THE TIED CARD OF 'truchmanlaw19.CellsParts'. -/
def cellsPartsCard : Claim7 := { stood := { row := cellsPartsRow, standIns := [], harness := (true, "4bc2fc86b3b4940c01571546720f72d44a2a3ba9418a1f010348e1712e7fd1e9"), looks := true }, kinds := [], alts := [], laidByText := true, laidKinds := [.data, .sentinel, .pinned], laidTests := true, laidLooks := .later }
def CellsPartsCardSaid : Prop := Claim7.holds Tryd.pinned (.plain (OpenSpec.ofChange cellsPartsSpec)) cellsPartsCard

/-- THE TIED CARD OF 'truchmanlaw19.CellsPlain'. -/
def cellsPlainCard : Claim7 := { stood := { row := cellsPlainRow, standIns := [], harness := (true, "4bc2fc86b3b4940c01571546720f72d44a2a3ba9418a1f010348e1712e7fd1e9"), looks := true }, kinds := [], alts := [], laidByText := true, laidKinds := [.data, .sentinel, .pinned], laidTests := true, laidLooks := .later }
def CellsPlainCardSaid : Prop := Claim7.holds Tryd.pinned (.plain (OpenSpec.ofChange cellsPlainSpec)) cellsPlainCard

/-- THE SECOND FORM's CARD OF 'truchmanlaw19.CellsActs'. -/
def cellsActsUptoCard : Claim7 := { stood := { row := cellsActsUptoRow, standIns := [], harness := (true, "4bc2fc86b3b4940c01571546720f72d44a2a3ba9418a1f010348e1712e7fd1e9"), looks := true }, kinds := [], alts := [], laidByText := true, laidKinds := [.data, .sentinel, .sentinel, .sentinel, .sentinel, .sentinel, .sentinel, .sentinel, .sentinel, .sentinel, .sentinel, .sentinel, .sentinel, .sentinel, .sentinel, .sentinel, .sentinel, .pinned], laidTests := true, laidLooks := .later }
def CellsActsUptoCardSaid : Prop := Claim7.holds Tryd.pinned (.plain (OpenSpec.upto cellsActsSpec)) cellsActsUptoCard

/-- THE SECOND FORM's CARD OF 'truchmanlaw19.CellsParts'. -/
def cellsPartsUptoCard : Claim7 := { stood := { row := cellsPartsUptoRow, standIns := [], harness := (true, "4bc2fc86b3b4940c01571546720f72d44a2a3ba9418a1f010348e1712e7fd1e9"), looks := true }, kinds := [], alts := [], laidByText := true, laidKinds := [.data, .sentinel, .pinned], laidTests := true, laidLooks := .later }
def CellsPartsUptoCardSaid : Prop := Claim7.holds Tryd.pinned (.plain (OpenSpec.upto cellsPartsSpec)) cellsPartsUptoCard

/-- THE SECOND FORM's CARD OF 'truchmanlaw19.CellsPlain'. -/
def cellsPlainUptoCard : Claim7 := { stood := { row := cellsPlainUptoRow, standIns := [], harness := (true, "4bc2fc86b3b4940c01571546720f72d44a2a3ba9418a1f010348e1712e7fd1e9"), looks := true }, kinds := [], alts := [], laidByText := true, laidKinds := [.data, .sentinel, .pinned], laidTests := true, laidLooks := .later }
def CellsPlainUptoCardSaid : Prop := Claim7.holds Tryd.pinned (.plain (OpenSpec.upto cellsPlainSpec)) cellsPlainUptoCard
end Rows
end Go.Proofs.YtgknhojjnnljkaaDoor
