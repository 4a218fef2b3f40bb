/-
  DERIVED. GIVEN WITH THE SEED: THE CARDS: each row of YthbmhoeaimdjmaaDoorRows.lean that lists a variable, with what it lists TIED to the program's text (the seventh form; the later family's looks); each row that meets fmt, with fmt's text TOLD by the authors' own Lean function (tested against real Go, not proved from fmt's source: count such statements apart). THE CARD IS WHAT COUNTS. Prove the row's statement (the work); the ties are given (YthbmhoeaimdjmaaDoorTie.lean); close each card by the builder's one call (the guide's Derived/Test/ToyasCard.lean, 'card_holds'). Laid BY PROGRAM, IN A SANDBOX (cutbox-door.mjs). By AI agents, Wed Nov 11 2026. No macro, syntax, notation, axiom, sorry.
-/
import Derived.Test.YthbmhoeaimdjmaaDoorRows
import GoSem.ClaimSeven
namespace Go.Proofs.YthbmhoeaimdjmaaDoor
namespace Rows

/-- THE TIED CARD OF 'truchmanlaw17.StatusBodies'. -/
def statusBodiesCard : Claim7 := { stood := { row := statusBodiesRow, standIns := [], harness := (true, "5b851cd4f1956ea07e6b492fa4b2bf3a13b643510fc9fe49fa9ffd8907d67437"), looks := true }, kinds := [], alts := [], laidByText := true, laidKinds := [.data, .data, .data, .sentinel, .sentinel, .sentinel, .sentinel, .sentinel, .sentinel, .sentinel, .sentinel, .sentinel, .sentinel, .sentinel, .sentinel, .sentinel, .sentinel, .sentinel, .sentinel, .data, .data], laidTests := true, laidLooks := .later }
def StatusBodiesCardSaid : Prop := Claim7.holds Tryd.pinned (.plain (OpenSpec.ofChange statusBodiesSpec)) statusBodiesCard

/-- THE TIED CARD OF 'truchmanlaw17.StatusTables'. -/
def statusTablesCard : Claim7 := { stood := { row := statusTablesRow, standIns := [], harness := (true, "5b851cd4f1956ea07e6b492fa4b2bf3a13b643510fc9fe49fa9ffd8907d67437"), looks := true }, kinds := [], alts := [], laidByText := true, laidKinds := [.data, .data, .data, .sentinel, .sentinel, .sentinel, .sentinel, .sentinel, .sentinel, .sentinel, .sentinel, .sentinel, .sentinel, .sentinel, .sentinel, .sentinel, .sentinel, .sentinel, .sentinel, .data, .data, .data, .data], laidTests := true, laidLooks := .later }
def StatusTablesCardSaid : Prop := Claim7.holds Tryd.pinned (.plain (OpenSpec.ofChange statusTablesSpec)) statusTablesCard

/-- THE SECOND FORM's CARD OF 'truchmanlaw17.StatusBodies'. -/
def statusBodiesUptoCard : Claim7 := { stood := { row := statusBodiesUptoRow, standIns := [], harness := (true, "5b851cd4f1956ea07e6b492fa4b2bf3a13b643510fc9fe49fa9ffd8907d67437"), looks := true }, kinds := [], alts := [], laidByText := true, laidKinds := [.data, .data, .data, .sentinel, .sentinel, .sentinel, .sentinel, .sentinel, .sentinel, .sentinel, .sentinel, .sentinel, .sentinel, .sentinel, .sentinel, .sentinel, .sentinel, .sentinel, .sentinel, .data, .data], laidTests := true, laidLooks := .later }
def StatusBodiesUptoCardSaid : Prop := Claim7.holds Tryd.pinned (.plain (OpenSpec.upto statusBodiesSpec)) statusBodiesUptoCard

/-- THE SECOND FORM's CARD OF 'truchmanlaw17.StatusTables'. -/
def statusTablesUptoCard : Claim7 := { stood := { row := statusTablesUptoRow, standIns := [], harness := (true, "5b851cd4f1956ea07e6b492fa4b2bf3a13b643510fc9fe49fa9ffd8907d67437"), looks := true }, kinds := [], alts := [], laidByText := true, laidKinds := [.data, .data, .data, .sentinel, .sentinel, .sentinel, .sentinel, .sentinel, .sentinel, .sentinel, .sentinel, .sentinel, .sentinel, .sentinel, .sentinel, .sentinel, .sentinel, .sentinel, .sentinel, .data, .data, .data, .data], laidTests := true, laidLooks := .later }
def StatusTablesUptoCardSaid : Prop := Claim7.holds Tryd.pinned (.plain (OpenSpec.upto statusTablesSpec)) statusTablesUptoCard
end Rows
end Go.Proofs.YthbmhoeaimdjmaaDoor
