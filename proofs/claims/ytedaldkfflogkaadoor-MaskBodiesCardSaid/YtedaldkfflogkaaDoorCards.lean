/-
  DERIVED. GIVEN WITH THE SEED: THE CARDS: each row of YtedaldkfflogkaaDoorRows.lean that lists a variable, with what it lists TIED to the program's text (the seventh form; the later family's looks); each row that meets fmt, with fmt's text TOLD by the authors' own Lean function (tested against real Go, not proved from fmt's source: count such statements apart). THE CARD IS WHAT COUNTS. Prove the row's statement (the work); the ties are given (YtedaldkfflogkaaDoorTie.lean); close each card by the builder's one call (the guide's Derived/Test/ToyasCard.lean, 'card_holds'). Laid BY PROGRAM, IN A SANDBOX (cutbox-door.mjs). By AI agents, Wed Nov 11 2026. No macro, syntax, notation, axiom, sorry.
-/
import Derived.Test.YtedaldkfflogkaaDoorRows
import GoSem.ClaimSeven
namespace Go.Proofs.YtedaldkfflogkaaDoor
namespace Rows

/-- THE TIED CARD OF 'truchmanlaw16.MaskBodies'. -/
def maskBodiesCard : Claim7 := { stood := { row := maskBodiesRow, standIns := [], harness := (true, "b07e3b12988ed8bfc9f990a73bb8658eef87449936bab8b0009979e404a3a119"), looks := true }, kinds := [], alts := [], laidByText := true, laidKinds := [.sentinel, .sentinel, .sentinel, .sentinel, .sentinel, .sentinel, .sentinel, .sentinel, .sentinel, .sentinel, .sentinel, .sentinel, .sentinel, .sentinel, .sentinel, .sentinel], laidTests := true, laidLooks := .later }
def MaskBodiesCardSaid : Prop := Claim7.holds Tryd.pinned (.plain (OpenSpec.ofChange maskBodiesSpec)) maskBodiesCard

/-- THE TIED CARD OF 'truchmanlaw16.MaskBack'. -/
def maskBackCard : Claim7 := { stood := { row := maskBackRow, standIns := [], harness := (true, "b07e3b12988ed8bfc9f990a73bb8658eef87449936bab8b0009979e404a3a119"), looks := true }, kinds := [], alts := [], laidByText := true, laidKinds := [.sentinel, .sentinel, .sentinel], laidTests := true, laidLooks := .later }
def MaskBackCardSaid : Prop := Claim7.holds Tryd.pinned (.plain (OpenSpec.ofChange maskBackSpec)) maskBackCard

/-- THE SECOND FORM's CARD OF 'truchmanlaw16.MaskBodies'. -/
def maskBodiesUptoCard : Claim7 := { stood := { row := maskBodiesUptoRow, standIns := [], harness := (true, "b07e3b12988ed8bfc9f990a73bb8658eef87449936bab8b0009979e404a3a119"), looks := true }, kinds := [], alts := [], laidByText := true, laidKinds := [.sentinel, .sentinel, .sentinel, .sentinel, .sentinel, .sentinel, .sentinel, .sentinel, .sentinel, .sentinel, .sentinel, .sentinel, .sentinel, .sentinel, .sentinel, .sentinel], laidTests := true, laidLooks := .later }
def MaskBodiesUptoCardSaid : Prop := Claim7.holds Tryd.pinned (.plain (OpenSpec.upto maskBodiesSpec)) maskBodiesUptoCard

/-- THE SECOND FORM's CARD OF 'truchmanlaw16.MaskBack'. -/
def maskBackUptoCard : Claim7 := { stood := { row := maskBackUptoRow, standIns := [], harness := (true, "b07e3b12988ed8bfc9f990a73bb8658eef87449936bab8b0009979e404a3a119"), looks := true }, kinds := [], alts := [], laidByText := true, laidKinds := [.sentinel, .sentinel, .sentinel], laidTests := true, laidLooks := .later }
def MaskBackUptoCardSaid : Prop := Claim7.holds Tryd.pinned (.plain (OpenSpec.upto maskBackSpec)) maskBackUptoCard
end Rows
end Go.Proofs.YtedaldkfflogkaaDoor
