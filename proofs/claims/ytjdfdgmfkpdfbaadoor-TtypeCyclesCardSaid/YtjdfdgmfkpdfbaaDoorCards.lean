/-
  DERIVED. GIVEN WITH THE SEED: THE CARDS: each row of YtjdfdgmfkpdfbaaDoorRows.lean that lists a variable, with what it lists TIED to the program's text (the seventh form; the later family's looks); each row that meets fmt, with fmt's text TOLD by the authors' own Lean function (tested against real Go, not proved from fmt's source: count such statements apart). THE CARD IS WHAT COUNTS. Prove the row's statement (the work); the ties are given (YtjdfdgmfkpdfbaaDoorTie.lean); close each card by the builder's one call (the guide's Derived/Test/ToyasCard.lean, 'card_holds'). Laid BY PROGRAM, IN A SANDBOX (cutbox-door.mjs). By AI agents, Wed Nov 11 2026. No macro, syntax, notation, axiom, sorry.
-/
import Derived.Test.YtjdfdgmfkpdfbaaDoorRows
import GoSem.ClaimSeven
namespace Go.Proofs.YtjdfdgmfkpdfbaaDoor
namespace Rows

/-- THE TIED CARD OF 'truchmanlaw13.TtypeCycles'. -/
def ttypeCyclesCard : Claim7 := { stood := { row := ttypeCyclesRow, standIns := [], harness := (true, "7a284566115eb70fec5f3f6b0ca5a8bf56b2650f5b5da9128bd5532b0b464afb"), looks := true }, kinds := [], alts := [], laidByText := true, laidKinds := [.sentinel, .sentinel, .sentinel, .sentinel, .sentinel, .sentinel, .sentinel, .sentinel, .sentinel, .sentinel, .sentinel, .sentinel, .sentinel, .sentinel, .sentinel, .sentinel], laidTests := true, laidLooks := .later }
def TtypeCyclesCardSaid : Prop := Claim7.holds Tryd.pinned (.plain (OpenSpec.ofChange ttypeCyclesSpec)) ttypeCyclesCard

/-- THE TIED CARD OF 'truchmanlaw13.TtypeBodies'. -/
def ttypeBodiesCard : Claim7 := { stood := { row := ttypeBodiesRow, standIns := [], harness := (true, "7a284566115eb70fec5f3f6b0ca5a8bf56b2650f5b5da9128bd5532b0b464afb"), looks := true }, kinds := [], alts := [], laidByText := true, laidKinds := [.sentinel, .sentinel, .sentinel, .sentinel, .sentinel, .sentinel, .sentinel, .sentinel, .sentinel, .sentinel, .sentinel, .sentinel, .sentinel, .sentinel, .sentinel, .sentinel], laidTests := true, laidLooks := .later }
def TtypeBodiesCardSaid : Prop := Claim7.holds Tryd.pinned (.plain (OpenSpec.ofChange ttypeBodiesSpec)) ttypeBodiesCard

/-- THE TIED CARD OF 'truchmanlaw13.TtypeGathers'. -/
def ttypeGathersCard : Claim7 := { stood := { row := ttypeGathersRow, standIns := [], harness := (true, "7a284566115eb70fec5f3f6b0ca5a8bf56b2650f5b5da9128bd5532b0b464afb"), looks := true }, kinds := [], alts := [], laidByText := true, laidKinds := [.sentinel, .sentinel, .sentinel, .sentinel, .sentinel], laidTests := true, laidLooks := .later }
def TtypeGathersCardSaid : Prop := Claim7.holds Tryd.pinned (.plain (OpenSpec.ofChange ttypeGathersSpec)) ttypeGathersCard

/-- THE SECOND FORM's CARD OF 'truchmanlaw13.TtypeCycles'. -/
def ttypeCyclesUptoCard : Claim7 := { stood := { row := ttypeCyclesUptoRow, standIns := [], harness := (true, "7a284566115eb70fec5f3f6b0ca5a8bf56b2650f5b5da9128bd5532b0b464afb"), looks := true }, kinds := [], alts := [], laidByText := true, laidKinds := [.sentinel, .sentinel, .sentinel, .sentinel, .sentinel, .sentinel, .sentinel, .sentinel, .sentinel, .sentinel, .sentinel, .sentinel, .sentinel, .sentinel, .sentinel, .sentinel], laidTests := true, laidLooks := .later }
def TtypeCyclesUptoCardSaid : Prop := Claim7.holds Tryd.pinned (.plain (OpenSpec.upto ttypeCyclesSpec)) ttypeCyclesUptoCard

/-- THE SECOND FORM's CARD OF 'truchmanlaw13.TtypeBodies'. -/
def ttypeBodiesUptoCard : Claim7 := { stood := { row := ttypeBodiesUptoRow, standIns := [], harness := (true, "7a284566115eb70fec5f3f6b0ca5a8bf56b2650f5b5da9128bd5532b0b464afb"), looks := true }, kinds := [], alts := [], laidByText := true, laidKinds := [.sentinel, .sentinel, .sentinel, .sentinel, .sentinel, .sentinel, .sentinel, .sentinel, .sentinel, .sentinel, .sentinel, .sentinel, .sentinel, .sentinel, .sentinel, .sentinel], laidTests := true, laidLooks := .later }
def TtypeBodiesUptoCardSaid : Prop := Claim7.holds Tryd.pinned (.plain (OpenSpec.upto ttypeBodiesSpec)) ttypeBodiesUptoCard

/-- THE SECOND FORM's CARD OF 'truchmanlaw13.TtypeGathers'. -/
def ttypeGathersUptoCard : Claim7 := { stood := { row := ttypeGathersUptoRow, standIns := [], harness := (true, "7a284566115eb70fec5f3f6b0ca5a8bf56b2650f5b5da9128bd5532b0b464afb"), looks := true }, kinds := [], alts := [], laidByText := true, laidKinds := [.sentinel, .sentinel, .sentinel, .sentinel, .sentinel], laidTests := true, laidLooks := .later }
def TtypeGathersUptoCardSaid : Prop := Claim7.holds Tryd.pinned (.plain (OpenSpec.upto ttypeGathersSpec)) ttypeGathersUptoCard
end Rows
end Go.Proofs.YtjdfdgmfkpdfbaaDoor
