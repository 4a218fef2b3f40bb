/-
  DERIVED. GIVEN WITH THE SEED: THE CARDS: each row of YtdcjmfbdmejjjaaDoorRows.lean that lists a variable, with what it lists TIED to the program's text (the seventh form; the later family's looks); each row that meets fmt, with fmt's text TOLD by the authors' own Lean function (tested against real Go, not proved from fmt's source: count such statements apart). THE CARD IS WHAT COUNTS. Prove the row's statement (the work); the ties are given (YtdcjmfbdmejjjaaDoorTie.lean); close each card by the builder's one call (the guide's Derived/Test/ToyasCard.lean, 'card_holds'). Laid BY PROGRAM, IN A SANDBOX (cutbox-door.mjs). By AI agents, Wed Nov 11 2026. No macro, syntax, notation, axiom, sorry.
-/
import Derived.Test.YtdcjmfbdmejjjaaDoorRows
import GoSem.ClaimSeven
namespace Go.Proofs.YtdcjmfbdmejjjaaDoor
namespace Rows

/-- THE TIED CARD OF 'truchmanlaw02.TimersActs'. -/
def timersActsCard : Claim7 := { stood := { row := timersActsRow, standIns := [], harness := (true, "84b1f552ff2249f6fb8184866e9552ba698a5f2dd53f451df985040f46b6fc12"), looks := true }, kinds := [], alts := [], laidByText := true, laidKinds := [.sentinel, .sentinel, .sentinel, .sentinel, .sentinel, .sentinel, .sentinel, .sentinel, .sentinel, .sentinel, .sentinel, .sentinel, .sentinel, .sentinel, .sentinel, .sentinel], laidTests := true, laidLooks := .later }
def TimersActsCardSaid : Prop := Claim7.holds Tryd.pinned (.plain (OpenSpec.ofChange timersActsSpec)) timersActsCard

/-- THE TIED CARD OF 'truchmanlaw02.TimersNext'. -/
def timersNextCard : Claim7 := { stood := { row := timersNextRow, standIns := [], harness := (true, "84b1f552ff2249f6fb8184866e9552ba698a5f2dd53f451df985040f46b6fc12"), looks := true }, kinds := [], alts := [], laidByText := true, laidKinds := [.sentinel, .sentinel], laidTests := true, laidLooks := .later }
def TimersNextCardSaid : Prop := Claim7.holds Tryd.pinned (.plain (OpenSpec.ofChange timersNextSpec)) timersNextCard

/-- THE SECOND FORM's CARD OF 'truchmanlaw02.TimersActs'. -/
def timersActsUptoCard : Claim7 := { stood := { row := timersActsUptoRow, standIns := [], harness := (true, "84b1f552ff2249f6fb8184866e9552ba698a5f2dd53f451df985040f46b6fc12"), looks := true }, kinds := [], alts := [], laidByText := true, laidKinds := [.sentinel, .sentinel, .sentinel, .sentinel, .sentinel, .sentinel, .sentinel, .sentinel, .sentinel, .sentinel, .sentinel, .sentinel, .sentinel, .sentinel, .sentinel, .sentinel], laidTests := true, laidLooks := .later }
def TimersActsUptoCardSaid : Prop := Claim7.holds Tryd.pinned (.plain (OpenSpec.upto timersActsSpec)) timersActsUptoCard

/-- THE SECOND FORM's CARD OF 'truchmanlaw02.TimersNext'. -/
def timersNextUptoCard : Claim7 := { stood := { row := timersNextUptoRow, standIns := [], harness := (true, "84b1f552ff2249f6fb8184866e9552ba698a5f2dd53f451df985040f46b6fc12"), looks := true }, kinds := [], alts := [], laidByText := true, laidKinds := [.sentinel, .sentinel], laidTests := true, laidLooks := .later }
def TimersNextUptoCardSaid : Prop := Claim7.holds Tryd.pinned (.plain (OpenSpec.upto timersNextSpec)) timersNextUptoCard
end Rows
end Go.Proofs.YtdcjmfbdmejjjaaDoor
