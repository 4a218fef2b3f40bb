/-
  DERIVED. GIVEN WITH THE SEED: THE CARDS: each row of YtmoajpjhekkdfaaDoorRows.lean that lists a variable, with what it lists TIED to the program's text (the seventh form; the later family's looks); each row that meets fmt, with fmt's text TOLD by the authors' own Lean function (tested against real Go, not proved from fmt's source: count such statements apart). THE CARD IS WHAT COUNTS. Prove the row's statement (the work); the ties are given (YtmoajpjhekkdfaaDoorTie.lean); close each card by the builder's one call (the guide's Derived/Test/ToyasCard.lean, 'card_holds'). Laid BY PROGRAM, IN A SANDBOX (cutbox-door.mjs). By AI agents, Wed Nov 11 2026. No macro, syntax, notation, axiom, sorry.
-/
import Derived.Test.YtmoajpjhekkdfaaDoorRows
import GoSem.ClaimSeven
namespace Go.Proofs.YtmoajpjhekkdfaaDoor
namespace Rows

/-- THE TIED CARD OF 'truchmanlaw12.NawsBodies'. -/
def nawsBodiesCard : Claim7 := { stood := { row := nawsBodiesRow, standIns := [], harness := (true, "be45b4a1bc0db58045224e789e365b34760c949b57bbdcfbfed42326ab4dd1f2"), looks := true }, kinds := [], alts := [], laidByText := true, laidKinds := [.sentinel, .sentinel, .sentinel, .sentinel, .sentinel, .sentinel, .sentinel, .sentinel, .sentinel, .sentinel, .sentinel, .sentinel, .sentinel, .sentinel, .sentinel, .sentinel], laidTests := true, laidLooks := .later }
def NawsBodiesCardSaid : Prop := Claim7.holds Tryd.pinned (.plain (OpenSpec.ofChange nawsBodiesSpec)) nawsBodiesCard

/-- THE TIED CARD OF 'truchmanlaw12.NawsBack'. -/
def nawsBackCard : Claim7 := { stood := { row := nawsBackRow, standIns := [], harness := (true, "be45b4a1bc0db58045224e789e365b34760c949b57bbdcfbfed42326ab4dd1f2"), looks := true }, kinds := [], alts := [], laidByText := true, laidKinds := [.sentinel, .sentinel, .sentinel], laidTests := true, laidLooks := .later }
def NawsBackCardSaid : Prop := Claim7.holds Tryd.pinned (.plain (OpenSpec.ofChange nawsBackSpec)) nawsBackCard

/-- THE SECOND FORM's CARD OF 'truchmanlaw12.NawsBodies'. -/
def nawsBodiesUptoCard : Claim7 := { stood := { row := nawsBodiesUptoRow, standIns := [], harness := (true, "be45b4a1bc0db58045224e789e365b34760c949b57bbdcfbfed42326ab4dd1f2"), looks := true }, kinds := [], alts := [], laidByText := true, laidKinds := [.sentinel, .sentinel, .sentinel, .sentinel, .sentinel, .sentinel, .sentinel, .sentinel, .sentinel, .sentinel, .sentinel, .sentinel, .sentinel, .sentinel, .sentinel, .sentinel], laidTests := true, laidLooks := .later }
def NawsBodiesUptoCardSaid : Prop := Claim7.holds Tryd.pinned (.plain (OpenSpec.upto nawsBodiesSpec)) nawsBodiesUptoCard

/-- THE SECOND FORM's CARD OF 'truchmanlaw12.NawsBack'. -/
def nawsBackUptoCard : Claim7 := { stood := { row := nawsBackUptoRow, standIns := [], harness := (true, "be45b4a1bc0db58045224e789e365b34760c949b57bbdcfbfed42326ab4dd1f2"), looks := true }, kinds := [], alts := [], laidByText := true, laidKinds := [.sentinel, .sentinel, .sentinel], laidTests := true, laidLooks := .later }
def NawsBackUptoCardSaid : Prop := Claim7.holds Tryd.pinned (.plain (OpenSpec.upto nawsBackSpec)) nawsBackUptoCard
end Rows
end Go.Proofs.YtmoajpjhekkdfaaDoor
