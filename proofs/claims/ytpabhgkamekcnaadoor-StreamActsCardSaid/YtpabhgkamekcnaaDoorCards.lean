/-
  DERIVED. GIVEN WITH THE SEED: THE CARDS: each row of YtpabhgkamekcnaaDoorRows.lean that lists a variable, with what it lists TIED to the program's text (the seventh form; the later family's looks); each row that meets fmt, with fmt's text TOLD by the authors' own Lean function (tested against real Go, not proved from fmt's source: count such statements apart). THE CARD IS WHAT COUNTS. Prove the row's statement (the work); the ties are given (YtpabhgkamekcnaaDoorTie.lean); close each card by the builder's one call (the guide's Derived/Test/ToyasCard.lean, 'card_holds'). Laid BY PROGRAM, IN A SANDBOX (cutbox-door.mjs). By AI agents, Wed Nov 11 2026. No macro, syntax, notation, axiom, sorry.
-/
import Derived.Test.YtpabhgkamekcnaaDoorRows
import GoSem.ClaimSeven
namespace Go.Proofs.YtpabhgkamekcnaaDoor
namespace Rows

/-- THE TIED CARD OF 'truchmanlaw03.StreamActs'. -/
def streamActsCard : Claim7 := { stood := { row := streamActsRow, standIns := [], harness := (true, "d399ede36b919456ec1ecdc0d4324c0f3dbcbc8f2067dffc7ebd234653e09c36"), looks := true }, kinds := [], alts := [], laidByText := true, laidKinds := [.sentinel, .sentinel, .sentinel, .sentinel, .sentinel, .sentinel, .sentinel, .sentinel, .sentinel, .sentinel, .sentinel, .sentinel, .sentinel, .sentinel, .sentinel, .sentinel], laidTests := true, laidLooks := .later }
def StreamActsCardSaid : Prop := Claim7.holds Tryd.pinned (.plain (OpenSpec.ofChange streamActsSpec)) streamActsCard

/-- THE TIED CARD OF 'truchmanlaw03.StreamParts'. -/
def streamPartsCard : Claim7 := { stood := { row := streamPartsRow, standIns := [], harness := (true, "d399ede36b919456ec1ecdc0d4324c0f3dbcbc8f2067dffc7ebd234653e09c36"), looks := true }, kinds := [], alts := [], laidByText := true, laidKinds := [.sentinel, .sentinel, .sentinel], laidTests := true, laidLooks := .later }
def StreamPartsCardSaid : Prop := Claim7.holds Tryd.pinned (.plain (OpenSpec.ofChange streamPartsSpec)) streamPartsCard

/-- THE TIED CARD OF 'truchmanlaw03.StreamGrants'. -/
def streamGrantsCard : Claim7 := { stood := { row := streamGrantsRow, standIns := [], harness := (true, "d399ede36b919456ec1ecdc0d4324c0f3dbcbc8f2067dffc7ebd234653e09c36"), looks := true }, kinds := [], alts := [], laidByText := true, laidKinds := [.sentinel, .sentinel, .sentinel], laidTests := true, laidLooks := .later }
def StreamGrantsCardSaid : Prop := Claim7.holds Tryd.pinned (.plain (OpenSpec.ofChange streamGrantsSpec)) streamGrantsCard

/-- THE SECOND FORM's CARD OF 'truchmanlaw03.StreamActs'. -/
def streamActsUptoCard : Claim7 := { stood := { row := streamActsUptoRow, standIns := [], harness := (true, "d399ede36b919456ec1ecdc0d4324c0f3dbcbc8f2067dffc7ebd234653e09c36"), looks := true }, kinds := [], alts := [], laidByText := true, laidKinds := [.sentinel, .sentinel, .sentinel, .sentinel, .sentinel, .sentinel, .sentinel, .sentinel, .sentinel, .sentinel, .sentinel, .sentinel, .sentinel, .sentinel, .sentinel, .sentinel], laidTests := true, laidLooks := .later }
def StreamActsUptoCardSaid : Prop := Claim7.holds Tryd.pinned (.plain (OpenSpec.upto streamActsSpec)) streamActsUptoCard

/-- THE SECOND FORM's CARD OF 'truchmanlaw03.StreamParts'. -/
def streamPartsUptoCard : Claim7 := { stood := { row := streamPartsUptoRow, standIns := [], harness := (true, "d399ede36b919456ec1ecdc0d4324c0f3dbcbc8f2067dffc7ebd234653e09c36"), looks := true }, kinds := [], alts := [], laidByText := true, laidKinds := [.sentinel, .sentinel, .sentinel], laidTests := true, laidLooks := .later }
def StreamPartsUptoCardSaid : Prop := Claim7.holds Tryd.pinned (.plain (OpenSpec.upto streamPartsSpec)) streamPartsUptoCard

/-- THE SECOND FORM's CARD OF 'truchmanlaw03.StreamGrants'. -/
def streamGrantsUptoCard : Claim7 := { stood := { row := streamGrantsUptoRow, standIns := [], harness := (true, "d399ede36b919456ec1ecdc0d4324c0f3dbcbc8f2067dffc7ebd234653e09c36"), looks := true }, kinds := [], alts := [], laidByText := true, laidKinds := [.sentinel, .sentinel, .sentinel], laidTests := true, laidLooks := .later }
def StreamGrantsUptoCardSaid : Prop := Claim7.holds Tryd.pinned (.plain (OpenSpec.upto streamGrantsSpec)) streamGrantsUptoCard
end Rows
end Go.Proofs.YtpabhgkamekcnaaDoor
