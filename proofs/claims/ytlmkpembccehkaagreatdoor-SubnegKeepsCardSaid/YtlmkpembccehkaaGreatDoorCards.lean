/-
  DERIVED. GIVEN WITH THE SEED: THE CARDS: each row of YtlmkpembccehkaaGreatDoorRows.lean that lists a variable, with what it lists TIED to the program's text (the seventh form; the later family's looks); each row that meets fmt, with fmt's text TOLD by the authors' own Lean function (tested against real Go, not proved from fmt's source: count such statements apart). THE CARD IS WHAT COUNTS. Prove the row's statement (the work); the ties are given (YtlmkpembccehkaaGreatDoorTie.lean); close each card by the builder's one call (the guide's Derived/Test/ToyasCard.lean, 'card_holds'). Laid BY PROGRAM, IN A SANDBOX (cutbox-door.mjs). By AI agents, Wed Nov 11 2026. No macro, syntax, notation, axiom, sorry.
-/
import Derived.Test.YtlmkpembccehkaaGreatDoorRows
import GoSem.ClaimSeven
namespace Go.Proofs.YtlmkpembccehkaaGreatDoor
namespace Rows

/-- THE TIED CARD OF 'truchmanlaw18.SubnegKeeps'. -/
def subnegKeepsCard : Claim7 := { stood := { row := subnegKeepsRow, standIns := [], harness := (true, "a5dbc82be8cbc0dc1581ceffd82c45fcee9b8ae366b085d3a46b5b7550f20d03"), looks := false }, kinds := [], alts := [], laidByText := true, laidKinds := [.sentinel, .sentinel, .sentinel, .sentinel, .sentinel, .sentinel, .sentinel, .sentinel, .sentinel, .data, .data], laidTests := true, laidLooks := .later }
def SubnegKeepsCardSaid : Prop := Claim7.holds Tryz.pinned (.plain (OpenSpec.ofChange subnegKeepsSpec)) subnegKeepsCard

/-- THE TIED CARD OF 'truchmanlaw18.SubnegTypes'. -/
def subnegTypesCard : Claim7 := { stood := { row := subnegTypesRow, standIns := [], harness := (true, "a5dbc82be8cbc0dc1581ceffd82c45fcee9b8ae366b085d3a46b5b7550f20d03"), looks := false }, kinds := [], alts := [], laidByText := true, laidKinds := [.sentinel, .sentinel, .sentinel, .sentinel, .sentinel, .sentinel, .sentinel, .sentinel, .sentinel, .data, .data], laidTests := true, laidLooks := .later }
def SubnegTypesCardSaid : Prop := Claim7.holds Tryz.pinned (.plain (OpenSpec.ofChange subnegTypesSpec)) subnegTypesCard

/-- THE SECOND FORM's CARD OF 'truchmanlaw18.SubnegKeeps'. -/
def subnegKeepsUptoCard : Claim7 := { stood := { row := subnegKeepsUptoRow, standIns := [], harness := (true, "a5dbc82be8cbc0dc1581ceffd82c45fcee9b8ae366b085d3a46b5b7550f20d03"), looks := false }, kinds := [], alts := [], laidByText := true, laidKinds := [.sentinel, .sentinel, .sentinel, .sentinel, .sentinel, .sentinel, .sentinel, .sentinel, .sentinel, .data, .data], laidTests := true, laidLooks := .later }
def SubnegKeepsUptoCardSaid : Prop := Claim7.holds Tryz.pinned (.plain (OpenSpec.upto subnegKeepsSpec)) subnegKeepsUptoCard

/-- THE SECOND FORM's CARD OF 'truchmanlaw18.SubnegTypes'. -/
def subnegTypesUptoCard : Claim7 := { stood := { row := subnegTypesUptoRow, standIns := [], harness := (true, "a5dbc82be8cbc0dc1581ceffd82c45fcee9b8ae366b085d3a46b5b7550f20d03"), looks := false }, kinds := [], alts := [], laidByText := true, laidKinds := [.sentinel, .sentinel, .sentinel, .sentinel, .sentinel, .sentinel, .sentinel, .sentinel, .sentinel, .data, .data], laidTests := true, laidLooks := .later }
def SubnegTypesUptoCardSaid : Prop := Claim7.holds Tryz.pinned (.plain (OpenSpec.upto subnegTypesSpec)) subnegTypesUptoCard
end Rows
end Go.Proofs.YtlmkpembccehkaaGreatDoor
