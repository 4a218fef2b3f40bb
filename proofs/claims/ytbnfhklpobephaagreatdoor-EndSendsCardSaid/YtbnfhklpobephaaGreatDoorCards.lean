/-
  DERIVED. GIVEN WITH THE SEED: THE CARDS: each row of YtbnfhklpobephaaGreatDoorRows.lean that lists a variable, with what it lists TIED to the program's text (the seventh form; the later family's looks); each row that meets fmt, with fmt's text TOLD by the authors' own Lean function (tested against real Go, not proved from fmt's source: count such statements apart). THE CARD IS WHAT COUNTS. Prove the row's statement (the work); the ties are given (YtbnfhklpobephaaGreatDoorTie.lean); close each card by the builder's one call (the guide's Derived/Test/ToyasCard.lean, 'card_holds'). Laid BY PROGRAM, IN A SANDBOX (cutbox-door.mjs). By AI agents, Wed Nov 11 2026. No macro, syntax, notation, axiom, sorry.
-/
import Derived.Test.YtbnfhklpobephaaGreatDoorRows
import GoSem.ClaimSeven
namespace Go.Proofs.YtbnfhklpobephaaGreatDoor
namespace Rows

/-- THE TIED CARD OF 'truchmanlaw20.EndActs'. -/
def endActsCard : Claim7 := { stood := { row := endActsRow, standIns := [], harness := (true, "eaa256cf3fa41b421fe4fca240c74813f594e11dcf54dce020ca9c6811823090"), looks := true }, kinds := [], alts := [], laidByText := true, laidKinds := [.sentinel, .sentinel, .sentinel, .sentinel, .sentinel, .sentinel, .sentinel, .sentinel, .sentinel, .sentinel, .sentinel, .sentinel, .sentinel, .sentinel, .sentinel, .sentinel, .data, .data], laidTests := true, laidLooks := .later }
def EndActsCardSaid : Prop := Claim7.holds Tryz.pinned (.plain (OpenSpec.ofChange endActsSpec)) endActsCard

/-- THE TIED CARD OF 'truchmanlaw20.EndSends'. -/
def endSendsCard : Claim7 := { stood := { row := endSendsRow, standIns := [], harness := (true, "eaa256cf3fa41b421fe4fca240c74813f594e11dcf54dce020ca9c6811823090"), looks := true }, kinds := [], alts := [], laidByText := true, laidKinds := [.sentinel, .sentinel, .sentinel, .sentinel, .sentinel, .sentinel, .sentinel, .sentinel, .sentinel, .data, .data], laidTests := true, laidLooks := .later }
def EndSendsCardSaid : Prop := Claim7.holds Tryz.pinned (.plain (OpenSpec.ofChange endSendsSpec)) endSendsCard

/-- THE TIED CARD OF 'truchmanlaw20.EndDeaf'. -/
def endDeafCard : Claim7 := { stood := { row := endDeafRow, standIns := [], harness := (true, "eaa256cf3fa41b421fe4fca240c74813f594e11dcf54dce020ca9c6811823090"), looks := true }, kinds := [], alts := [], laidByText := true, laidKinds := [.sentinel, .sentinel, .sentinel, .sentinel, .sentinel, .sentinel, .sentinel, .sentinel, .sentinel, .data, .data], laidTests := true, laidLooks := .later }
def EndDeafCardSaid : Prop := Claim7.holds Tryz.pinned (.plain (OpenSpec.ofChange endDeafSpec)) endDeafCard

/-- THE TIED CARD OF 'truchmanlaw20.EndTakes'. -/
def endTakesCard : Claim7 := { stood := { row := endTakesRow, standIns := [], harness := (true, "eaa256cf3fa41b421fe4fca240c74813f594e11dcf54dce020ca9c6811823090"), looks := true }, kinds := [], alts := [], laidByText := true, laidKinds := [.sentinel, .sentinel, .sentinel, .sentinel, .sentinel, .sentinel, .sentinel, .sentinel, .sentinel, .data, .data], laidTests := true, laidLooks := .later }
def EndTakesCardSaid : Prop := Claim7.holds Tryz.pinned (.plain (OpenSpec.ofChange endTakesSpec)) endTakesCard

/-- THE SECOND FORM's CARD OF 'truchmanlaw20.EndActs'. -/
def endActsUptoCard : Claim7 := { stood := { row := endActsUptoRow, standIns := [], harness := (true, "eaa256cf3fa41b421fe4fca240c74813f594e11dcf54dce020ca9c6811823090"), looks := true }, kinds := [], alts := [], laidByText := true, laidKinds := [.sentinel, .sentinel, .sentinel, .sentinel, .sentinel, .sentinel, .sentinel, .sentinel, .sentinel, .sentinel, .sentinel, .sentinel, .sentinel, .sentinel, .sentinel, .sentinel, .data, .data], laidTests := true, laidLooks := .later }
def EndActsUptoCardSaid : Prop := Claim7.holds Tryz.pinned (.plain (OpenSpec.upto endActsSpec)) endActsUptoCard

/-- THE SECOND FORM's CARD OF 'truchmanlaw20.EndSends'. -/
def endSendsUptoCard : Claim7 := { stood := { row := endSendsUptoRow, standIns := [], harness := (true, "eaa256cf3fa41b421fe4fca240c74813f594e11dcf54dce020ca9c6811823090"), looks := true }, kinds := [], alts := [], laidByText := true, laidKinds := [.sentinel, .sentinel, .sentinel, .sentinel, .sentinel, .sentinel, .sentinel, .sentinel, .sentinel, .data, .data], laidTests := true, laidLooks := .later }
def EndSendsUptoCardSaid : Prop := Claim7.holds Tryz.pinned (.plain (OpenSpec.upto endSendsSpec)) endSendsUptoCard

/-- THE SECOND FORM's CARD OF 'truchmanlaw20.EndDeaf'. -/
def endDeafUptoCard : Claim7 := { stood := { row := endDeafUptoRow, standIns := [], harness := (true, "eaa256cf3fa41b421fe4fca240c74813f594e11dcf54dce020ca9c6811823090"), looks := true }, kinds := [], alts := [], laidByText := true, laidKinds := [.sentinel, .sentinel, .sentinel, .sentinel, .sentinel, .sentinel, .sentinel, .sentinel, .sentinel, .data, .data], laidTests := true, laidLooks := .later }
def EndDeafUptoCardSaid : Prop := Claim7.holds Tryz.pinned (.plain (OpenSpec.upto endDeafSpec)) endDeafUptoCard

/-- THE SECOND FORM's CARD OF 'truchmanlaw20.EndTakes'. -/
def endTakesUptoCard : Claim7 := { stood := { row := endTakesUptoRow, standIns := [], harness := (true, "eaa256cf3fa41b421fe4fca240c74813f594e11dcf54dce020ca9c6811823090"), looks := true }, kinds := [], alts := [], laidByText := true, laidKinds := [.sentinel, .sentinel, .sentinel, .sentinel, .sentinel, .sentinel, .sentinel, .sentinel, .sentinel, .data, .data], laidTests := true, laidLooks := .later }
def EndTakesUptoCardSaid : Prop := Claim7.holds Tryz.pinned (.plain (OpenSpec.upto endTakesSpec)) endTakesUptoCard
end Rows
end Go.Proofs.YtbnfhklpobephaaGreatDoor
