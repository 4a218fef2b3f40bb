/-
  DERIVED. GIVEN WITH THE SEED: THE CARDS: each row of YtolengbnoenkiaaDoorRows.lean that lists a variable, with what it lists TIED to the program's text (the seventh form; the later family's looks); each row that meets fmt, with fmt's text TOLD by the authors' own Lean function (tested against real Go, not proved from fmt's source: count such statements apart). THE CARD IS WHAT COUNTS. Prove the row's statement (the work); the ties are given (YtolengbnoenkiaaDoorTie.lean); close each card by the builder's one call (the guide's Derived/Test/ToyasCard.lean, 'card_holds'). Laid BY PROGRAM, IN A SANDBOX (cutbox-door.mjs). By AI agents, Wed Nov 11 2026. No macro, syntax, notation, axiom, sorry.
-/
import Derived.Test.YtolengbnoenkiaaDoorRows
import GoSem.ClaimSeven
namespace Go.Proofs.YtolengbnoenkiaaDoor
namespace Rows

/-- THE TIED CARD OF 'truchmanlaw01.RingActs'. -/
def ringActsCard : Claim7 := { stood := { row := ringActsRow, standIns := [], harness := (true, "902de615fed72afea80799578865f7a5ce055903b4bf11a755b017741f09632a"), looks := true }, kinds := [], alts := [], laidByText := true, laidKinds := [.sentinel, .sentinel, .sentinel, .sentinel, .sentinel, .sentinel, .sentinel, .sentinel, .sentinel, .sentinel, .sentinel, .sentinel, .sentinel, .sentinel, .sentinel, .sentinel], laidTests := true, laidLooks := .later }
def RingActsCardSaid : Prop := Claim7.holds Tryd.pinned (.plain (OpenSpec.ofChange ringActsSpec)) ringActsCard

/-- THE TIED CARD OF 'truchmanlaw01.RingKeeps'. -/
def ringKeepsCard : Claim7 := { stood := { row := ringKeepsRow, standIns := [], harness := (true, "902de615fed72afea80799578865f7a5ce055903b4bf11a755b017741f09632a"), looks := true }, kinds := [], alts := [], laidByText := true, laidKinds := [.sentinel], laidTests := true, laidLooks := .later }
def RingKeepsCardSaid : Prop := Claim7.holds Tryd.pinned (.plain (OpenSpec.ofChange ringKeepsSpec)) ringKeepsCard

/-- THE TIED CARD OF 'truchmanlaw01.RingParts'. -/
def ringPartsCard : Claim7 := { stood := { row := ringPartsRow, standIns := [], harness := (true, "902de615fed72afea80799578865f7a5ce055903b4bf11a755b017741f09632a"), looks := true }, kinds := [], alts := [], laidByText := true, laidKinds := [.sentinel], laidTests := true, laidLooks := .later }
def RingPartsCardSaid : Prop := Claim7.holds Tryd.pinned (.plain (OpenSpec.ofChange ringPartsSpec)) ringPartsCard

/-- THE SECOND FORM's CARD OF 'truchmanlaw01.RingActs'. -/
def ringActsUptoCard : Claim7 := { stood := { row := ringActsUptoRow, standIns := [], harness := (true, "902de615fed72afea80799578865f7a5ce055903b4bf11a755b017741f09632a"), looks := true }, kinds := [], alts := [], laidByText := true, laidKinds := [.sentinel, .sentinel, .sentinel, .sentinel, .sentinel, .sentinel, .sentinel, .sentinel, .sentinel, .sentinel, .sentinel, .sentinel, .sentinel, .sentinel, .sentinel, .sentinel], laidTests := true, laidLooks := .later }
def RingActsUptoCardSaid : Prop := Claim7.holds Tryd.pinned (.plain (OpenSpec.upto ringActsSpec)) ringActsUptoCard

/-- THE SECOND FORM's CARD OF 'truchmanlaw01.RingKeeps'. -/
def ringKeepsUptoCard : Claim7 := { stood := { row := ringKeepsUptoRow, standIns := [], harness := (true, "902de615fed72afea80799578865f7a5ce055903b4bf11a755b017741f09632a"), looks := true }, kinds := [], alts := [], laidByText := true, laidKinds := [.sentinel], laidTests := true, laidLooks := .later }
def RingKeepsUptoCardSaid : Prop := Claim7.holds Tryd.pinned (.plain (OpenSpec.upto ringKeepsSpec)) ringKeepsUptoCard

/-- THE SECOND FORM's CARD OF 'truchmanlaw01.RingParts'. -/
def ringPartsUptoCard : Claim7 := { stood := { row := ringPartsUptoRow, standIns := [], harness := (true, "902de615fed72afea80799578865f7a5ce055903b4bf11a755b017741f09632a"), looks := true }, kinds := [], alts := [], laidByText := true, laidKinds := [.sentinel], laidTests := true, laidLooks := .later }
def RingPartsUptoCardSaid : Prop := Claim7.holds Tryd.pinned (.plain (OpenSpec.upto ringPartsSpec)) ringPartsUptoCard
end Rows
end Go.Proofs.YtolengbnoenkiaaDoor
