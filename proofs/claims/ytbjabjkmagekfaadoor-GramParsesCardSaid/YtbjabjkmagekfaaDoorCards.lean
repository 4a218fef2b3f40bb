/-
  DERIVED. GIVEN WITH THE SEED: THE CARDS: each row of YtbjabjkmagekfaaDoorRows.lean that lists a variable, with what it lists TIED to the program's text (the seventh form; the later family's looks); each row that meets fmt, with fmt's text TOLD by the authors' own Lean function (tested against real Go, not proved from fmt's source: count such statements apart). THE CARD IS WHAT COUNTS. Prove the row's statement (the work); the ties are given (YtbjabjkmagekfaaDoorTie.lean); close each card by the builder's one call (the guide's Derived/Test/ToyasCard.lean, 'card_holds'). Laid BY PROGRAM, IN A SANDBOX (cutbox-door.mjs). By AI agents, Wed Nov 11 2026. No macro, syntax, notation, axiom, sorry.
-/
import Derived.Test.YtbjabjkmagekfaaDoorRows
import GoSem.ClaimSeven
namespace Go.Proofs.YtbjabjkmagekfaaDoor
namespace Rows

/-- THE TIED CARD OF 'truchmanlaw07.GramParses'. -/
def gramParsesCard : Claim7 := { stood := { row := gramParsesRow, standIns := [], harness := (true, "89836c477fd850cfd104f022046da6c07c37457ca305e9946024bfa5d883f754"), looks := true }, kinds := [], alts := [], laidByText := true, laidKinds := [.sentinel, .sentinel, .sentinel, .sentinel, .sentinel, .sentinel, .sentinel, .sentinel, .sentinel, .sentinel, .sentinel, .sentinel, .sentinel, .sentinel, .sentinel, .sentinel], laidTests := true, laidLooks := .later }
def GramParsesCardSaid : Prop := Claim7.holds Tryd.pinned (.plain (OpenSpec.ofChange gramParsesSpec)) gramParsesCard

/-- THE TIED CARD OF 'truchmanlaw07.GramPrefix'. -/
def gramPrefixCard : Claim7 := { stood := { row := gramPrefixRow, standIns := [], harness := (true, "89836c477fd850cfd104f022046da6c07c37457ca305e9946024bfa5d883f754"), looks := true }, kinds := [], alts := [], laidByText := true, laidKinds := [.sentinel, .sentinel], laidTests := true, laidLooks := .later }
def GramPrefixCardSaid : Prop := Claim7.holds Tryd.pinned (.plain (OpenSpec.ofChange gramPrefixSpec)) gramPrefixCard

/-- THE TIED CARD OF 'truchmanlaw07.GramEmits'. -/
def gramEmitsCard : Claim7 := { stood := { row := gramEmitsRow, standIns := [], harness := (true, "89836c477fd850cfd104f022046da6c07c37457ca305e9946024bfa5d883f754"), looks := true }, kinds := [], alts := [], laidByText := true, laidKinds := [.sentinel, .sentinel, .sentinel, .sentinel, .sentinel], laidTests := true, laidLooks := .later }
def GramEmitsCardSaid : Prop := Claim7.holds Tryd.pinned (.plain (OpenSpec.ofChange gramEmitsSpec)) gramEmitsCard

/-- THE TIED CARD OF 'truchmanlaw07.GramItems'. -/
def gramItemsCard : Claim7 := { stood := { row := gramItemsRow, standIns := [], harness := (true, "89836c477fd850cfd104f022046da6c07c37457ca305e9946024bfa5d883f754"), looks := true }, kinds := [], alts := [], laidByText := true, laidKinds := [.sentinel, .sentinel], laidTests := true, laidLooks := .later }
def GramItemsCardSaid : Prop := Claim7.holds Tryd.pinned (.plain (OpenSpec.ofChange gramItemsSpec)) gramItemsCard

/-- THE SECOND FORM's CARD OF 'truchmanlaw07.GramParses'. -/
def gramParsesUptoCard : Claim7 := { stood := { row := gramParsesUptoRow, standIns := [], harness := (true, "89836c477fd850cfd104f022046da6c07c37457ca305e9946024bfa5d883f754"), looks := true }, kinds := [], alts := [], laidByText := true, laidKinds := [.sentinel, .sentinel, .sentinel, .sentinel, .sentinel, .sentinel, .sentinel, .sentinel, .sentinel, .sentinel, .sentinel, .sentinel, .sentinel, .sentinel, .sentinel, .sentinel], laidTests := true, laidLooks := .later }
def GramParsesUptoCardSaid : Prop := Claim7.holds Tryd.pinned (.plain (OpenSpec.upto gramParsesSpec)) gramParsesUptoCard

/-- THE SECOND FORM's CARD OF 'truchmanlaw07.GramPrefix'. -/
def gramPrefixUptoCard : Claim7 := { stood := { row := gramPrefixUptoRow, standIns := [], harness := (true, "89836c477fd850cfd104f022046da6c07c37457ca305e9946024bfa5d883f754"), looks := true }, kinds := [], alts := [], laidByText := true, laidKinds := [.sentinel, .sentinel], laidTests := true, laidLooks := .later }
def GramPrefixUptoCardSaid : Prop := Claim7.holds Tryd.pinned (.plain (OpenSpec.upto gramPrefixSpec)) gramPrefixUptoCard

/-- THE SECOND FORM's CARD OF 'truchmanlaw07.GramEmits'. -/
def gramEmitsUptoCard : Claim7 := { stood := { row := gramEmitsUptoRow, standIns := [], harness := (true, "89836c477fd850cfd104f022046da6c07c37457ca305e9946024bfa5d883f754"), looks := true }, kinds := [], alts := [], laidByText := true, laidKinds := [.sentinel, .sentinel, .sentinel, .sentinel, .sentinel], laidTests := true, laidLooks := .later }
def GramEmitsUptoCardSaid : Prop := Claim7.holds Tryd.pinned (.plain (OpenSpec.upto gramEmitsSpec)) gramEmitsUptoCard

/-- THE SECOND FORM's CARD OF 'truchmanlaw07.GramItems'. -/
def gramItemsUptoCard : Claim7 := { stood := { row := gramItemsUptoRow, standIns := [], harness := (true, "89836c477fd850cfd104f022046da6c07c37457ca305e9946024bfa5d883f754"), looks := true }, kinds := [], alts := [], laidByText := true, laidKinds := [.sentinel, .sentinel], laidTests := true, laidLooks := .later }
def GramItemsUptoCardSaid : Prop := Claim7.holds Tryd.pinned (.plain (OpenSpec.upto gramItemsSpec)) gramItemsUptoCard
end Rows
end Go.Proofs.YtbjabjkmagekfaaDoor
