/-
  DERIVED. GIVEN WITH THE SEED: THE CARDS: each row of YtpobglejobgmlaaDoorRows.lean that lists a variable, with what it lists TIED to the program's text (the seventh form; the later family's looks); each row that meets fmt, with fmt's text TOLD by the authors' own Lean function (tested against real Go, not proved from fmt's source: count such statements apart). THE CARD IS WHAT COUNTS. Prove the row's statement (the work); the ties are given (YtpobglejobgmlaaDoorTie.lean); close each card by the builder's one call (the guide's Derived/Test/ToyasCard.lean, 'card_holds'). Laid BY PROGRAM, IN A SANDBOX (cutbox-door.mjs). By AI agents, Wed Nov 11 2026. No macro, syntax, notation, axiom, sorry.
-/
import Derived.Test.YtpobglejobgmlaaDoorRows
import GoSem.ClaimSeven
namespace Go.Proofs.YtpobglejobgmlaaDoor
namespace Rows

/-- THE TIED CARD OF 'truchmanlaw11.TableActs'. -/
def tableActsCard : Claim7 := { stood := { row := tableActsRow, standIns := [], harness := (true, "47b7f2b3bbbc59ade580a9e21ced4c52c85cd0bdd6bd0996ff7a0dbd9d952f74"), looks := true }, kinds := [], alts := [], laidByText := true, laidKinds := [.sentinel, .sentinel, .sentinel, .sentinel, .sentinel, .sentinel, .sentinel, .sentinel, .sentinel, .sentinel, .sentinel, .sentinel, .sentinel, .sentinel, .sentinel, .sentinel, .data, .data], laidTests := true, laidLooks := .later }
def TableActsCardSaid : Prop := Claim7.holds Tryd.pinned (.plain (OpenSpec.ofChange tableActsSpec)) tableActsCard

/-- THE TIED CARD OF 'truchmanlaw11.TableApart'. -/
def tableApartCard : Claim7 := { stood := { row := tableApartRow, standIns := [], harness := (true, "47b7f2b3bbbc59ade580a9e21ced4c52c85cd0bdd6bd0996ff7a0dbd9d952f74"), looks := true }, kinds := [], alts := [], laidByText := true, laidKinds := [.sentinel, .sentinel, .sentinel, .sentinel, .data, .data], laidTests := true, laidLooks := .later }
def TableApartCardSaid : Prop := Claim7.holds Tryd.pinned (.plain (OpenSpec.ofChange tableApartSpec)) tableApartCard

/-- THE TIED CARD OF 'truchmanlaw11.TableRests'. -/
def tableRestsCard : Claim7 := { stood := { row := tableRestsRow, standIns := [], harness := (true, "47b7f2b3bbbc59ade580a9e21ced4c52c85cd0bdd6bd0996ff7a0dbd9d952f74"), looks := true }, kinds := [], alts := [], laidByText := true, laidKinds := [.sentinel, .sentinel, .sentinel, .sentinel, .data, .data], laidTests := true, laidLooks := .later }
def TableRestsCardSaid : Prop := Claim7.holds Tryd.pinned (.plain (OpenSpec.ofChange tableRestsSpec)) tableRestsCard

/-- THE SECOND FORM's CARD OF 'truchmanlaw11.TableActs'. -/
def tableActsUptoCard : Claim7 := { stood := { row := tableActsUptoRow, standIns := [], harness := (true, "47b7f2b3bbbc59ade580a9e21ced4c52c85cd0bdd6bd0996ff7a0dbd9d952f74"), looks := true }, kinds := [], alts := [], laidByText := true, laidKinds := [.sentinel, .sentinel, .sentinel, .sentinel, .sentinel, .sentinel, .sentinel, .sentinel, .sentinel, .sentinel, .sentinel, .sentinel, .sentinel, .sentinel, .sentinel, .sentinel, .data, .data], laidTests := true, laidLooks := .later }
def TableActsUptoCardSaid : Prop := Claim7.holds Tryd.pinned (.plain (OpenSpec.upto tableActsSpec)) tableActsUptoCard

/-- THE SECOND FORM's CARD OF 'truchmanlaw11.TableApart'. -/
def tableApartUptoCard : Claim7 := { stood := { row := tableApartUptoRow, standIns := [], harness := (true, "47b7f2b3bbbc59ade580a9e21ced4c52c85cd0bdd6bd0996ff7a0dbd9d952f74"), looks := true }, kinds := [], alts := [], laidByText := true, laidKinds := [.sentinel, .sentinel, .sentinel, .sentinel, .data, .data], laidTests := true, laidLooks := .later }
def TableApartUptoCardSaid : Prop := Claim7.holds Tryd.pinned (.plain (OpenSpec.upto tableApartSpec)) tableApartUptoCard

/-- THE SECOND FORM's CARD OF 'truchmanlaw11.TableRests'. -/
def tableRestsUptoCard : Claim7 := { stood := { row := tableRestsUptoRow, standIns := [], harness := (true, "47b7f2b3bbbc59ade580a9e21ced4c52c85cd0bdd6bd0996ff7a0dbd9d952f74"), looks := true }, kinds := [], alts := [], laidByText := true, laidKinds := [.sentinel, .sentinel, .sentinel, .sentinel, .data, .data], laidTests := true, laidLooks := .later }
def TableRestsUptoCardSaid : Prop := Claim7.holds Tryd.pinned (.plain (OpenSpec.upto tableRestsSpec)) tableRestsUptoCard
end Rows
end Go.Proofs.YtpobglejobgmlaaDoor
