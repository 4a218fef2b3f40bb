/-
  DERIVED. GIVEN WITH THE SEED: THE CARDS: each row of YtefcgbkbgkllaaaDoorRows.lean that lists a variable, with what it lists TIED to the program's text (the seventh form; the later family's looks); each row that meets fmt, with fmt's text TOLD by the authors' own Lean function (tested against real Go, not proved from fmt's source: count such statements apart). THE CARD IS WHAT COUNTS. Prove the row's statement (the work); the ties are given (YtefcgbkbgkllaaaDoorTie.lean); close each card by the builder's one call (the guide's Derived/Test/ToyasCard.lean, 'card_holds'). Laid BY PROGRAM, IN A SANDBOX (cutbox-door.mjs). By AI agents, Wed Nov 11 2026. No macro, syntax, notation, axiom, sorry.
-/
import Derived.Test.YtefcgbkbgkllaaaDoorRows
import GoSem.ClaimSeven
namespace Go.Proofs.YtefcgbkbgkllaaaDoor
namespace Rows

/-- THE TIED CARD OF 'truchmanlaw15.ModeBodies'. -/
def modeBodiesCard : Claim7 := { stood := { row := modeBodiesRow, standIns := [], harness := (true, "7b73f17d093a2455e9e0e7712fca2cb30da9d00040d1b4ccd51085dda9eab32b"), looks := true }, kinds := [], alts := [], laidByText := true, laidKinds := [.sentinel, .sentinel, .sentinel, .sentinel, .sentinel, .sentinel, .sentinel, .sentinel, .sentinel, .sentinel, .sentinel, .sentinel, .sentinel, .sentinel, .sentinel, .sentinel, .data], laidTests := true, laidLooks := .later }
def ModeBodiesCardSaid : Prop := Claim7.holds Tryd.pinned (.plain (OpenSpec.ofChange modeBodiesSpec)) modeBodiesCard

/-- THE TIED CARD OF 'truchmanlaw15.ModeActs'. -/
def modeActsCard : Claim7 := { stood := { row := modeActsRow, standIns := [], harness := (true, "7b73f17d093a2455e9e0e7712fca2cb30da9d00040d1b4ccd51085dda9eab32b"), looks := true }, kinds := [], alts := [], laidByText := true, laidKinds := [.sentinel, .sentinel, .sentinel, .sentinel, .sentinel, .sentinel, .sentinel, .sentinel, .sentinel, .sentinel, .sentinel, .sentinel, .sentinel, .sentinel, .sentinel, .sentinel, .data], laidTests := true, laidLooks := .later }
def ModeActsCardSaid : Prop := Claim7.holds Tryd.pinned (.plain (OpenSpec.ofChange modeActsSpec)) modeActsCard

/-- THE TIED CARD OF 'truchmanlaw15.ModeRests'. -/
def modeRestsCard : Claim7 := { stood := { row := modeRestsRow, standIns := [], harness := (true, "7b73f17d093a2455e9e0e7712fca2cb30da9d00040d1b4ccd51085dda9eab32b"), looks := true }, kinds := [], alts := [], laidByText := true, laidKinds := [.sentinel, .sentinel, .sentinel, .sentinel, .sentinel, .sentinel, .data], laidTests := true, laidLooks := .later }
def ModeRestsCardSaid : Prop := Claim7.holds Tryd.pinned (.plain (OpenSpec.ofChange modeRestsSpec)) modeRestsCard

/-- THE SECOND FORM's CARD OF 'truchmanlaw15.ModeBodies'. -/
def modeBodiesUptoCard : Claim7 := { stood := { row := modeBodiesUptoRow, standIns := [], harness := (true, "7b73f17d093a2455e9e0e7712fca2cb30da9d00040d1b4ccd51085dda9eab32b"), looks := true }, kinds := [], alts := [], laidByText := true, laidKinds := [.sentinel, .sentinel, .sentinel, .sentinel, .sentinel, .sentinel, .sentinel, .sentinel, .sentinel, .sentinel, .sentinel, .sentinel, .sentinel, .sentinel, .sentinel, .sentinel, .data], laidTests := true, laidLooks := .later }
def ModeBodiesUptoCardSaid : Prop := Claim7.holds Tryd.pinned (.plain (OpenSpec.upto modeBodiesSpec)) modeBodiesUptoCard

/-- THE SECOND FORM's CARD OF 'truchmanlaw15.ModeActs'. -/
def modeActsUptoCard : Claim7 := { stood := { row := modeActsUptoRow, standIns := [], harness := (true, "7b73f17d093a2455e9e0e7712fca2cb30da9d00040d1b4ccd51085dda9eab32b"), looks := true }, kinds := [], alts := [], laidByText := true, laidKinds := [.sentinel, .sentinel, .sentinel, .sentinel, .sentinel, .sentinel, .sentinel, .sentinel, .sentinel, .sentinel, .sentinel, .sentinel, .sentinel, .sentinel, .sentinel, .sentinel, .data], laidTests := true, laidLooks := .later }
def ModeActsUptoCardSaid : Prop := Claim7.holds Tryd.pinned (.plain (OpenSpec.upto modeActsSpec)) modeActsUptoCard

/-- THE SECOND FORM's CARD OF 'truchmanlaw15.ModeRests'. -/
def modeRestsUptoCard : Claim7 := { stood := { row := modeRestsUptoRow, standIns := [], harness := (true, "7b73f17d093a2455e9e0e7712fca2cb30da9d00040d1b4ccd51085dda9eab32b"), looks := true }, kinds := [], alts := [], laidByText := true, laidKinds := [.sentinel, .sentinel, .sentinel, .sentinel, .sentinel, .sentinel, .data], laidTests := true, laidLooks := .later }
def ModeRestsUptoCardSaid : Prop := Claim7.holds Tryd.pinned (.plain (OpenSpec.upto modeRestsSpec)) modeRestsUptoCard
end Rows
end Go.Proofs.YtefcgbkbgkllaaaDoor
