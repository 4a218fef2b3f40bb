/-
  DERIVED. GIVEN WITH THE SEED: THE CARDS: each row of YthfancfmmphakaaDoorRows.lean that lists a variable, with what it lists TIED to the program's text (the seventh form; the later family's looks); each row that meets fmt, with fmt's text TOLD by the authors' own Lean function (tested against real Go, not proved from fmt's source: count such statements apart). THE CARD IS WHAT COUNTS. Prove the row's statement (the work); the ties are given (YthfancfmmphakaaDoorTie.lean); close each card by the builder's one call (the guide's Derived/Test/ToyasCard.lean, 'card_holds'). Laid BY PROGRAM, IN A SANDBOX (cutbox-door.mjs). By AI agents, Wed Nov 11 2026. No macro, syntax, notation, axiom, sorry.
-/
import Derived.Test.YthfancfmmphakaaDoorRows
import GoSem.ClaimSeven
namespace Go.Proofs.YthfancfmmphakaaDoor
namespace Rows

/-- THE TIED CARD OF 'truchmanlaw10.QstateStill'. -/
def qstateStillCard : Claim7 := { stood := { row := qstateStillRow, standIns := [], harness := (true, "99f487b744a96f3a95ac077db3f35c35efaf4dd10cd9726e0ec22b14196ba69d"), looks := false }, kinds := [], alts := [], laidByText := true, laidKinds := [.sentinel, .sentinel, .data], laidTests := true, laidLooks := .later }
def QstateStillCardSaid : Prop := Claim7.holds Tryd.pinned (.plain (OpenSpec.ofChange qstateStillSpec)) qstateStillCard

/-- THE TIED CARD OF 'truchmanlaw10.QstateRests'. -/
def qstateRestsCard : Claim7 := { stood := { row := qstateRestsRow, standIns := [], harness := (true, "99f487b744a96f3a95ac077db3f35c35efaf4dd10cd9726e0ec22b14196ba69d"), looks := false }, kinds := [], alts := [], laidByText := true, laidKinds := [.sentinel, .sentinel, .data], laidTests := true, laidLooks := .later }
def QstateRestsCardSaid : Prop := Claim7.holds Tryd.pinned (.plain (OpenSpec.ofChange qstateRestsSpec)) qstateRestsCard

/-- THE SECOND FORM's CARD OF 'truchmanlaw10.QstateStill'. -/
def qstateStillUptoCard : Claim7 := { stood := { row := qstateStillUptoRow, standIns := [], harness := (true, "99f487b744a96f3a95ac077db3f35c35efaf4dd10cd9726e0ec22b14196ba69d"), looks := false }, kinds := [], alts := [], laidByText := true, laidKinds := [.sentinel, .sentinel, .data], laidTests := true, laidLooks := .later }
def QstateStillUptoCardSaid : Prop := Claim7.holds Tryd.pinned (.plain (OpenSpec.upto qstateStillSpec)) qstateStillUptoCard

/-- THE SECOND FORM's CARD OF 'truchmanlaw10.QstateRests'. -/
def qstateRestsUptoCard : Claim7 := { stood := { row := qstateRestsUptoRow, standIns := [], harness := (true, "99f487b744a96f3a95ac077db3f35c35efaf4dd10cd9726e0ec22b14196ba69d"), looks := false }, kinds := [], alts := [], laidByText := true, laidKinds := [.sentinel, .sentinel, .data], laidTests := true, laidLooks := .later }
def QstateRestsUptoCardSaid : Prop := Claim7.holds Tryd.pinned (.plain (OpenSpec.upto qstateRestsSpec)) qstateRestsUptoCard
end Rows
end Go.Proofs.YthfancfmmphakaaDoor
