/-
  DERIVED. GIVEN WITH THE SEED: THE CARDS: each row of YtojnhheeholaeaaDoorRows.lean that lists a variable, with what it lists TIED to the program's text (the seventh form; the later family's looks); each row that meets fmt, with fmt's text TOLD by the authors' own Lean function (tested against real Go, not proved from fmt's source: count such statements apart). THE CARD IS WHAT COUNTS. Prove the row's statement (the work); the ties are given (YtojnhheeholaeaaDoorTie.lean); close each card by the builder's one call (the guide's Derived/Test/ToyasCard.lean, 'card_holds'). Laid BY PROGRAM, IN A SANDBOX (cutbox-door.mjs). By AI agents, Wed Nov 11 2026. No macro, syntax, notation, axiom, sorry.
-/
import Derived.Test.YtojnhheeholaeaaDoorRows
import GoSem.ClaimSeven
namespace Go.Proofs.YtojnhheeholaeaaDoor
namespace Rows

/-- THE TIED CARD OF 'truchmanlaw14.SlcActs'. -/
def slcActsCard : Claim7 := { stood := { row := slcActsRow, standIns := [], harness := (true, "fdf27ea83c67679bda916af1039a4c10dfc9772b56a0fd600d48075223a3b123"), looks := true }, kinds := [], alts := [], laidByText := true, laidKinds := [.sentinel, .sentinel, .sentinel, .sentinel, .sentinel, .sentinel, .sentinel, .sentinel, .sentinel, .sentinel, .sentinel, .sentinel, .sentinel, .sentinel, .sentinel, .sentinel], laidTests := true, laidLooks := .later }
def SlcActsCardSaid : Prop := Claim7.holds Tryd.pinned (.plain (OpenSpec.ofChange slcActsSpec)) slcActsCard

/-- THE TIED CARD OF 'truchmanlaw14.SlcBodies'. -/
def slcBodiesCard : Claim7 := { stood := { row := slcBodiesRow, standIns := [], harness := (true, "fdf27ea83c67679bda916af1039a4c10dfc9772b56a0fd600d48075223a3b123"), looks := true }, kinds := [], alts := [], laidByText := true, laidKinds := [.sentinel, .sentinel, .sentinel, .sentinel, .sentinel, .sentinel, .sentinel, .sentinel, .sentinel, .sentinel, .sentinel, .sentinel, .sentinel, .sentinel, .sentinel, .sentinel], laidTests := true, laidLooks := .later }
def SlcBodiesCardSaid : Prop := Claim7.holds Tryd.pinned (.plain (OpenSpec.ofChange slcBodiesSpec)) slcBodiesCard

/-- THE TIED CARD OF 'truchmanlaw14.SlcRests'. -/
def slcRestsCard : Claim7 := { stood := { row := slcRestsRow, standIns := [], harness := (true, "fdf27ea83c67679bda916af1039a4c10dfc9772b56a0fd600d48075223a3b123"), looks := true }, kinds := [], alts := [], laidByText := true, laidKinds := [.sentinel, .sentinel, .sentinel, .sentinel], laidTests := true, laidLooks := .later }
def SlcRestsCardSaid : Prop := Claim7.holds Tryd.pinned (.plain (OpenSpec.ofChange slcRestsSpec)) slcRestsCard

/-- THE SECOND FORM's CARD OF 'truchmanlaw14.SlcActs'. -/
def slcActsUptoCard : Claim7 := { stood := { row := slcActsUptoRow, standIns := [], harness := (true, "fdf27ea83c67679bda916af1039a4c10dfc9772b56a0fd600d48075223a3b123"), looks := true }, kinds := [], alts := [], laidByText := true, laidKinds := [.sentinel, .sentinel, .sentinel, .sentinel, .sentinel, .sentinel, .sentinel, .sentinel, .sentinel, .sentinel, .sentinel, .sentinel, .sentinel, .sentinel, .sentinel, .sentinel], laidTests := true, laidLooks := .later }
def SlcActsUptoCardSaid : Prop := Claim7.holds Tryd.pinned (.plain (OpenSpec.upto slcActsSpec)) slcActsUptoCard

/-- THE SECOND FORM's CARD OF 'truchmanlaw14.SlcBodies'. -/
def slcBodiesUptoCard : Claim7 := { stood := { row := slcBodiesUptoRow, standIns := [], harness := (true, "fdf27ea83c67679bda916af1039a4c10dfc9772b56a0fd600d48075223a3b123"), looks := true }, kinds := [], alts := [], laidByText := true, laidKinds := [.sentinel, .sentinel, .sentinel, .sentinel, .sentinel, .sentinel, .sentinel, .sentinel, .sentinel, .sentinel, .sentinel, .sentinel, .sentinel, .sentinel, .sentinel, .sentinel], laidTests := true, laidLooks := .later }
def SlcBodiesUptoCardSaid : Prop := Claim7.holds Tryd.pinned (.plain (OpenSpec.upto slcBodiesSpec)) slcBodiesUptoCard

/-- THE SECOND FORM's CARD OF 'truchmanlaw14.SlcRests'. -/
def slcRestsUptoCard : Claim7 := { stood := { row := slcRestsUptoRow, standIns := [], harness := (true, "fdf27ea83c67679bda916af1039a4c10dfc9772b56a0fd600d48075223a3b123"), looks := true }, kinds := [], alts := [], laidByText := true, laidKinds := [.sentinel, .sentinel, .sentinel, .sentinel], laidTests := true, laidLooks := .later }
def SlcRestsUptoCardSaid : Prop := Claim7.holds Tryd.pinned (.plain (OpenSpec.upto slcRestsSpec)) slcRestsUptoCard
end Rows
end Go.Proofs.YtojnhheeholaeaaDoor
