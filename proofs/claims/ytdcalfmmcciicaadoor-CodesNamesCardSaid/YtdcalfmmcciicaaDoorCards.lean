/-
  DERIVED. GIVEN WITH THE SEED: THE CARDS: each row of YtdcalfmmcciicaaDoorRows.lean that lists a variable, with what it lists TIED to the program's text (the seventh form; the later family's looks); each row that meets fmt, with fmt's text TOLD by the authors' own Lean function (tested against real Go, not proved from fmt's source: count such statements apart). THE CARD IS WHAT COUNTS. Prove the row's statement (the work); the ties are given (YtdcalfmmcciicaaDoorTie.lean); close each card by the builder's one call (the guide's Derived/Test/ToyasCard.lean, 'card_holds'). Laid BY PROGRAM, IN A SANDBOX (cutbox-door.mjs). By AI agents, Wed Nov 11 2026. No macro, syntax, notation, axiom, sorry.
-/
import Derived.Test.YtdcalfmmcciicaaDoorRows
import GoSem.ClaimSeven
namespace Go.Proofs.YtdcalfmmcciicaaDoor
namespace Rows

/-- THE TIED CARD OF 'truchmanlaw04.CodesTell'. -/
def codesTellCard : Claim7 := { stood := { row := codesTellRow, standIns := [], harness := (true, "5dbfd2be70391470b611a5ee4fc75225eef5bf0d72e174870a87fd1c066a8c7b"), looks := true }, kinds := [], alts := [], laidByText := true, laidKinds := [.data, .data, .data, .data, .data], laidTests := true, laidLooks := .later }
def CodesTellCardSaid : Prop := Claim7.holds Tryd.pinned (.plain (OpenSpec.ofChange codesTellSpec)) codesTellCard

/-- THE TIED CARD OF 'truchmanlaw04.CodesNames'. -/
def codesNamesCard : Claim7 := { stood := { row := codesNamesRow, standIns := [], harness := (true, "5dbfd2be70391470b611a5ee4fc75225eef5bf0d72e174870a87fd1c066a8c7b"), looks := true }, kinds := [], alts := [], laidByText := true, laidKinds := [.data, .data, .data, .sentinel, .sentinel, .data], laidTests := true, laidLooks := .later }
def CodesNamesCardSaid : Prop := Claim7.holds Tryd.pinned (.plain (OpenSpec.ofChange codesNamesSpec)) codesNamesCard

/-- THE TIED CARD OF 'truchmanlaw04.CodesOwn'. -/
def codesOwnCard : Claim7 := { stood := { row := codesOwnRow, standIns := [], harness := (true, "5dbfd2be70391470b611a5ee4fc75225eef5bf0d72e174870a87fd1c066a8c7b"), looks := true }, kinds := [], alts := [], laidByText := true, laidKinds := [.data, .data, .data, .sentinel, .sentinel, .data, .data], laidTests := true, laidLooks := .later }
def CodesOwnCardSaid : Prop := Claim7.holds Tryd.pinned (.plain (OpenSpec.ofChange codesOwnSpec)) codesOwnCard

/-- THE SECOND FORM's CARD OF 'truchmanlaw04.CodesTell'. -/
def codesTellUptoCard : Claim7 := { stood := { row := codesTellUptoRow, standIns := [], harness := (true, "5dbfd2be70391470b611a5ee4fc75225eef5bf0d72e174870a87fd1c066a8c7b"), looks := true }, kinds := [], alts := [], laidByText := true, laidKinds := [.data, .data, .data, .data, .data], laidTests := true, laidLooks := .later }
def CodesTellUptoCardSaid : Prop := Claim7.holds Tryd.pinned (.plain (OpenSpec.upto codesTellSpec)) codesTellUptoCard

/-- THE SECOND FORM's CARD OF 'truchmanlaw04.CodesNames'. -/
def codesNamesUptoCard : Claim7 := { stood := { row := codesNamesUptoRow, standIns := [], harness := (true, "5dbfd2be70391470b611a5ee4fc75225eef5bf0d72e174870a87fd1c066a8c7b"), looks := true }, kinds := [], alts := [], laidByText := true, laidKinds := [.data, .data, .data, .sentinel, .sentinel, .data], laidTests := true, laidLooks := .later }
def CodesNamesUptoCardSaid : Prop := Claim7.holds Tryd.pinned (.plain (OpenSpec.upto codesNamesSpec)) codesNamesUptoCard

/-- THE SECOND FORM's CARD OF 'truchmanlaw04.CodesOwn'. -/
def codesOwnUptoCard : Claim7 := { stood := { row := codesOwnUptoRow, standIns := [], harness := (true, "5dbfd2be70391470b611a5ee4fc75225eef5bf0d72e174870a87fd1c066a8c7b"), looks := true }, kinds := [], alts := [], laidByText := true, laidKinds := [.data, .data, .data, .sentinel, .sentinel, .data, .data], laidTests := true, laidLooks := .later }
def CodesOwnUptoCardSaid : Prop := Claim7.holds Tryd.pinned (.plain (OpenSpec.upto codesOwnSpec)) codesOwnUptoCard
end Rows
end Go.Proofs.YtdcalfmmcciicaaDoor
