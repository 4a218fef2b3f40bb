/-
  NARROWER THAN 'FOR EVERY INPUT', by the rows' own cells (each row's printed sentence says how): EndActs: laid · EndSends: laid · EndDeaf: laid · EndTakes: laid.
  DERIVED. THE GIVEN ROWS OF THIS SEAT. 4 by the template 'for every input the law returns true; each argument reads behind the call as it read before'; 0 by the template 'total and deterministic' (their statements: YtbnfhklpobephaaGreatDoorTotals.lean).
  GIVEN WITH THE SEED: the statements are not yours to turn. If you find one false, say at which input.
  Laid BY PROGRAM, IN A SANDBOX (cutbox-rows.mjs): the forced cells as the released guide's own fill.sh prints them over the translation 7b7b316f71d86353… (all of the seat's roots in one cut). By AI agents, Wed Nov 11 2026. No macro, syntax, notation, axiom, sorry.
-/
import Derived.Test.YtbnfhklpobephaaGreatDoorChecked
import GoSem.Claim
import GoSem.ClaimJoined
import GoSem.ClaimMapViews
import Derived.JoinedTies
import Derived.KernelRfl
namespace Go.Proofs.YtbnfhklpobephaaGreatDoor
/- THE CELL 'sum', in the pinned program and in every row, IS THE sha256 OF THE DUMP (.gsa) THAT YtbnfhklpobephaaGreatDoorProg.lean LOADS. Nothing in Lean hashes anything: it is a label: what it is worth is what the hold of that sum in a sandbox is worth. -/
noncomputable def Tryz.pinned : Pinned := { name := "ytbnfhklpobephaagreatdoor", sum := "7b7b316f71d86353983252d462130a4c390edd401c53428ed049f0c05bb8ace2", checked := Tryz.checked }
namespace Rows
def none {H : Type} : Left H := { results := [], args := [] }

/- WHAT THE LISTED PACKAGE-LEVEL VARIABLES READ AS WHEN THE CALL BEGINS. Each datum BY PROGRAM (the guide's laid-datum.mjs) off the statement by which the dump's own 'gosem.cut.vars' lays the variable. In a bare row this is a premise. The card (YtbnfhklpobephaaGreatDoorCards.lean) ties it to the program's text. -/
def laid_truchman_api_ErrRange {H : Type} : DataW H := .iface "*errors.errorString" (.ptr (.agg [.lit (.string [97, 32, 110, 117, 109, 98, 101, 114, 32, 105, 115, 32, 111, 117, 116, 32, 111, 102, 32, 105, 116, 115, 32, 114, 97, 110, 103, 101])]))
def laid_truchman_api_ErrFull {H : Type} : DataW H := .iface "*errors.errorString" (.ptr (.agg [.lit (.string [116, 104, 101, 114, 101, 32, 105, 115, 32, 110, 111, 32, 109, 111, 114, 101, 32, 114, 111, 111, 109])]))
def laid_truchman_api_ErrShort {H : Type} : DataW H := .iface "*errors.errorString" (.ptr (.agg [.lit (.string [115, 111, 109, 101, 116, 104, 105, 110, 103, 32, 105, 115, 32, 109, 105, 115, 115, 105, 110, 103, 32, 97, 116, 32, 116, 104, 101, 32, 101, 110, 100])]))
def laid_truchman_api_ErrLong {H : Type} : DataW H := .iface "*errors.errorString" (.ptr (.agg [.lit (.string [116, 104, 101, 114, 101, 32, 105, 115, 32, 109, 111, 114, 101, 32, 116, 104, 97, 110, 32, 109, 97, 121, 32, 98, 101])]))
def laid_truchman_api_ErrForm {H : Type} : DataW H := .iface "*errors.errorString" (.ptr (.agg [.lit (.string [105, 116, 32, 105, 115, 32, 110, 111, 116, 32, 111, 102, 32, 105, 116, 115, 32, 102, 111, 114, 109])]))
def laid_truchman_api_ErrName {H : Type} : DataW H := .iface "*errors.errorString" (.ptr (.agg [.lit (.string [116, 104, 101, 114, 101, 32, 105, 115, 32, 110, 111, 32, 115, 117, 99, 104, 32, 110, 97, 109, 101])]))
def laid_truchman_api_ErrNone {H : Type} : DataW H := .iface "*errors.errorString" (.ptr (.agg [.lit (.string [116, 104, 101, 114, 101, 32, 105, 115, 32, 110, 111, 110, 101])]))
def laid_truchman_api_ErrDup {H : Type} : DataW H := .iface "*errors.errorString" (.ptr (.agg [.lit (.string [105, 116, 32, 105, 115, 32, 116, 104, 101, 114, 101, 32, 97, 108, 114, 101, 97, 100, 121])]))
def laid_truchman_api_ErrKind {H : Type} : DataW H := .iface "*errors.errorString" (.ptr (.agg [.lit (.string [105, 116, 32, 105, 115, 32, 111, 102, 32, 97, 110, 111, 116, 104, 101, 114, 32, 107, 105, 110, 100])]))
def laid_truchman_api_ErrState {H : Type} : DataW H := .iface "*errors.errorString" (.ptr (.agg [.lit (.string [105, 116, 32, 99, 97, 110, 32, 110, 111, 116, 32, 98, 101, 32, 100, 111, 110, 101, 32, 105, 110, 32, 116, 104, 105, 115, 32, 115, 116, 97, 116, 101])]))
def laid_truchman_api_ErrDepth {H : Type} : DataW H := .iface "*errors.errorString" (.ptr (.agg [.lit (.string [105, 116, 32, 103, 111, 101, 115, 32, 116, 111, 111, 32, 100, 101, 101, 112])]))
def laid_truchman_api_ErrFuel {H : Type} : DataW H := .iface "*errors.errorString" (.ptr (.agg [.lit (.string [116, 104, 101, 32, 102, 117, 101, 108, 32, 105, 115, 32, 115, 112, 101, 110, 116])]))
def laid_truchman_api_ErrStack {H : Type} : DataW H := .iface "*errors.errorString" (.ptr (.agg [.lit (.string [116, 104, 101, 114, 101, 32, 97, 114, 101, 32, 116, 111, 111, 32, 109, 97, 110, 121, 32, 99, 97, 108, 108, 115, 32, 119, 105, 116, 104, 105, 110, 32, 111, 110, 101, 32, 97, 110, 111, 116, 104, 101, 114])]))
def laid_truchman_api_ErrClosed {H : Type} : DataW H := .iface "*errors.errorString" (.ptr (.agg [.lit (.string [105, 116, 32, 105, 115, 32, 99, 108, 111, 115, 101, 100])]))
def laid_truchman_api_ErrEmpty {H : Type} : DataW H := .iface "*errors.errorString" (.ptr (.agg [.lit (.string [105, 116, 32, 119, 111, 117, 108, 100, 32, 109, 97, 116, 99, 104, 32, 110, 111, 116, 104, 105, 110, 103, 32, 97, 116, 32, 97, 108, 108])]))
def laid_truchman_api_ErrNumber {H : Type} : DataW H := .iface "*errors.errorString" (.ptr (.agg [.lit (.string [116, 104, 101, 32, 116, 101, 120, 116, 32, 105, 115, 32, 110, 111, 32, 110, 117, 109, 98, 101, 114])]))
def laid_truchman_qstate_rows {H : Type} : DataW H := .agg [.agg [.agg [.lit (.int .i64 0), .lit (.bool false)], .lit (.string [110, 111]), .agg [.agg [.lit (.int .i64 1), .lit (.bool false)], .lit (.int .i64 1), .lit (.bool false)], .agg [.agg [.lit (.int .i64 0), .lit (.bool false)], .lit (.int .i64 0), .lit (.bool false)], .agg [.agg [.lit (.int .i64 3), .lit (.bool false)], .lit (.int .i64 1), .lit (.bool false)], .agg [.agg [.lit (.int .i64 0), .lit (.bool false)], .lit (.int .i64 0), .lit (.bool false)]], .agg [.agg [.lit (.int .i64 1), .lit (.bool false)], .lit (.string [121, 101, 115]), .agg [.agg [.lit (.int .i64 1), .lit (.bool false)], .lit (.int .i64 0), .lit (.bool false)], .agg [.agg [.lit (.int .i64 0), .lit (.bool false)], .lit (.int .i64 2), .lit (.bool false)], .agg [.agg [.lit (.int .i64 0), .lit (.bool false)], .lit (.int .i64 0), .lit (.bool false)], .agg [.agg [.lit (.int .i64 2), .lit (.bool false)], .lit (.int .i64 2), .lit (.bool false)]], .agg [.agg [.lit (.int .i64 2), .lit (.bool false)], .lit (.string [119, 97, 110, 116, 110, 111]), .agg [.agg [.lit (.int .i64 0), .lit (.bool false)], .lit (.int .i64 0), .lit (.bool true)], .agg [.agg [.lit (.int .i64 0), .lit (.bool false)], .lit (.int .i64 0), .lit (.bool false)], .agg [.agg [.lit (.int .i64 2), .lit (.bool true)], .lit (.int .i64 0), .lit (.bool false)], .agg [.agg [.lit (.int .i64 0), .lit (.bool false)], .lit (.int .i64 0), .lit (.bool false)]], .agg [.agg [.lit (.int .i64 2), .lit (.bool true)], .lit (.string [119, 97, 110, 116, 110, 111, 33]), .agg [.agg [.lit (.int .i64 1), .lit (.bool false)], .lit (.int .i64 0), .lit (.bool true)], .agg [.agg [.lit (.int .i64 3), .lit (.bool false)], .lit (.int .i64 1), .lit (.bool false)], .agg [.agg [.lit (.int .i64 0), .lit (.bool false)], .lit (.int .i64 0), .lit (.bool false)], .agg [.agg [.lit (.int .i64 2), .lit (.bool false)], .lit (.int .i64 0), .lit (.bool false)]], .agg [.agg [.lit (.int .i64 3), .lit (.bool false)], .lit (.string [119, 97, 110, 116, 121, 101, 115]), .agg [.agg [.lit (.int .i64 1), .lit (.bool false)], .lit (.int .i64 0), .lit (.bool false)], .agg [.agg [.lit (.int .i64 0), .lit (.bool false)], .lit (.int .i64 0), .lit (.bool false)], .agg [.agg [.lit (.int .i64 0), .lit (.bool false)], .lit (.int .i64 0), .lit (.bool false)], .agg [.agg [.lit (.int .i64 3), .lit (.bool true)], .lit (.int .i64 0), .lit (.bool false)]], .agg [.agg [.lit (.int .i64 3), .lit (.bool true)], .lit (.string [119, 97, 110, 116, 121, 101, 115, 33]), .agg [.agg [.lit (.int .i64 2), .lit (.bool false)], .lit (.int .i64 2), .lit (.bool false)], .agg [.agg [.lit (.int .i64 0), .lit (.bool false)], .lit (.int .i64 0), .lit (.bool false)], .agg [.agg [.lit (.int .i64 3), .lit (.bool false)], .lit (.int .i64 0), .lit (.bool false)], .agg [.agg [.lit (.int .i64 0), .lit (.bool false)], .lit (.int .i64 0), .lit (.bool false)]]]
def laid_truchman_table_verbs {H : Type} : DataW H := .agg [.agg [.lit (.int .i64 0), .lit (.int .i64 251), .lit (.int .i64 252)], .agg [.lit (.int .i64 0), .lit (.int .i64 253), .lit (.int .i64 254)]]

/-- 'truchmanlaw20.EndActs': WHATEVER THE INPUT: true; the input reads as it did. -/
def endActsSpec : ChangeSpec := { name := "endActs", fn := fun _ => fun
  | [d1, d2] => { results := [.lit (.bool true)], args := [d1, d2] }
  | _ => none }
def endActsRow : OpenClaim := { program := "ytbnfhklpobephaagreatdoor", sum := "7b7b316f71d86353983252d462130a4c390edd401c53428ed049f0c05bb8ace2", func := "truchman/truchmanlaw20.EndActs", spec := "endActs", inPlace := ["internal/reflectlite.TypeOf"], unfollowed := true, recurses := true, named := ["truchman/api.ErrRange", "truchman/api.ErrName", "truchman/api.ErrKind", "truchman/api.ErrForm", "truchman/qstate.rows", "truchman/table.verbs", "truchman/api.ErrState", "truchman/api.ErrDup", "truchman/api.ErrLong", "truchman/api.ErrNone", "truchman/api.ErrShort", "truchman/api.ErrFull", "truchman/api.ErrDepth", "truchman/api.ErrFuel", "truchman/api.ErrStack", "truchman/api.ErrClosed", "truchman/api.ErrEmpty", "truchman/api.ErrNumber"], plainKeys := false, apart := false, laid := [("truchman/api.ErrRange", laid_truchman_api_ErrRange), ("truchman/api.ErrFull", laid_truchman_api_ErrFull), ("truchman/api.ErrShort", laid_truchman_api_ErrShort), ("truchman/api.ErrLong", laid_truchman_api_ErrLong), ("truchman/api.ErrForm", laid_truchman_api_ErrForm), ("truchman/api.ErrName", laid_truchman_api_ErrName), ("truchman/api.ErrNone", laid_truchman_api_ErrNone), ("truchman/api.ErrDup", laid_truchman_api_ErrDup), ("truchman/api.ErrKind", laid_truchman_api_ErrKind), ("truchman/api.ErrState", laid_truchman_api_ErrState), ("truchman/api.ErrDepth", laid_truchman_api_ErrDepth), ("truchman/api.ErrFuel", laid_truchman_api_ErrFuel), ("truchman/api.ErrStack", laid_truchman_api_ErrStack), ("truchman/api.ErrClosed", laid_truchman_api_ErrClosed), ("truchman/api.ErrEmpty", laid_truchman_api_ErrEmpty), ("truchman/api.ErrNumber", laid_truchman_api_ErrNumber), ("truchman/qstate.rows", laid_truchman_qstate_rows), ("truchman/table.verbs", laid_truchman_table_verbs)] }
def EndActsSaid : Prop := endActsRow.holds Tryz.pinned (OpenSpec.ofChange endActsSpec)

/-- ITS FALSE NEIGHBOUR: 'it returns false'. Refute it at one input. -/
def endActsWrong : ChangeSpec := { name := "endActs", fn := fun _ => fun
  | [d1, d2] => { results := [.lit (.bool false)], args := [d1, d2] }
  | _ => none }
def EndActsWrongFalsely : Prop := endActsRow.holds Tryz.pinned (OpenSpec.ofChange endActsWrong)

/-- 'truchmanlaw20.EndSends': WHATEVER THE INPUT: true; the input reads as it did. -/
def endSendsSpec : ChangeSpec := { name := "endSends", fn := fun _ => fun
  | [d1, d2] => { results := [.lit (.bool true)], args := [d1, d2] }
  | _ => none }
def endSendsRow : OpenClaim := { program := "ytbnfhklpobephaagreatdoor", sum := "7b7b316f71d86353983252d462130a4c390edd401c53428ed049f0c05bb8ace2", func := "truchman/truchmanlaw20.EndSends", spec := "endSends", inPlace := ["internal/reflectlite.TypeOf"], unfollowed := true, recurses := true, named := ["truchman/api.ErrRange", "truchman/api.ErrName", "truchman/api.ErrKind", "truchman/api.ErrForm", "truchman/qstate.rows", "truchman/table.verbs", "truchman/api.ErrState", "truchman/api.ErrDup", "truchman/api.ErrLong", "truchman/api.ErrNone", "truchman/api.ErrShort"], plainKeys := false, apart := false, laid := [("truchman/api.ErrRange", laid_truchman_api_ErrRange), ("truchman/api.ErrShort", laid_truchman_api_ErrShort), ("truchman/api.ErrLong", laid_truchman_api_ErrLong), ("truchman/api.ErrForm", laid_truchman_api_ErrForm), ("truchman/api.ErrName", laid_truchman_api_ErrName), ("truchman/api.ErrNone", laid_truchman_api_ErrNone), ("truchman/api.ErrDup", laid_truchman_api_ErrDup), ("truchman/api.ErrKind", laid_truchman_api_ErrKind), ("truchman/api.ErrState", laid_truchman_api_ErrState), ("truchman/qstate.rows", laid_truchman_qstate_rows), ("truchman/table.verbs", laid_truchman_table_verbs)] }
def EndSendsSaid : Prop := endSendsRow.holds Tryz.pinned (OpenSpec.ofChange endSendsSpec)

/-- ITS FALSE NEIGHBOUR: 'it returns false'. Refute it at one input. -/
def endSendsWrong : ChangeSpec := { name := "endSends", fn := fun _ => fun
  | [d1, d2] => { results := [.lit (.bool false)], args := [d1, d2] }
  | _ => none }
def EndSendsWrongFalsely : Prop := endSendsRow.holds Tryz.pinned (OpenSpec.ofChange endSendsWrong)

/-- 'truchmanlaw20.EndDeaf': WHATEVER THE INPUT: true; the input reads as it did. -/
def endDeafSpec : ChangeSpec := { name := "endDeaf", fn := fun _ => fun
  | [d1, d2, d3] => { results := [.lit (.bool true)], args := [d1, d2, d3] }
  | _ => none }
def endDeafRow : OpenClaim := { program := "ytbnfhklpobephaagreatdoor", sum := "7b7b316f71d86353983252d462130a4c390edd401c53428ed049f0c05bb8ace2", func := "truchman/truchmanlaw20.EndDeaf", spec := "endDeaf", unfollowed := true, recurses := true, named := ["truchman/api.ErrRange", "truchman/api.ErrName", "truchman/api.ErrKind", "truchman/api.ErrForm", "truchman/qstate.rows", "truchman/table.verbs", "truchman/api.ErrState", "truchman/api.ErrDup", "truchman/api.ErrLong", "truchman/api.ErrNone", "truchman/api.ErrShort"], plainKeys := false, apart := false, laid := [("truchman/api.ErrRange", laid_truchman_api_ErrRange), ("truchman/api.ErrShort", laid_truchman_api_ErrShort), ("truchman/api.ErrLong", laid_truchman_api_ErrLong), ("truchman/api.ErrForm", laid_truchman_api_ErrForm), ("truchman/api.ErrName", laid_truchman_api_ErrName), ("truchman/api.ErrNone", laid_truchman_api_ErrNone), ("truchman/api.ErrDup", laid_truchman_api_ErrDup), ("truchman/api.ErrKind", laid_truchman_api_ErrKind), ("truchman/api.ErrState", laid_truchman_api_ErrState), ("truchman/qstate.rows", laid_truchman_qstate_rows), ("truchman/table.verbs", laid_truchman_table_verbs)] }
def EndDeafSaid : Prop := endDeafRow.holds Tryz.pinned (OpenSpec.ofChange endDeafSpec)

/-- ITS FALSE NEIGHBOUR: 'it returns false'. Refute it at one input. -/
def endDeafWrong : ChangeSpec := { name := "endDeaf", fn := fun _ => fun
  | [d1, d2, d3] => { results := [.lit (.bool false)], args := [d1, d2, d3] }
  | _ => none }
def EndDeafWrongFalsely : Prop := endDeafRow.holds Tryz.pinned (OpenSpec.ofChange endDeafWrong)

/-- 'truchmanlaw20.EndTakes': WHATEVER THE INPUT: true; the input reads as it did. -/
def endTakesSpec : ChangeSpec := { name := "endTakes", fn := fun _ => fun
  | [d1, d2] => { results := [.lit (.bool true)], args := [d1, d2] }
  | _ => none }
def endTakesRow : OpenClaim := { program := "ytbnfhklpobephaagreatdoor", sum := "7b7b316f71d86353983252d462130a4c390edd401c53428ed049f0c05bb8ace2", func := "truchman/truchmanlaw20.EndTakes", spec := "endTakes", unfollowed := true, recurses := true, named := ["truchman/api.ErrRange", "truchman/api.ErrName", "truchman/api.ErrKind", "truchman/api.ErrForm", "truchman/qstate.rows", "truchman/table.verbs", "truchman/api.ErrState", "truchman/api.ErrDup", "truchman/api.ErrLong", "truchman/api.ErrNone", "truchman/api.ErrShort"], plainKeys := false, apart := false, laid := [("truchman/api.ErrRange", laid_truchman_api_ErrRange), ("truchman/api.ErrShort", laid_truchman_api_ErrShort), ("truchman/api.ErrLong", laid_truchman_api_ErrLong), ("truchman/api.ErrForm", laid_truchman_api_ErrForm), ("truchman/api.ErrName", laid_truchman_api_ErrName), ("truchman/api.ErrNone", laid_truchman_api_ErrNone), ("truchman/api.ErrDup", laid_truchman_api_ErrDup), ("truchman/api.ErrKind", laid_truchman_api_ErrKind), ("truchman/api.ErrState", laid_truchman_api_ErrState), ("truchman/qstate.rows", laid_truchman_qstate_rows), ("truchman/table.verbs", laid_truchman_table_verbs)] }
def EndTakesSaid : Prop := endTakesRow.holds Tryz.pinned (OpenSpec.ofChange endTakesSpec)

/-- ITS FALSE NEIGHBOUR: 'it returns false'. Refute it at one input. -/
def endTakesWrong : ChangeSpec := { name := "endTakes", fn := fun _ => fun
  | [d1, d2] => { results := [.lit (.bool false)], args := [d1, d2] }
  | _ => none }
def EndTakesWrongFalsely : Prop := endTakesRow.holds Tryz.pinned (OpenSpec.ofChange endTakesWrong)

/- THE SECOND FORM. 'bulk': how many values and letters a reading holds, each counted each time it is reached (what is shared counts as often as it is met; a slice's spare places count too). A statement '..UptoSaid' is the law's where the arguments, and the package variables that the reading takes, are together of bulk at most 1048576: NARROWER than '..Said'. Prove '..Said' where nothing that the law and all that it calls make is longer than what came in: it says more and counts as full. Else prove '..UptoSaid'. A law counts once. -/
mutual
def uptoBulk {H : Type} : DataW H → Nat
  | .lit (.string bytes) => bytes.length + 1
  | .lit _ => 1
  | .nil => 1
  | .ptr d => uptoBulk d + 1
  | .slice elems spare => uptoBulkAll elems + uptoBulkAll spare + 1
  | .agg parts => uptoBulkAll parts + 1
  | .iface _ d => uptoBulk d + 1
  | .map entries => uptoBulkEntries entries + 1
  | .held _ => 1
def uptoBulkAll {H : Type} : List (DataW H) → Nat
  | [] => 0
  | d :: r => uptoBulk d + uptoBulkAll r
def uptoBulkEntries {H : Type} : List (Lit × DataW H) → Nat
  | [] => 0
  | x :: r => uptoBulkEntry x + uptoBulkEntries r
def uptoBulkEntry {H : Type} : Lit × DataW H → Nat
  | (.string bytes, d) => bytes.length + uptoBulk d + 1
  | (_, d) => uptoBulk d + 1
 end
def uptoSmall : (H : Type) → List (DataW H) → Bool := fun _ ds => decide (uptoBulkAll ds ≤ 1048576)
def OpenSpec.upto (s : _root_.Go.ChangeSpec) : _root_.Go.OpenSpec := { _root_.Go.OpenSpec.ofChange s with cond := some uptoSmall }

/-- 'truchmanlaw20.EndActs', WHERE WHAT IT READS IS OF BULK AT MOST 1048576: true; the input reads as it did. -/
def endActsUptoRow : OpenClaim := { program := "ytbnfhklpobephaagreatdoor", sum := "7b7b316f71d86353983252d462130a4c390edd401c53428ed049f0c05bb8ace2", func := "truchman/truchmanlaw20.EndActs", spec := "endActs", inPlace := ["internal/reflectlite.TypeOf"], unfollowed := true, recurses := true, named := ["truchman/api.ErrRange", "truchman/api.ErrName", "truchman/api.ErrKind", "truchman/api.ErrForm", "truchman/qstate.rows", "truchman/table.verbs", "truchman/api.ErrState", "truchman/api.ErrDup", "truchman/api.ErrLong", "truchman/api.ErrNone", "truchman/api.ErrShort", "truchman/api.ErrFull", "truchman/api.ErrDepth", "truchman/api.ErrFuel", "truchman/api.ErrStack", "truchman/api.ErrClosed", "truchman/api.ErrEmpty", "truchman/api.ErrNumber"], plainKeys := false, apart := false, laid := [("truchman/api.ErrRange", laid_truchman_api_ErrRange), ("truchman/api.ErrFull", laid_truchman_api_ErrFull), ("truchman/api.ErrShort", laid_truchman_api_ErrShort), ("truchman/api.ErrLong", laid_truchman_api_ErrLong), ("truchman/api.ErrForm", laid_truchman_api_ErrForm), ("truchman/api.ErrName", laid_truchman_api_ErrName), ("truchman/api.ErrNone", laid_truchman_api_ErrNone), ("truchman/api.ErrDup", laid_truchman_api_ErrDup), ("truchman/api.ErrKind", laid_truchman_api_ErrKind), ("truchman/api.ErrState", laid_truchman_api_ErrState), ("truchman/api.ErrDepth", laid_truchman_api_ErrDepth), ("truchman/api.ErrFuel", laid_truchman_api_ErrFuel), ("truchman/api.ErrStack", laid_truchman_api_ErrStack), ("truchman/api.ErrClosed", laid_truchman_api_ErrClosed), ("truchman/api.ErrEmpty", laid_truchman_api_ErrEmpty), ("truchman/api.ErrNumber", laid_truchman_api_ErrNumber), ("truchman/qstate.rows", laid_truchman_qstate_rows), ("truchman/table.verbs", laid_truchman_table_verbs)], narrowed := true }
def EndActsUptoSaid : Prop := endActsUptoRow.holds Tryz.pinned (OpenSpec.upto endActsSpec)

/-- 'truchmanlaw20.EndSends', WHERE WHAT IT READS IS OF BULK AT MOST 1048576: true; the input reads as it did. -/
def endSendsUptoRow : OpenClaim := { program := "ytbnfhklpobephaagreatdoor", sum := "7b7b316f71d86353983252d462130a4c390edd401c53428ed049f0c05bb8ace2", func := "truchman/truchmanlaw20.EndSends", spec := "endSends", inPlace := ["internal/reflectlite.TypeOf"], unfollowed := true, recurses := true, named := ["truchman/api.ErrRange", "truchman/api.ErrName", "truchman/api.ErrKind", "truchman/api.ErrForm", "truchman/qstate.rows", "truchman/table.verbs", "truchman/api.ErrState", "truchman/api.ErrDup", "truchman/api.ErrLong", "truchman/api.ErrNone", "truchman/api.ErrShort"], plainKeys := false, apart := false, laid := [("truchman/api.ErrRange", laid_truchman_api_ErrRange), ("truchman/api.ErrShort", laid_truchman_api_ErrShort), ("truchman/api.ErrLong", laid_truchman_api_ErrLong), ("truchman/api.ErrForm", laid_truchman_api_ErrForm), ("truchman/api.ErrName", laid_truchman_api_ErrName), ("truchman/api.ErrNone", laid_truchman_api_ErrNone), ("truchman/api.ErrDup", laid_truchman_api_ErrDup), ("truchman/api.ErrKind", laid_truchman_api_ErrKind), ("truchman/api.ErrState", laid_truchman_api_ErrState), ("truchman/qstate.rows", laid_truchman_qstate_rows), ("truchman/table.verbs", laid_truchman_table_verbs)], narrowed := true }
def EndSendsUptoSaid : Prop := endSendsUptoRow.holds Tryz.pinned (OpenSpec.upto endSendsSpec)

/-- 'truchmanlaw20.EndDeaf', WHERE WHAT IT READS IS OF BULK AT MOST 1048576: true; the input reads as it did. -/
def endDeafUptoRow : OpenClaim := { program := "ytbnfhklpobephaagreatdoor", sum := "7b7b316f71d86353983252d462130a4c390edd401c53428ed049f0c05bb8ace2", func := "truchman/truchmanlaw20.EndDeaf", spec := "endDeaf", unfollowed := true, recurses := true, named := ["truchman/api.ErrRange", "truchman/api.ErrName", "truchman/api.ErrKind", "truchman/api.ErrForm", "truchman/qstate.rows", "truchman/table.verbs", "truchman/api.ErrState", "truchman/api.ErrDup", "truchman/api.ErrLong", "truchman/api.ErrNone", "truchman/api.ErrShort"], plainKeys := false, apart := false, laid := [("truchman/api.ErrRange", laid_truchman_api_ErrRange), ("truchman/api.ErrShort", laid_truchman_api_ErrShort), ("truchman/api.ErrLong", laid_truchman_api_ErrLong), ("truchman/api.ErrForm", laid_truchman_api_ErrForm), ("truchman/api.ErrName", laid_truchman_api_ErrName), ("truchman/api.ErrNone", laid_truchman_api_ErrNone), ("truchman/api.ErrDup", laid_truchman_api_ErrDup), ("truchman/api.ErrKind", laid_truchman_api_ErrKind), ("truchman/api.ErrState", laid_truchman_api_ErrState), ("truchman/qstate.rows", laid_truchman_qstate_rows), ("truchman/table.verbs", laid_truchman_table_verbs)], narrowed := true }
def EndDeafUptoSaid : Prop := endDeafUptoRow.holds Tryz.pinned (OpenSpec.upto endDeafSpec)

/-- 'truchmanlaw20.EndTakes', WHERE WHAT IT READS IS OF BULK AT MOST 1048576: true; the input reads as it did. -/
def endTakesUptoRow : OpenClaim := { program := "ytbnfhklpobephaagreatdoor", sum := "7b7b316f71d86353983252d462130a4c390edd401c53428ed049f0c05bb8ace2", func := "truchman/truchmanlaw20.EndTakes", spec := "endTakes", unfollowed := true, recurses := true, named := ["truchman/api.ErrRange", "truchman/api.ErrName", "truchman/api.ErrKind", "truchman/api.ErrForm", "truchman/qstate.rows", "truchman/table.verbs", "truchman/api.ErrState", "truchman/api.ErrDup", "truchman/api.ErrLong", "truchman/api.ErrNone", "truchman/api.ErrShort"], plainKeys := false, apart := false, laid := [("truchman/api.ErrRange", laid_truchman_api_ErrRange), ("truchman/api.ErrShort", laid_truchman_api_ErrShort), ("truchman/api.ErrLong", laid_truchman_api_ErrLong), ("truchman/api.ErrForm", laid_truchman_api_ErrForm), ("truchman/api.ErrName", laid_truchman_api_ErrName), ("truchman/api.ErrNone", laid_truchman_api_ErrNone), ("truchman/api.ErrDup", laid_truchman_api_ErrDup), ("truchman/api.ErrKind", laid_truchman_api_ErrKind), ("truchman/api.ErrState", laid_truchman_api_ErrState), ("truchman/qstate.rows", laid_truchman_qstate_rows), ("truchman/table.verbs", laid_truchman_table_verbs)], narrowed := true }
def EndTakesUptoSaid : Prop := endTakesUptoRow.holds Tryz.pinned (OpenSpec.upto endTakesSpec)

end Rows
end Go.Proofs.YtbnfhklpobephaaGreatDoor
