/-
  NARROWER THAN 'FOR EVERY INPUT', by the rows' own cells (each row's printed sentence says how): QstateStill: laid · QstateRests: laid.
  DERIVED. THE GIVEN ROWS OF THIS SEAT. 2 by the template 'for every input the law returns true; each argument reads behind the call as it read before'; 0 by the template 'total and deterministic' (their statements: YthfancfmmphakaaDoorTotals.lean).
  GIVEN WITH THE SEED: the statements are not yours to turn. If you find one false, say at which input.
  Laid BY PROGRAM, IN A SANDBOX (cutbox-rows.mjs): the forced cells as the released guide's own fill.sh prints them over the translation 7fc757c94f41af96… (all of the seat's roots in one cut). By AI agents, Wed Nov 11 2026. No macro, syntax, notation, axiom, sorry.
-/
import Derived.Test.YthfancfmmphakaaDoorChecked
import GoSem.Claim
import GoSem.ClaimJoined
import GoSem.ClaimMapViews
import Derived.JoinedTies
import Derived.KernelRfl
namespace Go.Proofs.YthfancfmmphakaaDoor
/- THE CELL 'sum', in the pinned program and in every row, IS THE sha256 OF THE DUMP (.gsa) THAT YthfancfmmphakaaDoorProg.lean LOADS. Nothing in Lean hashes anything: it is a label: what it is worth is what the hold of that sum in a sandbox is worth. -/
noncomputable def Tryd.pinned : Pinned := { name := "ythfancfmmphakaadoor", sum := "7fc757c94f41af96f5a274d49e992d6f4b755a2014ee914b652510a9dc56af1e", checked := Tryd.checked }
namespace Rows
def none {H : Type} : Left H := { results := [], args := [] }

/- WHAT THE LISTED PACKAGE-LEVEL VARIABLES READ AS WHEN THE CALL BEGINS. Each datum BY PROGRAM (the guide's laid-datum.mjs) off the statement by which the dump's own 'gosem.cut.vars' lays the variable. In a bare row this is a premise. The card (YthfancfmmphakaaDoorCards.lean) ties it to the program's text. -/
def laid_truchman_api_ErrForm {H : Type} : DataW H := .iface "*errors.errorString" (.ptr (.agg [.lit (.string [105, 116, 32, 105, 115, 32, 110, 111, 116, 32, 111, 102, 32, 105, 116, 115, 32, 102, 111, 114, 109])]))
def laid_truchman_api_ErrState {H : Type} : DataW H := .iface "*errors.errorString" (.ptr (.agg [.lit (.string [105, 116, 32, 99, 97, 110, 32, 110, 111, 116, 32, 98, 101, 32, 100, 111, 110, 101, 32, 105, 110, 32, 116, 104, 105, 115, 32, 115, 116, 97, 116, 101])]))
def laid_truchman_qstate_rows {H : Type} : DataW H := .agg [.agg [.agg [.lit (.int .i64 0), .lit (.bool false)], .lit (.string [110, 111]), .agg [.agg [.lit (.int .i64 1), .lit (.bool false)], .lit (.int .i64 1), .lit (.bool false)], .agg [.agg [.lit (.int .i64 0), .lit (.bool false)], .lit (.int .i64 0), .lit (.bool false)], .agg [.agg [.lit (.int .i64 3), .lit (.bool false)], .lit (.int .i64 1), .lit (.bool false)], .agg [.agg [.lit (.int .i64 0), .lit (.bool false)], .lit (.int .i64 0), .lit (.bool false)]], .agg [.agg [.lit (.int .i64 1), .lit (.bool false)], .lit (.string [121, 101, 115]), .agg [.agg [.lit (.int .i64 1), .lit (.bool false)], .lit (.int .i64 0), .lit (.bool false)], .agg [.agg [.lit (.int .i64 0), .lit (.bool false)], .lit (.int .i64 2), .lit (.bool false)], .agg [.agg [.lit (.int .i64 0), .lit (.bool false)], .lit (.int .i64 0), .lit (.bool false)], .agg [.agg [.lit (.int .i64 2), .lit (.bool false)], .lit (.int .i64 2), .lit (.bool false)]], .agg [.agg [.lit (.int .i64 2), .lit (.bool false)], .lit (.string [119, 97, 110, 116, 110, 111]), .agg [.agg [.lit (.int .i64 0), .lit (.bool false)], .lit (.int .i64 0), .lit (.bool true)], .agg [.agg [.lit (.int .i64 0), .lit (.bool false)], .lit (.int .i64 0), .lit (.bool false)], .agg [.agg [.lit (.int .i64 2), .lit (.bool true)], .lit (.int .i64 0), .lit (.bool false)], .agg [.agg [.lit (.int .i64 0), .lit (.bool false)], .lit (.int .i64 0), .lit (.bool false)]], .agg [.agg [.lit (.int .i64 2), .lit (.bool true)], .lit (.string [119, 97, 110, 116, 110, 111, 33]), .agg [.agg [.lit (.int .i64 1), .lit (.bool false)], .lit (.int .i64 0), .lit (.bool true)], .agg [.agg [.lit (.int .i64 3), .lit (.bool false)], .lit (.int .i64 1), .lit (.bool false)], .agg [.agg [.lit (.int .i64 0), .lit (.bool false)], .lit (.int .i64 0), .lit (.bool false)], .agg [.agg [.lit (.int .i64 2), .lit (.bool false)], .lit (.int .i64 0), .lit (.bool false)]], .agg [.agg [.lit (.int .i64 3), .lit (.bool false)], .lit (.string [119, 97, 110, 116, 121, 101, 115]), .agg [.agg [.lit (.int .i64 1), .lit (.bool false)], .lit (.int .i64 0), .lit (.bool false)], .agg [.agg [.lit (.int .i64 0), .lit (.bool false)], .lit (.int .i64 0), .lit (.bool false)], .agg [.agg [.lit (.int .i64 0), .lit (.bool false)], .lit (.int .i64 0), .lit (.bool false)], .agg [.agg [.lit (.int .i64 3), .lit (.bool true)], .lit (.int .i64 0), .lit (.bool false)]], .agg [.agg [.lit (.int .i64 3), .lit (.bool true)], .lit (.string [119, 97, 110, 116, 121, 101, 115, 33]), .agg [.agg [.lit (.int .i64 2), .lit (.bool false)], .lit (.int .i64 2), .lit (.bool false)], .agg [.agg [.lit (.int .i64 0), .lit (.bool false)], .lit (.int .i64 0), .lit (.bool false)], .agg [.agg [.lit (.int .i64 3), .lit (.bool false)], .lit (.int .i64 0), .lit (.bool false)], .agg [.agg [.lit (.int .i64 0), .lit (.bool false)], .lit (.int .i64 0), .lit (.bool false)]]]

/-- 'truchmanlaw10.QstateStill': WHATEVER THE INPUT: true; the input reads as it did. -/
def qstateStillSpec : ChangeSpec := { name := "qstateStill", fn := fun _ => fun
  | [d1, d2, d3] => { results := [.lit (.bool true)], args := [d1, d2, d3] }
  | _ => none }
def qstateStillRow : OpenClaim := { program := "ythfancfmmphakaadoor", sum := "7fc757c94f41af96f5a274d49e992d6f4b755a2014ee914b652510a9dc56af1e", func := "truchman/truchmanlaw10.QstateStill", spec := "qstateStill", named := ["truchman/api.ErrForm", "truchman/qstate.rows", "truchman/api.ErrState"], apart := false, laid := [("truchman/api.ErrForm", laid_truchman_api_ErrForm), ("truchman/api.ErrState", laid_truchman_api_ErrState), ("truchman/qstate.rows", laid_truchman_qstate_rows)] }
def QstateStillSaid : Prop := qstateStillRow.holds Tryd.pinned (OpenSpec.ofChange qstateStillSpec)

/-- ITS FALSE NEIGHBOUR: 'it returns false'. Refute it at one input. -/
def qstateStillWrong : ChangeSpec := { name := "qstateStill", fn := fun _ => fun
  | [d1, d2, d3] => { results := [.lit (.bool false)], args := [d1, d2, d3] }
  | _ => none }
def QstateStillWrongFalsely : Prop := qstateStillRow.holds Tryd.pinned (OpenSpec.ofChange qstateStillWrong)

/-- 'truchmanlaw10.QstateRests': WHATEVER THE INPUT: true; the input reads as it did. -/
def qstateRestsSpec : ChangeSpec := { name := "qstateRests", fn := fun _ => fun
  | [d1, d2] => { results := [.lit (.bool true)], args := [d1, d2] }
  | _ => none }
def qstateRestsRow : OpenClaim := { program := "ythfancfmmphakaadoor", sum := "7fc757c94f41af96f5a274d49e992d6f4b755a2014ee914b652510a9dc56af1e", func := "truchman/truchmanlaw10.QstateRests", spec := "qstateRests", named := ["truchman/api.ErrForm", "truchman/qstate.rows", "truchman/api.ErrState"], apart := false, laid := [("truchman/api.ErrForm", laid_truchman_api_ErrForm), ("truchman/api.ErrState", laid_truchman_api_ErrState), ("truchman/qstate.rows", laid_truchman_qstate_rows)] }
def QstateRestsSaid : Prop := qstateRestsRow.holds Tryd.pinned (OpenSpec.ofChange qstateRestsSpec)

/-- ITS FALSE NEIGHBOUR: 'it returns false'. Refute it at one input. -/
def qstateRestsWrong : ChangeSpec := { name := "qstateRests", fn := fun _ => fun
  | [d1, d2] => { results := [.lit (.bool false)], args := [d1, d2] }
  | _ => none }
def QstateRestsWrongFalsely : Prop := qstateRestsRow.holds Tryd.pinned (OpenSpec.ofChange qstateRestsWrong)

/- THE SECOND FORM. 'bulk': how many values and letters a reading holds, each counted each time it is reached (what is shared counts as often as it is met; a slice's spare places count too). A statement '..UptoSaid' is the law's where the arguments, and the package variables that the reading takes, are together of bulk at most 1048576: NARROWER than '..Said'. Prove '..Said' where nothing that the law and all that it calls make is longer than what came in: it says more and counts as full. Else prove '..UptoSaid'. A law counts once. -/
mutual
def uptoBulk {H : Type} : DataW H → Nat
  | .lit (.string bytes) => bytes.length + 1
  | .lit _ => 1
  | .nil => 1
  | .ptr d => uptoBulk d + 1
  | .slice elems spare => uptoBulkAll elems + uptoBulkAll spare + 1
  | .agg parts => uptoBulkAll parts + 1
  | .iface _ d => uptoBulk d + 1
  | .map entries => uptoBulkEntries entries + 1
  | .held _ => 1
def uptoBulkAll {H : Type} : List (DataW H) → Nat
  | [] => 0
  | d :: r => uptoBulk d + uptoBulkAll r
def uptoBulkEntries {H : Type} : List (Lit × DataW H) → Nat
  | [] => 0
  | x :: r => uptoBulkEntry x + uptoBulkEntries r
def uptoBulkEntry {H : Type} : Lit × DataW H → Nat
  | (.string bytes, d) => bytes.length + uptoBulk d + 1
  | (_, d) => uptoBulk d + 1
 end
def uptoSmall : (H : Type) → List (DataW H) → Bool := fun _ ds => decide (uptoBulkAll ds ≤ 1048576)
def OpenSpec.upto (s : _root_.Go.ChangeSpec) : _root_.Go.OpenSpec := { _root_.Go.OpenSpec.ofChange s with cond := some uptoSmall }

/-- 'truchmanlaw10.QstateStill', WHERE WHAT IT READS IS OF BULK AT MOST 1048576: true; the input reads as it did. -/
def qstateStillUptoRow : OpenClaim := { program := "ythfancfmmphakaadoor", sum := "7fc757c94f41af96f5a274d49e992d6f4b755a2014ee914b652510a9dc56af1e", func := "truchman/truchmanlaw10.QstateStill", spec := "qstateStill", named := ["truchman/api.ErrForm", "truchman/qstate.rows", "truchman/api.ErrState"], apart := false, laid := [("truchman/api.ErrForm", laid_truchman_api_ErrForm), ("truchman/api.ErrState", laid_truchman_api_ErrState), ("truchman/qstate.rows", laid_truchman_qstate_rows)], narrowed := true }
def QstateStillUptoSaid : Prop := qstateStillUptoRow.holds Tryd.pinned (OpenSpec.upto qstateStillSpec)

/-- 'truchmanlaw10.QstateRests', WHERE WHAT IT READS IS OF BULK AT MOST 1048576: true; the input reads as it did. -/
def qstateRestsUptoRow : OpenClaim := { program := "ythfancfmmphakaadoor", sum := "7fc757c94f41af96f5a274d49e992d6f4b755a2014ee914b652510a9dc56af1e", func := "truchman/truchmanlaw10.QstateRests", spec := "qstateRests", named := ["truchman/api.ErrForm", "truchman/qstate.rows", "truchman/api.ErrState"], apart := false, laid := [("truchman/api.ErrForm", laid_truchman_api_ErrForm), ("truchman/api.ErrState", laid_truchman_api_ErrState), ("truchman/qstate.rows", laid_truchman_qstate_rows)], narrowed := true }
def QstateRestsUptoSaid : Prop := qstateRestsUptoRow.holds Tryd.pinned (OpenSpec.upto qstateRestsSpec)

end Rows
end Go.Proofs.YthfancfmmphakaaDoor
