/-
  DERIVED. GIVEN WITH THE SEED: THE PROGRAM's TIES (one call each: nine closed facts by the kernel) AND EACH ROW's TIE, after the 31st guide's Derived/Test/Toyas{Tie, Card}.lean. No idea stands in it: it is a product of the set-up. Laid BY PROGRAM, IN A SANDBOX (cutbox-door.mjs). By AI agents, Wed Nov 11 2026. No macro, syntax, notation, axiom, sorry.
-/
import Derived.Test.YthfancfmmphakaaDoorRows
import Derived.LaidByTextLater
import Derived.SevenTiedAt
import Derived.LaidSub
import Derived.LaidOnce
namespace Go.Proofs.YthfancfmmphakaaDoor
open Go
set_option maxRecDepth 100000
theorem seatTie1 : Tryd.prog.laidByTextLater [("truchman/api.ErrForm", Rows.laid_truchman_api_ErrForm), ("truchman/api.ErrState", Rows.laid_truchman_api_ErrState), ("truchman/qstate.rows", Rows.laid_truchman_qstate_rows)] [.sentinel, .sentinel, .data] true :=
  Program.laidByTextLater_by_one 100 8 115 (by kernel_rfl) (by kernel_rfl) (by kernel_rfl) (by kernel_rfl) (by kernel_rfl) (by kernel_rfl) (fun _ _ => by kernel_rfl)
theorem noOwnUnsafe : Tryd.pinned.checked.prog.headLifts.contains "ownunsafe" = false := by kernel_rfl
theorem tie : Tryd.prog.laidByTextLater [("truchman/api.ErrForm", Rows.laid_truchman_api_ErrForm), ("truchman/api.ErrState", Rows.laid_truchman_api_ErrState), ("truchman/qstate.rows", Rows.laid_truchman_qstate_rows)] [.sentinel, .sentinel, .data] true :=
  Program.laidByTextLater.sub seatTie1 ["truchman/api.ErrForm", "truchman/api.ErrState", "truchman/qstate.rows"] (by kernel_rfl) (by kernel_rfl)
theorem qstateStill_row_tie : Rows.qstateStillRow.laidByTextAt .later Tryd.pinned [.sentinel, .sentinel, .data] true :=
  OpenClaim.laidByTextAt_later rfl rfl tie noOwnUnsafe
theorem qstateRests_row_tie : Rows.qstateRestsRow.laidByTextAt .later Tryd.pinned [.sentinel, .sentinel, .data] true :=
  OpenClaim.laidByTextAt_later rfl rfl tie noOwnUnsafe
theorem qstateStillUpto_row_tie : Rows.qstateStillUptoRow.laidByTextAt .later Tryd.pinned [.sentinel, .sentinel, .data] true :=
  OpenClaim.laidByTextAt_later rfl rfl tie noOwnUnsafe
theorem qstateRestsUpto_row_tie : Rows.qstateRestsUptoRow.laidByTextAt .later Tryd.pinned [.sentinel, .sentinel, .data] true :=
  OpenClaim.laidByTextAt_later rfl rfl tie noOwnUnsafe
end Go.Proofs.YthfancfmmphakaaDoor
