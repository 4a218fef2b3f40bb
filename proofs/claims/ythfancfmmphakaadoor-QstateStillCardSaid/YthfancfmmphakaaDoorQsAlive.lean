/- The chapter's example of layer 10, as its statements ask it first. -/
import Derived.Test.YthfancfmmphakaaDoorQsAsk
namespace Go.Proofs.YthfancfmmphakaaDoor
open Go Go.RowKit
set_option maxRecDepth 100000
set_option maxHeartbeats 4000000

theorem alive_any {W : World} (hT : QsW W) : Calls Tryd.prog 5 #[] W fun e w' => e = .returned (.bool true) ∧ Only (fun _ => False) W w' := by
  have HT := Lib.hid hT
  have HH : Hid (Calls Tryd.prog 6 #[.agg #[.int .i64 0, .bool false], .bool true, .bool true] W fun e w' => e = .returned (.tuple #[.agg #[.int .i64 1, .bool false, .int .i64 1, .bool false], .nilIface]) ∧ Only (fun _ => False) W w') := hear_some hT 0 false true true (s := .no) rfl
  have HWd : Hid (∀ w, Only (fun _ => False) W w → Calls Tryd.prog 13 #[.agg #[.int .i64 1, .bool false]] w fun e w' => e = .returned (.string ⟨#[121, 101, 115]⟩) ∧ Only (fun _ => False) w w') := fun w ho => word_any (hT.only ho) 1 false
  have HOn : Hid (∀ w, Calls Tryd.prog 10 #[.agg #[.int .i64 1, .bool false]] w fun e w' => e = .returned (.bool true) ∧ Only (fun _ => False) w w') := fun w => on_any w 1 false
  clear hT
  go_enter Tryd.func5, Tryd.ntmps5
  go_wp2_with (first
    | (go_at_call 6; refine HH.out.mono ?_; rintro e w1 ⟨rfl, ho1⟩)
    | (go_at_call 10; refine (HOn.out _).mono ?_; rintro e w2 ⟨rfl, ho2⟩; have hB2 := (Blk.new w1 26 [.int .i64 1, .bool false, .int .i64 1, .bool false]).only ho2 (fun h => h); have c0 := hB2.cell 0; have c1 := hB2.cell 1; have ho12 := (ho1.alloc _).trans ho2 (fun _ h => h.elim); clear hB2 ho2)
    | (go_at_call 13; refine (HWd.out _ ho12).mono ?_; rintro e w3 ⟨rfl, ho3⟩)
    | fail)
  go_ret
  exact ⟨rfl, ho12.trans ho3 (fun _ h => h.elim)⟩
end Go.Proofs.YthfancfmmphakaaDoor
