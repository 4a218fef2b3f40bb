
/- Package codes: is a number a verb? -/
import Derived.Test.YtlmkpembccehkaaGreatDoorInfo
namespace Go.Proofs.YtlmkpembccehkaaGreatDoor
open Go Go.RowKit

theorem verb_any (W : World) (c : Int) : Calls Tryz.prog 25 #[.int .i64 c] W fun e w' => e = .returned (.bool (decide (251 ≤ c ∧ c ≤ 254))) ∧ w' = W := by
  by_cases h1 : c < 251
  · go_enter Tryz.func25, Tryz.ntmps25
    go_wp2
    go_ret
    refine ⟨congrArg (fun b => Ending.returned (Value.bool b)) ?_, rfl⟩
    first | (simp; done) | (simp; omega)
  · go_enter Tryz.func25, Tryz.ntmps25
    go_wp2
    go_ret
    refine ⟨congrArg (fun b => Ending.returned (Value.bool b)) ?_, rfl⟩
    first | (simp; done) | (simp; omega)
end Go.Proofs.YtlmkpembccehkaaGreatDoor
