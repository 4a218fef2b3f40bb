/- Package codes: is a number a verb? -/
import Derived.Test.YtbjabjkmagekfaaDoorInfo
namespace Go.Proofs.YtbjabjkmagekfaaDoor
open Go Go.RowKit

theorem verb_any (W : World) (c : Int) : Calls Tryd.prog 40 #[.int .i64 c] W fun e w' => e = .returned (.bool (decide (251 ≤ c ∧ c ≤ 254))) ∧ w' = W := by
  by_cases h1 : c < 251
  · go_enter Tryd.func40, Tryd.ntmps40
    go_wp2
    go_ret
    refine ⟨congrArg (fun b => Ending.returned (Value.bool b)) ?_, rfl⟩
    first | (simp; done) | (simp; omega)
  · go_enter Tryd.func40, Tryd.ntmps40
    go_wp2
    go_ret
    refine ⟨congrArg (fun b => Ending.returned (Value.bool b)) ?_, rfl⟩
    first | (simp; done) | (simp; omega)

theorem cplain_any (W : World) (c : Int) : Calls Tryd.prog 41 #[.int .i64 c] W fun e w' => e = .returned (.bool (decide (241 ≤ c ∧ c ≤ 249))) ∧ w' = W := by
  by_cases h1 : c < 241
  · go_enter Tryd.func41, Tryd.ntmps41
    go_wp2
    go_ret
    refine ⟨congrArg (fun b => Ending.returned (Value.bool b)) ?_, rfl⟩
    first | (simp; done) | (simp; omega)
  · go_enter Tryd.func41, Tryd.ntmps41
    go_wp2
    go_ret
    refine ⟨congrArg (fun b => Ending.returned (Value.bool b)) ?_, rfl⟩
    first | (simp; done) | (simp; omega)
end Go.Proofs.YtbjabjkmagekfaaDoor
