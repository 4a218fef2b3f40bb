/- An error and its number, in every world that only grew. -/
import Derived.Test.YtgknhojjnnljkaaDoorErrSel
namespace Go.Proofs.YtgknhojjnnljkaaDoor
open Go Go.RowKit

theorem ErrV.uniq {es : List Addr} {v v' : Value} {num : Nat} (h : ErrV es v num) (h' : ErrV es v' num) : v = v' := by
  rcases h with ⟨rfl, rfl⟩ | ⟨i, a, rfl, ha, rfl⟩
  · rcases h' with ⟨_, rfl⟩ | ⟨j, b, hj, _, _⟩
    · rfl
    · omega
  · rcases h' with ⟨h0, _⟩ | ⟨j, b, hj, hb, rfl⟩
    · omega
    · obtain rfl : i = j := by omega
      rw [ha] at hb
      injection hb with hb
      rw [hb]
/-- An error, and its number. -/
@[reducible] def NumIs (w : World) (E : Value) (z : Int) : Prop := ∀ W, Only (fun _ => False) w W → Calls Tryd.prog 9 #[E] W fun e w' => e = .returned (.int .i64 z) ∧ Only (fun _ => False) W w'
theorem num_is {w : World} {es : List Addr} (h : ErrsAt w es) {E : Value} {k : Nat} (hv : ErrV es E k) : NumIs w E (k : Int) := fun _ ho => num_any (h.only ho) hv
end Go.Proofs.YtgknhojjnnljkaaDoor
