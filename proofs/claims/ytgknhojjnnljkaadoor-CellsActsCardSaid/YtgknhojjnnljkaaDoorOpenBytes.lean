
/- A slice of bytes that came in, read out of one cell. -/
import Derived.Test.YtgknhojjnnljkaaDoorStructs
namespace Go.Proofs.YtgknhojjnnljkaaDoor
open Go Go.ChangeShapes Go.WideShapes Go.ChangeAt Go.RowKit

theorem add_none (b o q : Nat) : (⟨b, o, none⟩ : Addr).add q = ⟨b, o + q, none⟩ := by unfold Addr.add; split <;> simp_all

/-- A slice of bytes, read out of one cell. -/
theorem opened_cell {H : Type} {enc : TypeId × Value → H} {W : World} {spare : Nat → Bool} {fuel : Nat} {v : Value} {x : DataW H × List MemPlace} (hf : DataW.trod enc Tryd.prog W 0 spare true fuel 34 [v] = some x) :
    ∃ A n c xs, v = .slice A n c ∧ Src W A n xs ∧ n ≤ c ∧ c ≤ 9223372036854775807 := by
  obtain ⟨d, p⟩ := x
  rcases Go.Deep.open_slice Tryd.underlying34 hf with ⟨h, _⟩ | ⟨a, len, cap, _, _, _, _, h, _⟩
  all_goals
    simp only [List.cons.injEq, and_true] at h
    subst h
    obtain ⟨xs, h1, h2, h3⟩ := opened Tryd.underlying34 Tryd.underlying5 (by kernel_rfl) hf
    exact ⟨_, _, _, xs, rfl, h1, h2, h3⟩

end Go.Proofs.YtgknhojjnnljkaaDoor
