/- CellsActs: the walk of whatever came in. -/
import Derived.Test.YtgknhojjnnljkaaDoorCeActsL
import Derived.Test.YtgknhojjnnljkaaDoorLaidFront
namespace Go.Proofs.YtgknhojjnnljkaaDoor
open Go Go.RowKit
set_option maxRecDepth 100000

theorem cellsActs_facts {W : World} (h : laidMetH Tryd.prog Rows.cellsActsRow.laid W) : ∃ es, ErrsAt W es := by
  rw [MakeChecks.laidMetH_plain _ _ _ (by kernel_rfl)] at h
  exact errs_mid 1 h (by kernel_rfl) (by
    intro x hx
    simp only [Rows.cellsActsRow, List.drop_succ_cons, List.drop_zero, List.take_succ_cons, List.take_zero, List.mem_cons, List.not_mem_nil, or_false] at hx
    rcases hx with rfl | rfl | rfl | rfl | rfl | rfl | rfl | rfl | rfl | rfl | rfl | rfl | rfl | rfl | rfl | rfl <;> exact ⟨_, rfl⟩)

theorem cellsActs_walk (W : World) {H : Type} {enc : TypeId × Value → H} {s0 s1 : Int} (_ : -9223372036854775808 ≤ s0 ∧ s0 ≤ 9223372036854775807 ∧ -9223372036854775808 ≤ s1 ∧ s1 ≤ 9223372036854775807)
    {f1 : Nat} {A : Option Addr} {n c : Nat} {x1 : DataW H × List MemPlace} (hf1 : DataW.trod enc Tryd.prog W 0 (fun _ => true) true f1 23 [.slice A n c] = some x1)
    {u0 u1 : Int} (hu : -9223372036854775808 ≤ u0 ∧ u0 ≤ 9223372036854775807 ∧ -9223372036854775808 ≤ u1 ∧ u1 ≤ 9223372036854775807)
    (hF : ∃ es, ErrsAt W es) : Calls Tryd.prog 3 #[pairV s0 s1, .slice A n c, pairV u0 u1] W (Fine W) := by
  obtain ⟨es, hes⟩ := hF
  obtain ⟨_, _, l, hl⟩ := open_cacts hf1
  by_cases he : 20 < n ∨ (40 < s0 ∧ s0 ≤ 200) ∨ (40 < s1 ∧ s1 ≤ 200)
  · exact acts_early W s0 s1 u0 u1 A n c he
  · cases hf : fitsS s0 s1 with
    | false => exact acts_bad hes s0 s1 u0 u1 A n c (by omega) (by omega) (by omega) hf
    | true =>
      unfold fitsS at hf
      simp only [Bool.and_eq_true, decide_eq_true_eq] at hf
      have := acts_ok hes (c := s0.toNat) (R := s1.toNat) (by omega) (by omega) (by omega) (by omega) c hl (by omega) u0 u1 ⟨hu.1, hu.2.1⟩ ⟨hu.2.2.1, hu.2.2.2⟩
      rw [Int.toNat_of_nonneg (by omega), Int.toNat_of_nonneg (by omega)] at this
      exact this
end Go.Proofs.YtgknhojjnnljkaaDoor
