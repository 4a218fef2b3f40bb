/- CellsParts: the walk of whatever came in. -/
import Derived.Test.YtgknhojjnnljkaaDoorCePartsO
import Derived.Test.YtgknhojjnnljkaaDoorLaidFront
namespace Go.Proofs.YtgknhojjnnljkaaDoor
open Go Go.RowKit
set_option maxRecDepth 100000

/-- Of a row's list the one error that stands in its midst. -/
theorem err_mid {W : World} {l : List (String × DataW Unit)} (k : Nat) (h : laidMet Tryd.prog l W) (hids : (((l.drop k).take 1).map fun x => Tryd.prog.globalNamed x.1) = [errIds[0]?])
    (hk : ∀ x ∈ (l.drop k).take 1, ∃ text, x.2 = .iface "*errors.errorString" (.ptr (.agg [.lit (.string text)]))) : ∃ a, W.cell? ⟨0, 0, none⟩ = some (errV a) := by
  have h1 : laidMet Tryd.prog ((l.drop k).take 1) W := laid_front (l2 := (l.drop k).drop 1) (by rw [List.take_append_drop]; exact laid_back k h)
  obtain ⟨es, hes⟩ := errs_of_sel [0] ((l.drop k).take 1) h1 hids (by decide) hk (by kernel_rfl) (by decide)
  obtain ⟨a, _, ha⟩ := hes.get 0 0 (by decide) rfl
  exact ⟨a, ha⟩
theorem cellsParts_facts {W : World} (h : laidMetH Tryd.prog Rows.cellsPartsRow.laid W) : ∃ a, W.cell? ⟨0, 0, none⟩ = some (errV a) := by
  rw [MakeChecks.laidMetH_plain _ _ _ (by kernel_rfl)] at h
  exact err_mid 1 h (by kernel_rfl) (by
    intro x hx
    simp only [Rows.cellsPartsRow, List.drop_succ_cons, List.drop_zero, List.take_succ_cons, List.take_zero, List.mem_cons, List.not_mem_nil, or_false] at hx
    subst hx
    exact ⟨_, rfl⟩)

theorem cellsParts_walk (W : World) {H : Type} {enc : TypeId × Value → H} {s0 s1 : Int} (_ : -9223372036854775808 ≤ s0 ∧ s0 ≤ 9223372036854775807 ∧ -9223372036854775808 ≤ s1 ∧ s1 ≤ 9223372036854775807)
    {f1 : Nat} {A : Option Addr} {n c : Nat} {x1 : DataW H × List MemPlace} (hf1 : DataW.trod enc Tryd.prog W 0 (fun _ => true) true f1 34 [.slice A n c] = some x1)
    {f2 : Nat} {B : Option Addr} {m d : Nat} {x2 : DataW H × List MemPlace} (hf2 : DataW.trod enc Tryd.prog W 0 (fun _ => true) true f2 56 [.slice B m d] = some x2)
    (hF : ∃ a, W.cell? ⟨0, 0, none⟩ = some (errV a)) : Calls Tryd.prog 4 #[pairV s0 s1, .slice A n c, .slice B m d] W (Fine W) := by
  obtain ⟨a, ha⟩ := hF
  obtain ⟨xs, hs, hnc, hc⟩ := opened Tryd.underlying34 Tryd.underlying5 (by kernel_rfl) hf1
  obtain ⟨B', m', d', zs, e1, hz, _, _⟩ := opened_ints hf2
  injection e1 with e1 e2 e3
  subst e1 e2 e3
  by_cases hl : 300 < n ∨ 30 < m ∨ 60 < s0 ∨ 60 < s1
  · exact parts_long W s0 s1 A n c B m d hl
  · cases hf : fitsS s0 s1 with
    | false => exact parts_bad ha s0 s1 A n c B m d (by omega) (by omega) (by omega) (by omega) hf
    | true =>
      unfold fitsS at hf
      simp only [Bool.and_eq_true, decide_eq_true_eq] at hf
      have := parts_ok (w := W) (c := s0.toNat) (R := s1.toNat) (by omega) (by omega) (by omega) (by omega) hs hnc hc (by omega) (d := d) hz (by omega)
      rw [Int.toNat_of_nonneg (by omega), Int.toNat_of_nonneg (by omega)] at this
      exact this
end Go.Proofs.YtgknhojjnnljkaaDoor
