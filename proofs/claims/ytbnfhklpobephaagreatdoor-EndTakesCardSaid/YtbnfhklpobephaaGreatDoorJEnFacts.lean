/- Several texts in one. -/
import Derived.Test.YtbnfhklpobephaaGreatDoorJEnTakesE
import Derived.Test.YtbnfhklpobephaaGreatDoorJScNew
import Derived.Test.YtbnfhklpobephaaGreatDoorEnTakesL
/- What the laws' rows list. -/
namespace Go.Proofs.YtbnfhklpobephaaGreatDoor
open Go Go.ChangeShapes Go.WideShapes Go.ChangeAt Go.RowKit
set_option maxRecDepth 100000
set_option maxHeartbeats 4000000

theorem endDeaf_facts {W : World} (h : laidMetH Tryz.prog Rows.endDeafRow.laid W) : TbW W ∧ ∃ es, ErrsAt W es := by
  rw [MakeChecks.laidMetH_plain _ _ _ (by kernel_rfl)] at h
  have h : laidMet Tryz.prog Rows.endDeafRow.laid W := h
  refine ⟨tb_facts (nm1 := "*errors.errorString") (nm2 := "*errors.errorString") (nm3 := "*errors.errorString") (nm4 := "*errors.errorString") h (by simp [Rows.endDeafRow, Rows.laid_truchman_api_ErrForm]; rfl) (by simp [Rows.endDeafRow, Rows.laid_truchman_api_ErrState]; rfl) (by simp [Rows.endDeafRow]) (by simp [Rows.endDeafRow, Rows.laid_truchman_api_ErrKind]; rfl) (by simp [Rows.endDeafRow, Rows.laid_truchman_api_ErrRange]; rfl) (by simp [Rows.endDeafRow]), ?_⟩
  have h9 : laidMet Tryz.prog (Rows.endDeafRow.laid.take 9) W := laid_front (l2 := Rows.endDeafRow.laid.drop 9) (by rw [List.take_append_drop]; exact h)
  obtain ⟨es, hes⟩ := errs_of_sel errSel (Rows.endDeafRow.laid.take 9) h9 (by kernel_rfl) (by decide) (by
    intro x hx
    simp only [Rows.endDeafRow, List.take_succ_cons, List.take_zero, List.mem_cons, List.not_mem_nil, or_false] at hx
    rcases hx with rfl | rfl | rfl | rfl | rfl | rfl | rfl | rfl | rfl <;> exact ⟨_, rfl⟩) (by kernel_rfl) (by decide)
  exact ⟨es, hes.all⟩
theorem endTakes_facts {W : World} (h : laidMetH Tryz.prog Rows.endTakesRow.laid W) : TbW W ∧ ∃ es, ErrsAt W es := by
  rw [MakeChecks.laidMetH_plain _ _ _ (by kernel_rfl)] at h
  have h : laidMet Tryz.prog Rows.endTakesRow.laid W := h
  refine ⟨tb_facts (nm1 := "*errors.errorString") (nm2 := "*errors.errorString") (nm3 := "*errors.errorString") (nm4 := "*errors.errorString") h (by simp [Rows.endTakesRow, Rows.laid_truchman_api_ErrForm]; rfl) (by simp [Rows.endTakesRow, Rows.laid_truchman_api_ErrState]; rfl) (by simp [Rows.endTakesRow]) (by simp [Rows.endTakesRow, Rows.laid_truchman_api_ErrKind]; rfl) (by simp [Rows.endTakesRow, Rows.laid_truchman_api_ErrRange]; rfl) (by simp [Rows.endTakesRow]), ?_⟩
  have h9 : laidMet Tryz.prog (Rows.endTakesRow.laid.take 9) W := laid_front (l2 := Rows.endTakesRow.laid.drop 9) (by rw [List.take_append_drop]; exact h)
  obtain ⟨es, hes⟩ := errs_of_sel errSel (Rows.endTakesRow.laid.take 9) h9 (by kernel_rfl) (by decide) (by
    intro x hx
    simp only [Rows.endTakesRow, List.take_succ_cons, List.take_zero, List.mem_cons, List.not_mem_nil, or_false] at hx
    rcases hx with rfl | rfl | rfl | rfl | rfl | rfl | rfl | rfl | rfl <;> exact ⟨_, rfl⟩) (by kernel_rfl) (by decide)
  exact ⟨es, hes.all⟩
theorem endSends_facts {W : World} (h : laidMetH Tryz.prog Rows.endSendsRow.laid W) : TbW W ∧ ∃ es, ErrsAt W es := by
  rw [MakeChecks.laidMetH_plain _ _ _ (by kernel_rfl)] at h
  have h : laidMet Tryz.prog Rows.endSendsRow.laid W := h
  refine ⟨tb_facts (nm1 := "*errors.errorString") (nm2 := "*errors.errorString") (nm3 := "*errors.errorString") (nm4 := "*errors.errorString") h (by simp [Rows.endSendsRow, Rows.laid_truchman_api_ErrForm]; rfl) (by simp [Rows.endSendsRow, Rows.laid_truchman_api_ErrState]; rfl) (by simp [Rows.endSendsRow]) (by simp [Rows.endSendsRow, Rows.laid_truchman_api_ErrKind]; rfl) (by simp [Rows.endSendsRow, Rows.laid_truchman_api_ErrRange]; rfl) (by simp [Rows.endSendsRow]), ?_⟩
  have h9 : laidMet Tryz.prog (Rows.endSendsRow.laid.take 9) W := laid_front (l2 := Rows.endSendsRow.laid.drop 9) (by rw [List.take_append_drop]; exact h)
  obtain ⟨es, hes⟩ := errs_of_sel errSel (Rows.endSendsRow.laid.take 9) h9 (by kernel_rfl) (by decide) (by
    intro x hx
    simp only [Rows.endSendsRow, List.take_succ_cons, List.take_zero, List.mem_cons, List.not_mem_nil, or_false] at hx
    rcases hx with rfl | rfl | rfl | rfl | rfl | rfl | rfl | rfl | rfl <;> exact ⟨_, rfl⟩) (by kernel_rfl) (by decide)
  exact ⟨es, hes.all⟩
theorem TbW.big {W : World} (h : TbW W) : 18 ≤ W.heap.size := by
  have hl : 0 < tabC.length := Nat.le_of_ble_eq_true (by kernel_rfl)
  have h1 := h.qs.tab 0 _ (List.getElem?_eq_getElem hl)
  exact World.block_lt_of_cell? W _ h1
end Go.Proofs.YtbnfhklpobephaaGreatDoor
/- EndTakes, of what came in. -/
namespace Go.Proofs.YtbnfhklpobephaaGreatDoor
open Go Go.ChangeShapes Go.WideShapes Go.ChangeAt Go.RowKit
set_option maxRecDepth 100000

theorem endTakes_walk (W : World) {H : Type} {enc : TypeId × Value → H} {A1 A2 A B A0 : Option Addr} {n1 c1 n2 c2 n cA m cB len cap : Nat} {cc cr can : Int}
    (hc : (∃ us hims, Ints W A1 n1 us ∧ Ints W A2 n2 hims) ∧ ∃ ts l, TSrc W A n ts ∧ n ≤ cA ∧ cA ≤ 9223372036854775807 ∧ StAt W B m l ∧ m ≤ cB ∧ cB ≤ 9223372036854775807)
    {f1 : Nat} {x1 : DataW H × List MemPlace} (h1 : DataW.trod enc Tryz.prog W 0 (fun _ => true) true f1 33 [.slice A0 len cap] = some x1)
    (hF : TbW W ∧ ∃ es, ErrsAt W es) : Calls Tryz.prog 6 #[.agg (ecC A1 n1 c1 A2 n2 c2 cc cr A n cA B m cB can).toArray, .slice A0 len cap] W (Fine W) := by
  obtain ⟨hT, es, hE⟩ := hF
  obtain ⟨⟨us, hims, hu, hh⟩, ts, l, hts, hnc, hcA, hst, hm, hcB⟩ := hc
  obtain ⟨_, _, acts, ha⟩ := open_eacts h1
  cases hg : cfGood cc cr ts with
  | false => exact takes_bad hE hT hT.big hts (by omega) ha hg
  | true => exact takes_ok hE hT hT.big hu hh hts (by omega) hst hm hcB ha hg
end Go.Proofs.YtbnfhklpobephaaGreatDoor
