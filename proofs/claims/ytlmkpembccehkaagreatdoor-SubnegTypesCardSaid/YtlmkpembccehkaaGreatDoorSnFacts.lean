/- What both laws' rows list; a size that came in. -/
import Derived.Test.YtlmkpembccehkaaGreatDoorFcts
import Derived.Test.YtlmkpembccehkaaGreatDoorLaidFront
import Derived.Test.YtlmkpembccehkaaGreatDoorNwAll
import Derived.Test.YtlmkpembccehkaaGreatDoorStructs
namespace Go.Proofs.YtlmkpembccehkaaGreatDoor
open Go Go.ChangeShapes Go.WideShapes Go.ChangeAt Go.RowKit
set_option maxRecDepth 100000
set_option maxHeartbeats 4000000

theorem subnegTypes_facts {W : World} (h : laidMetH Tryz.prog Rows.subnegTypesRow.laid W) : TbW W ∧ ∃ es, ErrsAt W es := by
  rw [MakeChecks.laidMetH_plain _ _ _ (by kernel_rfl)] at h
  have h : laidMet Tryz.prog Rows.subnegTypesRow.laid W := h
  refine ⟨tb_facts (nm1 := "*errors.errorString") (nm2 := "*errors.errorString") (nm3 := "*errors.errorString") (nm4 := "*errors.errorString") h (by simp [Rows.subnegTypesRow, Rows.laid_truchman_api_ErrForm]; rfl) (by simp [Rows.subnegTypesRow, Rows.laid_truchman_api_ErrState]; rfl) (by simp [Rows.subnegTypesRow]) (by simp [Rows.subnegTypesRow, Rows.laid_truchman_api_ErrKind]; rfl) (by simp [Rows.subnegTypesRow, Rows.laid_truchman_api_ErrRange]; rfl) (by simp [Rows.subnegTypesRow]), ?_⟩
  have h9 : laidMet Tryz.prog (Rows.subnegTypesRow.laid.take 9) W := laid_front (l2 := Rows.subnegTypesRow.laid.drop 9) (by rw [List.take_append_drop]; exact h)
  obtain ⟨es, hes⟩ := errs_of_sel errSel (Rows.subnegTypesRow.laid.take 9) h9 (by kernel_rfl) (by decide) (by
    intro x hx
    simp only [Rows.subnegTypesRow, List.take_succ_cons, List.take_zero, List.mem_cons, List.not_mem_nil, or_false] at hx
    rcases hx with rfl | rfl | rfl | rfl | rfl | rfl | rfl | rfl | rfl <;> exact ⟨_, rfl⟩) (by kernel_rfl) (by decide)
  exact ⟨es, hes.all⟩
theorem subnegKeeps_facts {W : World} (h : laidMetH Tryz.prog Rows.subnegKeepsRow.laid W) : TbW W ∧ ∃ es, ErrsAt W es := by
  rw [MakeChecks.laidMetH_plain _ _ _ (by kernel_rfl)] at h
  have h : laidMet Tryz.prog Rows.subnegKeepsRow.laid W := h
  refine ⟨tb_facts (nm1 := "*errors.errorString") (nm2 := "*errors.errorString") (nm3 := "*errors.errorString") (nm4 := "*errors.errorString") h (by simp [Rows.subnegKeepsRow, Rows.laid_truchman_api_ErrForm]; rfl) (by simp [Rows.subnegKeepsRow, Rows.laid_truchman_api_ErrState]; rfl) (by simp [Rows.subnegKeepsRow]) (by simp [Rows.subnegKeepsRow, Rows.laid_truchman_api_ErrKind]; rfl) (by simp [Rows.subnegKeepsRow, Rows.laid_truchman_api_ErrRange]; rfl) (by simp [Rows.subnegKeepsRow]), ?_⟩
  have h9 : laidMet Tryz.prog (Rows.subnegKeepsRow.laid.take 9) W := laid_front (l2 := Rows.subnegKeepsRow.laid.drop 9) (by rw [List.take_append_drop]; exact h)
  obtain ⟨es, hes⟩ := errs_of_sel errSel (Rows.subnegKeepsRow.laid.take 9) h9 (by kernel_rfl) (by decide) (by
    intro x hx
    simp only [Rows.subnegKeepsRow, List.take_succ_cons, List.take_zero, List.mem_cons, List.not_mem_nil, or_false] at hx
    rcases hx with rfl | rfl | rfl | rfl | rfl | rfl | rfl | rfl | rfl <;> exact ⟨_, rfl⟩) (by kernel_rfl) (by decide)
  exact ⟨es, hes.all⟩
theorem open_size {H : Type} {enc : TypeId × Value → H} {W : World} {r : Reach} {b0 : Nat} {v : Value} {d : DataW H} {p : List MemPlace}
    (hv : Value.okWide Tryz.prog W r b0 23 v) (h : DataW.Trod enc Tryz.prog W 0 (fun _ => true) true 23 v d p) :
    ∃ (x y : Int), v = szVal x y ∧ True := by
  unfold Value.okWide at hv
  rw [Tryz.underlying23] at hv
  obtain ⟨cs, rfl, hsz, _⟩ := hv
  obtain ⟨fuel, hf⟩ := h
  obtain ⟨ys, k, _, _, _, hyl, hel⟩ := DataW.trod_struct Tryz.underlying23 hf
  obtain ⟨l⟩ := cs
  have hl2 : l.length = 2 := by
    have : Tryz.prog.cellsOf 23 = 2 := by kernel_rfl
    rw [this] at hsz
    simpa using hsz
  match l, hl2, hel with
  | [v0, v1], _, hel =>
    have hy : ∀ i, i < 2 → ∃ y, ys[i]? = some y := fun i hi => ⟨_, List.getElem?_eq_getElem (by rw [hyl]; exact hi)⟩
    have h0 := hel 0 _ rfl
    have h1 := hel 1 _ rfl
    obtain ⟨y0, e0⟩ := hy 0 (by omega)
    obtain ⟨y1, e1⟩ := hy 1 (by omega)
    rw [e0] at h0
    rw [e1] at h1
    replace h0 : DataW.trod enc Tryz.prog W 0 (fun _ => true) true k 3 [v0] = some y0 := h0
    replace h1 : DataW.trod enc Tryz.prog W 0 (fun _ => true) true k 3 [v1] = some y1 := h1
    obtain ⟨z0, q0, _, _⟩ := DataW.trod_int Tryz.underlying3 h0
    obtain ⟨z1, q1, _, _⟩ := DataW.trod_int Tryz.underlying3 h1
    obtain rfl : v0 = .int .i64 z0 := by simpa using q0
    obtain rfl : v1 = .int .i64 z1 := by simpa using q1
    exact ⟨z0, z1, rfl, trivial⟩

@[reducible] def fourVal (a b d e : UInt8) : Value := .agg #[B8 a, B8 b, B8 d, B8 e]
end Go.Proofs.YtlmkpembccehkaaGreatDoor
