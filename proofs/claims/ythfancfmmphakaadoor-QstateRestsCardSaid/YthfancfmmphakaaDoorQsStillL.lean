/- QstateStill: the walk, for every state; a state that came in; what the row's list gives. -/
import Derived.Test.YthfancfmmphakaaDoorQsStill
namespace Go.Proofs.YthfancfmmphakaaDoor
open Go Go.ChangeShapes Go.WideShapes Go.ChangeAt Go.RowKit
set_option maxRecDepth 100000

@[reducible] def stVal (k : Int) (o : Bool) : Value := .agg #[.int .i64 k, .bool o]
theorem open_state {H : Type} {enc : TypeId × Value → H} {W : World} {r : Reach} {b0 : Nat} {v : Value} {d : DataW H} {p : List MemPlace}
    (hv : Value.okWide Tryd.prog W r b0 23 v) (h : DataW.Trod enc Tryd.prog W 0 (fun _ => true) true 23 v d p) :
    ∃ (k : Int) (o : Bool), v = stVal k o ∧ (Lit.int .i64 k).wf = true := by
  unfold Value.okWide at hv
  rw [Tryd.underlying23] at hv
  obtain ⟨cs, rfl, hsz, _⟩ := hv
  obtain ⟨fuel, hf⟩ := h
  obtain ⟨ys, k, _, _, _, hyl, hel⟩ := DataW.trod_struct Tryd.underlying23 hf
  obtain ⟨l⟩ := cs
  have hl2 : l.length = 2 := by
    have : Tryd.prog.cellsOf 23 = 2 := by kernel_rfl
    rw [this] at hsz
    simpa using hsz
  match l, hl2, hel with
  | [v0, v1], _, hel =>
    have hy : ∀ i, i < 2 → ∃ y, ys[i]? = some y := fun i hi => ⟨_, List.getElem?_eq_getElem (by rw [hyl]; exact hi)⟩
    have h0 := hel 0 _ rfl
    have h1 := hel 1 _ rfl
    obtain ⟨y0, e0⟩ := hy 0 (by omega)
    obtain ⟨y1, e1⟩ := hy 1 (by omega)
    rw [e0] at h0
    rw [e1] at h1
    replace h0 : DataW.trod enc Tryd.prog W 0 (fun _ => true) true k 3 [v0] = some y0 := h0
    replace h1 : DataW.trod enc Tryd.prog W 0 (fun _ => true) true k 4 [v1] = some y1 := h1
    obtain ⟨z0, q0, _, hw⟩ := DataW.trod_int Tryd.underlying3 h0
    obtain ⟨z1, q1, _⟩ := DataW.trod_bool Tryd.underlying4 h1
    obtain rfl : v0 = .int .i64 z0 := by simpa using q0
    obtain rfl : v1 = .bool z1 := by simpa using q1
    exact ⟨z0, z1, rfl, hw⟩

theorem qs_facts {W : World} {l : List (String × DataW Unit)} (h : laidMet Tryd.prog l W) {nm1 nm2 : String} {d1 d2 : DataW Unit} (h1 : ("truchman/api.ErrForm", .iface nm1 d1) ∈ l) (h2 : ("truchman/api.ErrState", .iface nm2 d2) ∈ l)
    (h3 : ("truchman/qstate.rows", Rows.laid_truchman_qstate_rows) ∈ l) : QsW W := by
  refine ⟨?_, ?_, ?_⟩
  · have := plain_of h h3 (g := 2) (t := 48) 6 (by kernel_rfl) (by kernel_rfl) (by kernel_rfl)
    have e : flatD Rows.laid_truchman_qstate_rows = tabC := by
      simp only [Rows.laid_truchman_qstate_rows, flatD, flatDs, tabC, qsAll, rowC, qsC, hearC, askC, mvC, mv0, hearQ, askQ, qsWord, Qs.kind, Qs.opp, List.flatMap_cons, List.flatMap_nil]
      rfl
    rw [e] at this
    exact this
  · exact err_of h (g := 0) h1 (by kernel_rfl) (by kernel_rfl) Tryd.underlying28
  · exact err_of h (g := 1) h2 (by kernel_rfl) (by kernel_rfl) Tryd.underlying28
theorem qstateStill_facts {W : World} (h : laidMetH Tryd.prog Rows.qstateStillRow.laid W) : QsW W := by
  rw [MakeChecks.laidMetH_plain _ _ _ (by kernel_rfl)] at h
  exact qs_facts (nm1 := "*errors.errorString") (nm2 := "*errors.errorString") h (by simp [Rows.qstateStillRow, Rows.laid_truchman_api_ErrForm]; rfl) (by simp [Rows.qstateStillRow, Rows.laid_truchman_api_ErrState]; rfl) (by simp [Rows.qstateStillRow])

theorem qstateStill_walk (W : World) {k : Int} {o : Bool} (_ : (Lit.int .i64 k).wf = true) (is agree : Bool) (hT : QsW W) : Calls Tryd.prog 3 #[stVal k o, .bool is, .bool agree] W (Fine W) := by
  cases e : qsOf k o with
  | none => exact still_none hT k o is agree e
  | some s =>
    obtain ⟨rfl, rfl⟩ := qsOf_some e
    cases s <;> cases is
    · exact still_no_against hT agree
    · cases agree
      · exact still_no_for_false hT
      · exact still_no_for_true hT
    · exact still_yes_against hT agree
    · exact still_yes_for hT agree
    · exact still_wn_against hT agree
    · exact still_wn_for hT agree
    · exact still_wnO_against hT agree
    · exact still_wnO_for hT agree
    · exact still_wy_against hT agree
    · exact still_wy_for hT agree
    · exact still_wyO_against hT agree
    · exact still_wyO_for hT agree
end Go.Proofs.YthfancfmmphakaaDoor
