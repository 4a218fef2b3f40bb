/- Package qstate: what a row's list gives. -/
import Derived.Test.YthbmhoeaimdjmaaDoorQsTb
namespace Go.Proofs.YthbmhoeaimdjmaaDoor
open Go Go.RowKit
set_option maxRecDepth 100000

theorem qs_facts {W : World} {l : List (String × DataW Unit)} (h : laidMet Tryd.prog l W) {nm1 nm2 : String} {d1 d2 : DataW Unit} (h1 : ("truchman/api.ErrForm", .iface nm1 d1) ∈ l) (h2 : ("truchman/api.ErrState", .iface nm2 d2) ∈ l)
    (h3 : ("truchman/qstate.rows", Rows.laid_truchman_qstate_rows) ∈ l) : QsW W := by
  refine ⟨?_, ?_, ?_⟩
  · have := plain_of h h3 (g := 19) (t := 145) 6 (by kernel_rfl) (by kernel_rfl) (by kernel_rfl)
    have e : flatD Rows.laid_truchman_qstate_rows = tabC := by
      simp only [Rows.laid_truchman_qstate_rows, flatD, flatDs, tabC, qsAll, rowC, qsC, hearC, askC, mvC, mv0, hearQ, askQ, qsWord, Qs.kind, Qs.opp, List.flatMap_cons, List.flatMap_nil]
      rfl
    rw [e] at this
    exact this
  · exact err_of h (g := 4) h1 (by kernel_rfl) (by kernel_rfl) Tryd.underlying28
  · exact err_of h (g := 9) h2 (by kernel_rfl) (by kernel_rfl) Tryd.underlying28
end Go.Proofs.YthbmhoeaimdjmaaDoor
