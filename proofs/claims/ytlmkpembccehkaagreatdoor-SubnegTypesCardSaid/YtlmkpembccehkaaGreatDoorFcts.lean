/- Several texts in one. -/
import Derived.Test.YtlmkpembccehkaaGreatDoorQsTb
import Derived.Test.YtlmkpembccehkaaGreatDoorTbHear
/- Package qstate: what a row's list gives. -/
namespace Go.Proofs.YtlmkpembccehkaaGreatDoor
open Go Go.RowKit
set_option maxRecDepth 100000

theorem qs_facts {W : World} {l : List (String × DataW Unit)} (h : laidMet Tryz.prog l W) {nm1 nm2 : String} {d1 d2 : DataW Unit} (h1 : ("truchman/api.ErrForm", .iface nm1 d1) ∈ l) (h2 : ("truchman/api.ErrState", .iface nm2 d2) ∈ l)
    (h3 : ("truchman/qstate.rows", Rows.laid_truchman_qstate_rows) ∈ l) : QsW W := by
  refine ⟨?_, ?_, ?_⟩
  · have := plain_of h h3 (g := 7) (t := 146) 6 (by kernel_rfl) (by kernel_rfl) (by kernel_rfl)
    have e : flatD Rows.laid_truchman_qstate_rows = tabC := by
      simp only [Rows.laid_truchman_qstate_rows, flatD, flatDs, tabC, qsAll, rowC, qsC, hearC, askC, mvC, mv0, hearQ, askQ, qsWord, Qs.kind, Qs.opp, List.flatMap_cons, List.flatMap_nil]
      rfl
    rw [e] at this
    exact this
  · exact err_of h (g := 5) h1 (by kernel_rfl) (by kernel_rfl) Tryz.underlying34
  · exact err_of h (g := 8) h2 (by kernel_rfl) (by kernel_rfl) Tryz.underlying34
end Go.Proofs.YtlmkpembccehkaaGreatDoor
/- What tables read at package level, out of what a row lists. -/
namespace Go.Proofs.YtlmkpembccehkaaGreatDoor
open Go Go.RowKit
set_option maxRecDepth 100000
set_option maxHeartbeats 4000000

theorem tb_facts {W : World} {l : List (String × DataW Unit)} (h : laidMet Tryz.prog l W) {nm1 nm2 nm3 nm4 : String} {d1 d2 d3 d4 : DataW Unit} (h1 : ("truchman/api.ErrForm", .iface nm1 d1) ∈ l) (h2 : ("truchman/api.ErrState", .iface nm2 d2) ∈ l)
    (h3 : ("truchman/qstate.rows", Rows.laid_truchman_qstate_rows) ∈ l) (h4 : ("truchman/api.ErrKind", .iface nm3 d3) ∈ l) (h5 : ("truchman/api.ErrRange", .iface nm4 d4) ∈ l) (h6 : ("truchman/table.verbs", Rows.laid_truchman_table_verbs) ∈ l) : TbW W := by
  refine ⟨qs_facts h h1 h2 h3, ?_, ?_, ?_⟩
  · have := plain_of h h6 (g := 6) (t := 138) 6 (by kernel_rfl) (by kernel_rfl) (by kernel_rfl)
    have e : flatD Rows.laid_truchman_table_verbs = verbsC := by
      simp only [Rows.laid_truchman_table_verbs, flatD, flatDs, verbsC]
      rfl
    rw [e] at this
    exact this
  · exact err_of h (g := 0) h4 (by kernel_rfl) (by kernel_rfl) Tryz.underlying34
  · exact err_of h (g := 1) h5 (by kernel_rfl) (by kernel_rfl) Tryz.underlying34
end Go.Proofs.YtlmkpembccehkaaGreatDoor
