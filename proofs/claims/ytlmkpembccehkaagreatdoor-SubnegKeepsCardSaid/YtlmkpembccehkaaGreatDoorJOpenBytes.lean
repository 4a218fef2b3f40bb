/- Several texts in one. -/
import Derived.Test.YtlmkpembccehkaaGreatDoorJSnModeK
import Derived.Test.YtlmkpembccehkaaGreatDoorJQsCalls
import Derived.Test.YtlmkpembccehkaaGreatDoorJTbHear
import Derived.Test.YtlmkpembccehkaaGreatDoorJErrs
/- A slice of bytes that came in, read out of one cell. -/
namespace Go.Proofs.YtlmkpembccehkaaGreatDoor
open Go Go.ChangeShapes Go.WideShapes Go.ChangeAt Go.RowKit

theorem add_none (b o q : Nat) : (⟨b, o, none⟩ : Addr).add q = ⟨b, o + q, none⟩ := by unfold Addr.add; split <;> simp_all

/-- A slice of bytes, read out of one cell. -/
theorem opened_cell {H : Type} {enc : TypeId × Value → H} {W : World} {spare : Nat → Bool} {fuel : Nat} {v : Value} {x : DataW H × List MemPlace} (hf : DataW.trod enc Tryz.prog W 0 spare true fuel 45 [v] = some x) :
    ∃ A n c xs, v = .slice A n c ∧ Src W A n xs ∧ n ≤ c ∧ c ≤ 9223372036854775807 := by
  obtain ⟨d, p⟩ := x
  rcases Go.Deep.open_slice Tryz.underlying45 hf with ⟨h, _⟩ | ⟨a, len, cap, _, _, _, _, h, _⟩
  all_goals
    simp only [List.cons.injEq, and_true] at h
    subst h
    obtain ⟨xs, h1, h2, h3⟩ := opened Tryz.underlying45 Tryz.underlying5 (by kernel_rfl) hf
    exact ⟨_, _, _, xs, rfl, h1, h2, h3⟩

end Go.Proofs.YtlmkpembccehkaaGreatDoor
/- Package qstate: what a row's list gives. -/
namespace Go.Proofs.YtlmkpembccehkaaGreatDoor
open Go Go.RowKit
set_option maxRecDepth 100000

theorem qs_facts {W : World} {l : List (String × DataW Unit)} (h : laidMet Tryz.prog l W) {nm1 nm2 : String} {d1 d2 : DataW Unit} (h1 : ("truchman/api.ErrForm", .iface nm1 d1) ∈ l) (h2 : ("truchman/api.ErrState", .iface nm2 d2) ∈ l)
    (h3 : ("truchman/qstate.rows", Rows.laid_truchman_qstate_rows) ∈ l) : QsW W := by
  refine ⟨?_, ?_, ?_⟩
  · have := plain_of h h3 (g := 7) (t := 146) 6 (by kernel_rfl) (by kernel_rfl) (by kernel_rfl)
    have e : flatD Rows.laid_truchman_qstate_rows = tabC := by
      simp only [Rows.laid_truchman_qstate_rows, flatD, flatDs, tabC, qsAll, rowC, qsC, hearC, askC, mvC, mv0, hearQ, askQ, qsWord, Qs.kind, Qs.opp, List.flatMap_cons, List.flatMap_nil]
      rfl
    rw [e] at this
    exact this
  · exact err_of h (g := 5) h1 (by kernel_rfl) (by kernel_rfl) Tryz.underlying34
  · exact err_of h (g := 8) h2 (by kernel_rfl) (by kernel_rfl) Tryz.underlying34
end Go.Proofs.YtlmkpembccehkaaGreatDoor
/- What tables read at package level, out of what a row lists. -/
namespace Go.Proofs.YtlmkpembccehkaaGreatDoor
open Go Go.RowKit
set_option maxRecDepth 100000
set_option maxHeartbeats 4000000

theorem tb_facts {W : World} {l : List (String × DataW Unit)} (h : laidMet Tryz.prog l W) {nm1 nm2 nm3 nm4 : String} {d1 d2 d3 d4 : DataW Unit} (h1 : ("truchman/api.ErrForm", .iface nm1 d1) ∈ l) (h2 : ("truchman/api.ErrState", .iface nm2 d2) ∈ l)
    (h3 : ("truchman/qstate.rows", Rows.laid_truchman_qstate_rows) ∈ l) (h4 : ("truchman/api.ErrKind", .iface nm3 d3) ∈ l) (h5 : ("truchman/api.ErrRange", .iface nm4 d4) ∈ l) (h6 : ("truchman/table.verbs", Rows.laid_truchman_table_verbs) ∈ l) : TbW W := by
  refine ⟨qs_facts h h1 h2 h3, ?_, ?_, ?_⟩
  · have := plain_of h h6 (g := 6) (t := 138) 6 (by kernel_rfl) (by kernel_rfl) (by kernel_rfl)
    have e : flatD Rows.laid_truchman_table_verbs = verbsC := by
      simp only [Rows.laid_truchman_table_verbs, flatD, flatDs, verbsC]
      rfl
    rw [e] at this
    exact this
  · exact err_of h (g := 0) h4 (by kernel_rfl) (by kernel_rfl) Tryz.underlying34
  · exact err_of h (g := 1) h5 (by kernel_rfl) (by kernel_rfl) Tryz.underlying34
end Go.Proofs.YtlmkpembccehkaaGreatDoor
/- The front of what a row lists: errors stand ahead of tables. -/
namespace Go.Proofs.YtlmkpembccehkaaGreatDoor
open Go Go.RowKit
set_option maxRecDepth 100000

/-- The front of a row's list. -/
theorem laidVars_front {W : World} : ∀ (l1 l2 : List (String × DataW Unit)) (ps : List MemPlace), DataW.LaidVars Tryz.prog W (l1 ++ l2) ps → ∃ p1 p2, ps = p1 ++ p2 ∧ DataW.LaidVars Tryz.prog W l1 p1
  | [], _, ps, _ => ⟨[], ps, rfl, rfl⟩
  | (n, d) :: r, l2, ps, h => by
    obtain ⟨g, t, cs, fuel, p, q, hg, hty, hv, hd, hr, rfl⟩ := h
    obtain ⟨p1, p2, rfl, h1⟩ := laidVars_front r l2 q hr
    exact ⟨MemPlace.row ⟨g, 0, none⟩ cs.size ++ p ++ p1, p2, by simp, g, t, cs, fuel, p, p1, hg, hty, hv, hd, h1, rfl⟩
theorem laid_front {W : World} {l1 l2 : List (String × DataW Unit)} (h : laidMet Tryz.prog (l1 ++ l2) W) : laidMet Tryz.prog l1 W := by
  obtain ⟨ps, hv, hnd, hrows⟩ := h
  obtain ⟨p1, p2, rfl, h1⟩ := laidVars_front l1 l2 ps hv
  exact ⟨p1, h1, (List.nodup_append.1 hnd).1, fun b off hb => hrows b off (List.mem_append_left _ hb)⟩
/-- .. its back. -/
theorem laid_tail {W : World} {x : String × DataW Unit} {l : List (String × DataW Unit)} (h : laidMet Tryz.prog (x :: l) W) : laidMet Tryz.prog l W := by
  obtain ⟨ps, hv, hnd, hrows⟩ := h
  obtain ⟨n, d⟩ := x
  obtain ⟨g, t, cs, fuel, p, q, _, _, _, _, hr, rfl⟩ := hv
  exact ⟨q, hr, (List.nodup_append.1 hnd).2.1, fun b off hb => hrows b off (List.mem_append_right _ hb)⟩
theorem laid_back {W : World} : ∀ (k : Nat) {l : List (String × DataW Unit)}, laidMet Tryz.prog l W → laidMet Tryz.prog (l.drop k) W
  | 0, _, h => h
  | _ + 1, [], h => h
  | k + 1, _ :: _, h => laid_back k (laid_tail h)
end Go.Proofs.YtlmkpembccehkaaGreatDoor
