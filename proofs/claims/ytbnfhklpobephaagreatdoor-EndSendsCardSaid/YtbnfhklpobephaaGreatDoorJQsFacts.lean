/- Several texts in one. -/
import Derived.Test.YtbnfhklpobephaaGreatDoorJQsCalls
import Derived.Test.YtbnfhklpobephaaGreatDoorJHsNew
import Derived.Test.YtbnfhklpobephaaGreatDoorJSnList
import Derived.Test.YtbnfhklpobephaaGreatDoorStructs
import Derived.Test.YtbnfhklpobephaaGreatDoorEnSendsL
import Derived.Test.YtbnfhklpobephaaGreatDoorJErrIs
/- Package qstate: what a row's list gives. -/
namespace Go.Proofs.YtbnfhklpobephaaGreatDoor
open Go Go.RowKit
set_option maxRecDepth 100000

theorem qs_facts {W : World} {l : List (String × DataW Unit)} (h : laidMet Tryz.prog l W) {nm1 nm2 : String} {d1 d2 : DataW Unit} (h1 : ("truchman/api.ErrForm", .iface nm1 d1) ∈ l) (h2 : ("truchman/api.ErrState", .iface nm2 d2) ∈ l)
    (h3 : ("truchman/qstate.rows", Rows.laid_truchman_qstate_rows) ∈ l) : QsW W := by
  refine ⟨?_, ?_, ?_⟩
  · have := plain_of h h3 (g := 17) (t := 368) 6 (by kernel_rfl) (by kernel_rfl) (by kernel_rfl)
    have e : flatD Rows.laid_truchman_qstate_rows = tabC := by
      simp only [Rows.laid_truchman_qstate_rows, flatD, flatDs, tabC, qsAll, rowC, qsC, hearC, askC, mvC, mv0, hearQ, askQ, qsWord, Qs.kind, Qs.opp, List.flatMap_cons, List.flatMap_nil]
      rfl
    rw [e] at this
    exact this
  · exact err_of h (g := 4) h1 (by kernel_rfl) (by kernel_rfl) Tryz.underlying38
  · exact err_of h (g := 9) h2 (by kernel_rfl) (by kernel_rfl) Tryz.underlying38
end Go.Proofs.YtbnfhklpobephaaGreatDoor
/- What tables read at package level, out of what a row lists. -/
namespace Go.Proofs.YtbnfhklpobephaaGreatDoor
open Go Go.RowKit
set_option maxRecDepth 100000
set_option maxHeartbeats 4000000

theorem tb_facts {W : World} {l : List (String × DataW Unit)} (h : laidMet Tryz.prog l W) {nm1 nm2 nm3 nm4 : String} {d1 d2 d3 d4 : DataW Unit} (h1 : ("truchman/api.ErrForm", .iface nm1 d1) ∈ l) (h2 : ("truchman/api.ErrState", .iface nm2 d2) ∈ l)
    (h3 : ("truchman/qstate.rows", Rows.laid_truchman_qstate_rows) ∈ l) (h4 : ("truchman/api.ErrKind", .iface nm3 d3) ∈ l) (h5 : ("truchman/api.ErrRange", .iface nm4 d4) ∈ l) (h6 : ("truchman/table.verbs", Rows.laid_truchman_table_verbs) ∈ l) : TbW W := by
  refine ⟨qs_facts h h1 h2 h3, ?_, ?_, ?_⟩
  · have := plain_of h h6 (g := 16) (t := 319) 6 (by kernel_rfl) (by kernel_rfl) (by kernel_rfl)
    have e : flatD Rows.laid_truchman_table_verbs = verbsC := by
      simp only [Rows.laid_truchman_table_verbs, flatD, flatDs, verbsC]
      rfl
    rw [e] at this
    exact this
  · exact err_of h (g := 8) h4 (by kernel_rfl) (by kernel_rfl) Tryz.underlying38
  · exact err_of h (g := 0) h5 (by kernel_rfl) (by kernel_rfl) Tryz.underlying38
end Go.Proofs.YtbnfhklpobephaaGreatDoor
/- The front of what a row lists: errors stand ahead of tables. -/
namespace Go.Proofs.YtbnfhklpobephaaGreatDoor
open Go Go.RowKit
set_option maxRecDepth 100000

/-- The front of a row's list. -/
theorem laidVars_front {W : World} : ∀ (l1 l2 : List (String × DataW Unit)) (ps : List MemPlace), DataW.LaidVars Tryz.prog W (l1 ++ l2) ps → ∃ p1 p2, ps = p1 ++ p2 ∧ DataW.LaidVars Tryz.prog W l1 p1
  | [], _, ps, _ => ⟨[], ps, rfl, rfl⟩
  | (n, d) :: r, l2, ps, h => by
    obtain ⟨g, t, cs, fuel, p, q, hg, hty, hv, hd, hr, rfl⟩ := h
    obtain ⟨p1, p2, rfl, h1⟩ := laidVars_front r l2 q hr
    exact ⟨MemPlace.row ⟨g, 0, none⟩ cs.size ++ p ++ p1, p2, by simp, g, t, cs, fuel, p, p1, hg, hty, hv, hd, h1, rfl⟩
theorem laid_front {W : World} {l1 l2 : List (String × DataW Unit)} (h : laidMet Tryz.prog (l1 ++ l2) W) : laidMet Tryz.prog l1 W := by
  obtain ⟨ps, hv, hnd, hrows⟩ := h
  obtain ⟨p1, p2, rfl, h1⟩ := laidVars_front l1 l2 ps hv
  exact ⟨p1, h1, (List.nodup_append.1 hnd).1, fun b off hb => hrows b off (List.mem_append_left _ hb)⟩
end Go.Proofs.YtbnfhklpobephaaGreatDoor
/- What the laws' rows list. -/
namespace Go.Proofs.YtbnfhklpobephaaGreatDoor
open Go Go.ChangeShapes Go.WideShapes Go.ChangeAt Go.RowKit
set_option maxRecDepth 100000
set_option maxHeartbeats 4000000

theorem endSends_facts {W : World} (h : laidMetH Tryz.prog Rows.endSendsRow.laid W) : TbW W ∧ ∃ es, ErrsAt W es := by
  rw [MakeChecks.laidMetH_plain _ _ _ (by kernel_rfl)] at h
  have h : laidMet Tryz.prog Rows.endSendsRow.laid W := h
  refine ⟨tb_facts (nm1 := "*errors.errorString") (nm2 := "*errors.errorString") (nm3 := "*errors.errorString") (nm4 := "*errors.errorString") h (by simp [Rows.endSendsRow, Rows.laid_truchman_api_ErrForm]; rfl) (by simp [Rows.endSendsRow, Rows.laid_truchman_api_ErrState]; rfl) (by simp [Rows.endSendsRow]) (by simp [Rows.endSendsRow, Rows.laid_truchman_api_ErrKind]; rfl) (by simp [Rows.endSendsRow, Rows.laid_truchman_api_ErrRange]; rfl) (by simp [Rows.endSendsRow]), ?_⟩
  have h9 : laidMet Tryz.prog (Rows.endSendsRow.laid.take 9) W := laid_front (l2 := Rows.endSendsRow.laid.drop 9) (by rw [List.take_append_drop]; exact h)
  obtain ⟨es, hes⟩ := errs_of_sel errSel (Rows.endSendsRow.laid.take 9) h9 (by kernel_rfl) (by decide) (by
    intro x hx
    simp only [Rows.endSendsRow, List.take_succ_cons, List.take_zero, List.mem_cons, List.not_mem_nil, or_false] at hx
    rcases hx with rfl | rfl | rfl | rfl | rfl | rfl | rfl | rfl | rfl <;> exact ⟨_, rfl⟩) (by kernel_rfl) (by decide)
  exact ⟨es, hes.all⟩
theorem TbW.big {W : World} (h : TbW W) : 18 ≤ W.heap.size := by
  have hl : 0 < tabC.length := Nat.le_of_ble_eq_true (by kernel_rfl)
  have h1 := h.qs.tab 0 _ (List.getElem?_eq_getElem hl)
  exact World.block_lt_of_cell? W _ h1
end Go.Proofs.YtbnfhklpobephaaGreatDoor
/- EndSends, of what came in. -/
namespace Go.Proofs.YtbnfhklpobephaaGreatDoor
open Go Go.ChangeShapes Go.WideShapes Go.ChangeAt Go.RowKit
set_option maxRecDepth 100000
set_option maxHeartbeats 4000000

theorem endSends_factsI {W : World} (h : laidMetH Tryz.prog Rows.endSendsRow.laid W) : TbW W ∧ ∃ es, ErrsIs W errSel es := by
  refine ⟨(endSends_facts h).1, ?_⟩
  rw [MakeChecks.laidMetH_plain _ _ _ (by kernel_rfl)] at h
  have h : laidMet Tryz.prog Rows.endSendsRow.laid W := h
  have h9 : laidMet Tryz.prog (Rows.endSendsRow.laid.take 9) W := laid_front (l2 := Rows.endSendsRow.laid.drop 9) (by rw [List.take_append_drop]; exact h)
  exact errs_is_of_sel errSel (Rows.endSendsRow.laid.take 9) h9 (by kernel_rfl) (by decide) (by
    intro x hx
    simp only [Rows.endSendsRow, List.take_succ_cons, List.take_zero, List.mem_cons, List.not_mem_nil, or_false] at hx
    rcases hx with rfl | rfl | rfl | rfl | rfl | rfl | rfl | rfl | rfl <;> exact ⟨_, rfl⟩) (by kernel_rfl) (by decide)
theorem endSends_walk (W : World) {H : Type} {enc : TypeId × Value → H} {A1 A2 A B A0 : Option Addr} {n1 c1 n2 c2 n cA m cB len cap : Nat} {cc cr can : Int}
    (hc : (∃ us hims, Ints W A1 n1 us ∧ Ints W A2 n2 hims) ∧ ∃ ts l, TSrc W A n ts ∧ n ≤ cA ∧ cA ≤ 9223372036854775807 ∧ StAt W B m l ∧ m ≤ cB ∧ cB ≤ 9223372036854775807)
    {f1 : Nat} {x1 : DataW H × List MemPlace} (h1 : DataW.trod enc Tryz.prog W 0 (fun _ => true) true f1 33 [.slice A0 len cap] = some x1)
    (hF : TbW W ∧ ∃ es, ErrsIs W errSel es) : Calls Tryz.prog 4 #[.agg (ecC A1 n1 c1 A2 n2 c2 cc cr A n cA B m cB can).toArray, .slice A0 len cap] W (Fine W) := by
  obtain ⟨hT, es, hE⟩ := hF
  obtain ⟨⟨us, hims, hu, hh⟩, ts, l, hts, hnc, hcA, hst, hm, hcB⟩ := hc
  obtain ⟨_, _, acts, ha⟩ := open_eacts h1
  cases hg : cfGood cc cr ts with
  | false => exact sends_bad hE.of.all hT hT.big hts (by omega) ha hg
  | true => exact sends_ok hE hT hT.big hu hh hts (by omega) hst hm hcB ha hg
end Go.Proofs.YtbnfhklpobephaaGreatDoor
