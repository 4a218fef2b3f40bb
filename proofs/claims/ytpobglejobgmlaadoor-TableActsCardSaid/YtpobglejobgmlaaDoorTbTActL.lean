/- TableActs: what is too long; what the row's list gives; the walk. -/
import Derived.Test.YtpobglejobgmlaaDoorTbTAct
namespace Go.Proofs.YtpobglejobgmlaaDoor
open Go Go.ChangeShapes Go.WideShapes Go.ChangeAt Go.RowKit
set_option maxRecDepth 100000
set_option maxHeartbeats 4000000

theorem acts_long {W : World} (hT : TbW W) (P : Po) (A : Option Addr) (n c : Nat) (h : 40 < n ∨ 40 < P.n1 ∨ 40 < P.n2) :
    Calls Tryd.prog 3 #[P.val, .slice A n c] W (Fine W) := by
  obtain ⟨a1, n1, c1, a2, n2, c2, us, hims⟩ := P
  simp only [Po.val] at h ⊢
  have HT := Lib.hid hT
  obtain ⟨d0, e0⟩ : ∃ d, decide ((40 : Int) < (n : Int)) = d := ⟨_, rfl⟩
  obtain ⟨d1, e1⟩ : ∃ d, decide ((40 : Int) < (n1 : Int)) = d := ⟨_, rfl⟩
  obtain ⟨d2, e2⟩ : ∃ d, decide ((40 : Int) < (n2 : Int)) = d := ⟨_, rfl⟩
  have hd : d0 = true ∨ (d0 = false ∧ d1 = true) ∨ (d0 = false ∧ d1 = false ∧ d2 = true) := by
    rw [← e0, ← e1, ← e2]
    simp only [decide_eq_true_eq, decide_eq_false_iff_not]
    omega
  clear h hT
  rcases hd with rfl | ⟨rfl, rfl⟩ | ⟨rfl, rfl, rfl⟩
  all_goals
    go_enter Tryd.func3, Tryd.ntmps3
    go_wp2_with (first
      | (go_at_call 6; refine (alive_any (HT.out.only (alloc_only _))).mono ?_; rintro e w1 ⟨rfl, ho1⟩; have HB1 := Lib.hid ((Blk.new W 24 [.slice a1 n1 c1, .slice a2 n2 c2]).only ho1 (fun h => h)); have HO1 := Lib.hid ((alloc_only (W := W) _).trans ho1 (fun _ h => h.elim)); have g0 := HB1.out.cell 0; have g1 := HB1.out.cell 1; simp only [List.getElem?_cons_zero, List.getElem?_cons_succ] at g0 g1; clear ho1)
      | fail)
    go_ret
    exact ⟨rfl, HO1.out⟩

theorem tableActs_facts {W : World} (h : laidMetH Tryd.prog Rows.tableActsRow.laid W) : TbW W ∧ ∃ es, ErrsAt W es := by
  rw [MakeChecks.laidMetH_plain _ _ _ (by kernel_rfl)] at h
  refine ⟨tb_facts (nm1 := "*errors.errorString") (nm2 := "*errors.errorString") (nm3 := "*errors.errorString") (nm4 := "*errors.errorString") h (by simp [Rows.tableActsRow, Rows.laid_truchman_api_ErrForm]; rfl) (by simp [Rows.tableActsRow, Rows.laid_truchman_api_ErrState]; rfl) (by simp [Rows.tableActsRow]) (by simp [Rows.tableActsRow, Rows.laid_truchman_api_ErrKind]; rfl) (by simp [Rows.tableActsRow, Rows.laid_truchman_api_ErrRange]; rfl) (by simp [Rows.tableActsRow]), ?_⟩
  have h16 : laidMet Tryd.prog (Rows.tableActsRow.laid.take 16) W := laid_front (l2 := Rows.tableActsRow.laid.drop 16) (by rw [List.take_append_drop]; exact h)
  exact errs_of_list (Rows.tableActsRow.laid.take 16) h16 (by kernel_rfl) (by
    intro x hx
    simp only [Rows.tableActsRow, List.take_succ_cons, List.take_zero, List.mem_cons, List.not_mem_nil, or_false] at hx
    rcases hx with rfl | rfl | rfl | rfl | rfl | rfl | rfl | rfl | rfl | rfl | rfl | rfl | rfl | rfl | rfl | rfl <;> exact ⟨_, rfl⟩) (by kernel_rfl)

theorem tableActs_walk (W : World) {P : Po} (hP : P.At W) {H : Type} {enc : TypeId × Value → H} {f0 : Nat} {A : Option Addr} {n c : Nat} {x : DataW H × List MemPlace} (hf : DataW.trod enc Tryd.prog W 0 (fun _ => true) true f0 25 [.slice A n c] = some x)
    (hF : TbW W ∧ ∃ es, ErrsAt W es) : Calls Tryd.prog 3 #[P.val, .slice A n c] W (Fine W) := by
  obtain ⟨hT, es, hE⟩ := hF
  obtain ⟨_, _, l, hl⟩ := open_acts hf
  by_cases h : 40 < n ∨ 40 < P.n1 ∨ 40 < P.n2
  · exact acts_long hT P A n c h
  · exact acts_ok hT hE hP hl (by omega) (by omega) (by omega)
end Go.Proofs.YtpobglejobgmlaaDoor
