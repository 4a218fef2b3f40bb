/- TableRests: what is too long; what the row's list gives; the walk. -/
import Derived.Test.YtpobglejobgmlaaDoorTbRests
namespace Go.Proofs.YtpobglejobgmlaaDoor
open Go Go.ChangeShapes Go.WideShapes Go.ChangeAt Go.RowKit
set_option maxRecDepth 100000
set_option maxHeartbeats 4000000

theorem rests_long {W : World} (hT : TbW W) (P Q : Po) (A : Option Addr) (n c : Nat) (h : 60 < n ∨ 40 < P.n1 ∨ 40 < P.n2 ∨ 40 < Q.n1 ∨ 40 < Q.n2) :
    Calls Tryd.prog 5 #[P.val, Q.val, .slice A n c] W (Fine W) := by
  obtain ⟨a1, n1, c1, a2, n2, c2, us, hims⟩ := P
  obtain ⟨b1, m1, d1, b2, m2, d2, us', hims'⟩ := Q
  simp only [Po.val] at h ⊢
  have HT := Lib.hid hT
  obtain ⟨d0, e0⟩ : ∃ d, decide ((60 : Int) < (n : Int)) = d := ⟨_, rfl⟩
  obtain ⟨d1', e1⟩ : ∃ d, decide ((40 : Int) < (n1 : Int)) = d := ⟨_, rfl⟩
  obtain ⟨d2', e2⟩ : ∃ d, decide ((40 : Int) < (n2 : Int)) = d := ⟨_, rfl⟩
  obtain ⟨d3, e3⟩ : ∃ d, decide ((40 : Int) < (m1 : Int)) = d := ⟨_, rfl⟩
  obtain ⟨d4, e4⟩ : ∃ d, decide ((40 : Int) < (m2 : Int)) = d := ⟨_, rfl⟩
  have hd : d0 = true ∨ (d0 = false ∧ d1' = true) ∨ (d0 = false ∧ d1' = false ∧ d2' = true) ∨ (d0 = false ∧ d1' = false ∧ d2' = false ∧ d3 = true) ∨ (d0 = false ∧ d1' = false ∧ d2' = false ∧ d3 = false ∧ d4 = true) := by
    rw [← e0, ← e1, ← e2, ← e3, ← e4]
    simp only [decide_eq_true_eq, decide_eq_false_iff_not]
    omega
  clear h hT
  rcases hd with rfl | ⟨rfl, rfl⟩ | ⟨rfl, rfl, rfl⟩ | ⟨rfl, rfl, rfl, rfl⟩ | ⟨rfl, rfl, rfl, rfl, rfl⟩
  all_goals
    go_enter Tryd.func5, Tryd.ntmps5
    go_wp2_with (first
      | (go_at_call 6; refine (alive_any ((HT.out.only (alloc_only _)).only (alloc_only _))).mono ?_; rintro e w1 ⟨rfl, ho1⟩; have HB1 := Lib.hid (((Blk.new W 24 [.slice a1 n1 c1, .slice a2 n2 c2]).alloc (.cells #[.slice b1 m1 d1, .slice b2 m2 d2] 24)).only ho1 (fun h => h)); have HB2 := Lib.hid ((Blk.new' (W.alloc (.cells #[.slice a1 n1 c1, .slice a2 n2 c2] 24)) 24 [.slice b1 m1 d1, .slice b2 m2 d2] (n := W.heap.size + 1) (by simp)).only ho1 (fun h => h)); have HO1 := Lib.hid (((alloc_only (W := W) _).trans (alloc_only _) (fun _ h => h.elim)).trans ho1 (fun _ h => h.elim)); have g0 := HB1.out.cell 0; have g1 := HB1.out.cell 1; have g2 := HB2.out.cell 0; have g3 := HB2.out.cell 1; simp only [List.getElem?_cons_zero, List.getElem?_cons_succ] at g0 g1 g2 g3; clear ho1)
      | fail)
    go_ret
    exact ⟨rfl, HO1.out⟩

theorem tableRests_facts {W : World} (h : laidMetH Tryd.prog Rows.tableRestsRow.laid W) : TbW W := by
  rw [MakeChecks.laidMetH_plain _ _ _ (by kernel_rfl)] at h
  exact tb_facts (nm1 := "*errors.errorString") (nm2 := "*errors.errorString") (nm3 := "*errors.errorString") (nm4 := "*errors.errorString") h (by simp [Rows.tableRestsRow, Rows.laid_truchman_api_ErrForm]; rfl) (by simp [Rows.tableRestsRow, Rows.laid_truchman_api_ErrState]; rfl) (by simp [Rows.tableRestsRow]) (by simp [Rows.tableRestsRow, Rows.laid_truchman_api_ErrKind]; rfl) (by simp [Rows.tableRestsRow, Rows.laid_truchman_api_ErrRange]; rfl) (by simp [Rows.tableRestsRow])

theorem tableRests_walk (W : World) {P Q : Po} (hP : P.At W) (hQ : Q.At W) {H : Type} {enc : TypeId × Value → H} {f0 : Nat} {A : Option Addr} {n c : Nat} {x : DataW H × List MemPlace} (hf : DataW.trod enc Tryd.prog W 0 (fun _ => true) true f0 25 [.slice A n c] = some x)
    (hT : TbW W) : Calls Tryd.prog 5 #[P.val, Q.val, .slice A n c] W (Fine W) := by
  obtain ⟨_, _, l, hl⟩ := open_acts hf
  by_cases h : 60 < n ∨ 40 < P.n1 ∨ 40 < P.n2 ∨ 40 < Q.n1 ∨ 40 < Q.n2
  · exact rests_long hT P Q A n c h
  · exact rests_ok hT hP hQ hl (by omega) (by omega) (by omega) (by omega) (by omega)
end Go.Proofs.YtpobglejobgmlaaDoor
