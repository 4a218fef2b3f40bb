/- The front of what a row lists: errors stand ahead of tables. -/
import Derived.Test.YtgknhojjnnljkaaDoorErrSel
namespace Go.Proofs.YtgknhojjnnljkaaDoor
open Go Go.RowKit
set_option maxRecDepth 100000

/-- The front of a row's list. -/
theorem laidVars_front {W : World} : ∀ (l1 l2 : List (String × DataW Unit)) (ps : List MemPlace), DataW.LaidVars Tryd.prog W (l1 ++ l2) ps → ∃ p1 p2, ps = p1 ++ p2 ∧ DataW.LaidVars Tryd.prog W l1 p1
  | [], _, ps, _ => ⟨[], ps, rfl, rfl⟩
  | (n, d) :: r, l2, ps, h => by
    obtain ⟨g, t, cs, fuel, p, q, hg, hty, hv, hd, hr, rfl⟩ := h
    obtain ⟨p1, p2, rfl, h1⟩ := laidVars_front r l2 q hr
    exact ⟨MemPlace.row ⟨g, 0, none⟩ cs.size ++ p ++ p1, p2, by simp, g, t, cs, fuel, p, p1, hg, hty, hv, hd, h1, rfl⟩
theorem laid_front {W : World} {l1 l2 : List (String × DataW Unit)} (h : laidMet Tryd.prog (l1 ++ l2) W) : laidMet Tryd.prog l1 W := by
  obtain ⟨ps, hv, hnd, hrows⟩ := h
  obtain ⟨p1, p2, rfl, h1⟩ := laidVars_front l1 l2 ps hv
  exact ⟨p1, h1, (List.nodup_append.1 hnd).1, fun b off hb => hrows b off (List.mem_append_left _ hb)⟩
/-- .. its back. -/
theorem laid_tail {W : World} {x : String × DataW Unit} {l : List (String × DataW Unit)} (h : laidMet Tryd.prog (x :: l) W) : laidMet Tryd.prog l W := by
  obtain ⟨ps, hv, hnd, hrows⟩ := h
  obtain ⟨n, d⟩ := x
  obtain ⟨g, t, cs, fuel, p, q, _, _, _, _, hr, rfl⟩ := hv
  exact ⟨q, hr, (List.nodup_append.1 hnd).2.1, fun b off hb => hrows b off (List.mem_append_right _ hb)⟩
theorem laid_back {W : World} : ∀ (k : Nat) {l : List (String × DataW Unit)}, laidMet Tryd.prog l W → laidMet Tryd.prog (l.drop k) W
  | 0, _, h => h
  | _ + 1, [], h => h
  | k + 1, _ :: _, h => laid_back k (laid_tail h)
/-- The sixteen errors, wherever they stand in what a row lists. -/
theorem errs_mid {W : World} {l : List (String × DataW Unit)} (k : Nat) (h : laidMet Tryd.prog l W) (hids : (((l.drop k).take 16).map fun x => Tryd.prog.globalNamed x.1) = errIds.map some)
    (hk : ∀ x ∈ (l.drop k).take 16, ∃ text, x.2 = .iface "*errors.errorString" (.ptr (.agg [.lit (.string text)]))) : ∃ es, ErrsAt W es := by
  have h16 : laidMet Tryd.prog ((l.drop k).take 16) W := laid_front (l2 := (l.drop k).drop 16) (by rw [List.take_append_drop]; exact laid_back k h)
  exact errs_of_list ((l.drop k).take 16) h16 hids hk (by kernel_rfl)
end Go.Proofs.YtgknhojjnnljkaaDoor
