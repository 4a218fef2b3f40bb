/- The front of what a row lists: errors stand ahead of tables. -/
import Derived.Test.YtlmkpembccehkaaGreatDoorErAll
namespace Go.Proofs.YtlmkpembccehkaaGreatDoor
open Go Go.RowKit
set_option maxRecDepth 100000

/-- The front of a row's list. -/
theorem laidVars_front {W : World} : ∀ (l1 l2 : List (String × DataW Unit)) (ps : List MemPlace), DataW.LaidVars Tryz.prog W (l1 ++ l2) ps → ∃ p1 p2, ps = p1 ++ p2 ∧ DataW.LaidVars Tryz.prog W l1 p1
  | [], _, ps, _ => ⟨[], ps, rfl, rfl⟩
  | (n, d) :: r, l2, ps, h => by
    obtain ⟨g, t, cs, fuel, p, q, hg, hty, hv, hd, hr, rfl⟩ := h
    obtain ⟨p1, p2, rfl, h1⟩ := laidVars_front r l2 q hr
    exact ⟨MemPlace.row ⟨g, 0, none⟩ cs.size ++ p ++ p1, p2, by simp, g, t, cs, fuel, p, p1, hg, hty, hv, hd, h1, rfl⟩
theorem laid_front {W : World} {l1 l2 : List (String × DataW Unit)} (h : laidMet Tryz.prog (l1 ++ l2) W) : laidMet Tryz.prog l1 W := by
  obtain ⟨ps, hv, hnd, hrows⟩ := h
  obtain ⟨p1, p2, rfl, h1⟩ := laidVars_front l1 l2 ps hv
  exact ⟨p1, h1, (List.nodup_append.1 hnd).1, fun b off hb => hrows b off (List.mem_append_left _ hb)⟩
/-- .. its back. -/
theorem laid_tail {W : World} {x : String × DataW Unit} {l : List (String × DataW Unit)} (h : laidMet Tryz.prog (x :: l) W) : laidMet Tryz.prog l W := by
  obtain ⟨ps, hv, hnd, hrows⟩ := h
  obtain ⟨n, d⟩ := x
  obtain ⟨g, t, cs, fuel, p, q, _, _, _, _, hr, rfl⟩ := hv
  exact ⟨q, hr, (List.nodup_append.1 hnd).2.1, fun b off hb => hrows b off (List.mem_append_right _ hb)⟩
theorem laid_back {W : World} : ∀ (k : Nat) {l : List (String × DataW Unit)}, laidMet Tryz.prog l W → laidMet Tryz.prog (l.drop k) W
  | 0, _, h => h
  | _ + 1, [], h => h
  | k + 1, _ :: _, h => laid_back k (laid_tail h)
end Go.Proofs.YtlmkpembccehkaaGreatDoor
