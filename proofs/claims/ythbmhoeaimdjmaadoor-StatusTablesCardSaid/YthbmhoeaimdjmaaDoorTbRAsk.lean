/- Layer 11's law: the document's layer 10: what comes of asking. -/
import Derived.Test.YthbmhoeaimdjmaaDoorTbRHear
namespace Go.Proofs.YthbmhoeaimdjmaaDoor
open Go Go.RowKit
set_option maxRecDepth 100000
set_option maxHeartbeats 4000000

theorem Only.setNew' {a w : World} {g i : Nat} {u : Value} (h : Only (fun _ => False) a w) (hg : a.heap.size ≤ g) : Only (fun _ => False) a (w.setCell ⟨g, i, none⟩ u) := h.setCell (.inr hg) u
theorem guard_rmove : Tryd.prog.eqGuardType Tryd.prog.depth 106 = false := by kernel_rfl

theorem rask_noT (W : World) : Calls Tryd.prog 48 #[.agg #[.int .i64 0, .bool false], .bool true] W fun e w' => e = .returned (.tuple #[.agg #[.int .i64 3, .bool false, .int .i64 1, .bool false], .int .i64 0]) ∧ Only (fun _ => False) W w' := by
  have HR := Lib.hid (rrow_any 0 false 0 .no rfl rfl rfl)
  have heq : ∀ W, (Op.equalIn 10000 106 (.agg #[.int .i64 3, .bool false, .int .i64 1, .bool false]) (.agg #[.int .i64 0, .bool false, .int .i64 9, .bool false])).run Tryd.prog W = .ok false W := fun W => by kernel_rfl
  have hgr := guard_rmove
  go_enter Tryd.func48, Tryd.ntmps48
  go_wp2_with (first
    | (go_at_call 61; refine (HR.out _).mono ?_; rintro e w1 ⟨rfl, ho1⟩; have HM := Lib.hid ((Blk.new' (n := W.heap.size + 1) (W.alloc (.cells #[.int .i64 0, .bool false] 103)) 106 rmv0 (by simp)).only ho1 (fun h => h)); have HO1 := Lib.hid (((alloc_only (W := W) _).trans (alloc_only _) (fun _ h => h.elim)).trans ho1 (fun _ h => h.elim)); clear ho1)
    | ((with_reducible show wpList _ _ _ (⟨none, .store 106 (.tmp 4) _, _, _, _, _⟩ :: _) _ _); refine step_store rfl 106 _ _ rfl (W.heap.size + 1) rfl [.int .i64 3, .bool false, .int .i64 1, .bool false] rfl _ rmv0 (HM.out.only (S := fun _ => False) (by repeat (first | exact Only.refl _ _ | (with_reducible refine Only.alloc ?_ _) | ((with_reducible refine Only.setNew' ?_ ?_); rotate_left; omega))) (fun h => h)) size_rmove rfl (rmv_one _ _ _ _) ?_; intro w4 hB4 hz4 ho4)
    | fail)
  refine ret_cell2 rfl (W.heap.size + 1) rfl _ [.int .i64 3, .bool false, .int .i64 1, .bool false] _ hB4.out Tryd.underlying106 rfl size_rmove rfl ?_
  exact ⟨rfl, (HO1.out.trans (T := fun _ => False) (by repeat (first | exact Only.refl _ _ | (with_reducible refine Only.alloc ?_ _) | ((with_reducible refine Only.setNew' ?_ ?_); rotate_left; omega))) (fun _ h => h.elim)).trans ho4 (fun i hi => .inr (by omega))⟩

theorem rask_noF (W : World) : Calls Tryd.prog 48 #[.agg #[.int .i64 0, .bool false], .bool false] W fun e w' => e = .returned (.tuple #[.agg #[.int .i64 0, .bool false, .int .i64 0, .bool false], .int .i64 10]) ∧ Only (fun _ => False) W w' := by
  have HR := Lib.hid (rrow_any 0 false 0 .no rfl rfl rfl)
  have heq : ∀ W, (Op.equalIn 10000 106 (.agg #[.int .i64 0, .bool false, .int .i64 9, .bool false]) (.agg #[.int .i64 0, .bool false, .int .i64 9, .bool false])).run Tryd.prog W = .ok true W := fun W => by kernel_rfl
  have hgr := guard_rmove
  go_enter Tryd.func48, Tryd.ntmps48
  go_wp2_with (first
    | (go_at_call 61; refine (HR.out _).mono ?_; rintro e w1 ⟨rfl, ho1⟩; have HM := Lib.hid ((Blk.new' (n := W.heap.size + 1) (W.alloc (.cells #[.int .i64 0, .bool false] 103)) 106 rmv0 (by simp)).only ho1 (fun h => h)); have HO1 := Lib.hid (((alloc_only (W := W) _).trans (alloc_only _) (fun _ h => h.elim)).trans ho1 (fun _ h => h.elim)); clear ho1)
    | ((with_reducible show wpList _ _ _ (⟨none, .store 106 (.tmp 4) _, _, _, _, _⟩ :: _) _ _); refine step_store rfl 106 _ _ rfl (W.heap.size + 1) rfl [.int .i64 0, .bool false, .int .i64 0, .bool false] rfl _ rmv0 (HM.out.only (S := fun _ => False) (by repeat (first | exact Only.refl _ _ | (with_reducible refine Only.alloc ?_ _) | ((with_reducible refine Only.setNew' ?_ ?_); rotate_left; omega))) (fun h => h)) size_rmove rfl (rmv_one _ _ _ _) ?_; intro w4 hB4 hz4 ho4)
    | fail)
  refine ret_cell2 rfl (W.heap.size + 1) rfl _ [.int .i64 0, .bool false, .int .i64 0, .bool false] _ hB4.out Tryd.underlying106 rfl size_rmove rfl ?_
  exact ⟨rfl, (HO1.out.trans (T := fun _ => False) (by repeat (first | exact Only.refl _ _ | (with_reducible refine Only.alloc ?_ _) | ((with_reducible refine Only.setNew' ?_ ?_); rotate_left; omega))) (fun _ h => h.elim)).trans ho4 (fun i hi => .inr (by omega))⟩

theorem rask_yesT (W : World) : Calls Tryd.prog 48 #[.agg #[.int .i64 1, .bool false], .bool true] W fun e w' => e = .returned (.tuple #[.agg #[.int .i64 0, .bool false, .int .i64 0, .bool false], .int .i64 10]) ∧ Only (fun _ => False) W w' := by
  have HR := Lib.hid (rrow_any 1 false 1 .yes rfl rfl rfl)
  have heq : ∀ W, (Op.equalIn 10000 106 (.agg #[.int .i64 0, .bool false, .int .i64 9, .bool false]) (.agg #[.int .i64 0, .bool false, .int .i64 9, .bool false])).run Tryd.prog W = .ok true W := fun W => by kernel_rfl
  have hgr := guard_rmove
  go_enter Tryd.func48, Tryd.ntmps48
  go_wp2_with (first
    | (go_at_call 61; refine (HR.out _).mono ?_; rintro e w1 ⟨rfl, ho1⟩; have HM := Lib.hid ((Blk.new' (n := W.heap.size + 1) (W.alloc (.cells #[.int .i64 1, .bool false] 103)) 106 rmv0 (by simp)).only ho1 (fun h => h)); have HO1 := Lib.hid (((alloc_only (W := W) _).trans (alloc_only _) (fun _ h => h.elim)).trans ho1 (fun _ h => h.elim)); clear ho1)
    | ((with_reducible show wpList _ _ _ (⟨none, .store 106 (.tmp 4) _, _, _, _, _⟩ :: _) _ _); refine step_store rfl 106 _ _ rfl (W.heap.size + 1) rfl [.int .i64 0, .bool false, .int .i64 0, .bool false] rfl _ rmv0 (HM.out.only (S := fun _ => False) (by repeat (first | exact Only.refl _ _ | (with_reducible refine Only.alloc ?_ _) | ((with_reducible refine Only.setNew' ?_ ?_); rotate_left; omega))) (fun h => h)) size_rmove rfl (rmv_one _ _ _ _) ?_; intro w4 hB4 hz4 ho4)
    | fail)
  refine ret_cell2 rfl (W.heap.size + 1) rfl _ [.int .i64 0, .bool false, .int .i64 0, .bool false] _ hB4.out Tryd.underlying106 rfl size_rmove rfl ?_
  exact ⟨rfl, (HO1.out.trans (T := fun _ => False) (by repeat (first | exact Only.refl _ _ | (with_reducible refine Only.alloc ?_ _) | ((with_reducible refine Only.setNew' ?_ ?_); rotate_left; omega))) (fun _ h => h.elim)).trans ho4 (fun i hi => .inr (by omega))⟩

theorem rask_yesF (W : World) : Calls Tryd.prog 48 #[.agg #[.int .i64 1, .bool false], .bool false] W fun e w' => e = .returned (.tuple #[.agg #[.int .i64 2, .bool false, .int .i64 2, .bool false], .int .i64 0]) ∧ Only (fun _ => False) W w' := by
  have HR := Lib.hid (rrow_any 1 false 1 .yes rfl rfl rfl)
  have heq : ∀ W, (Op.equalIn 10000 106 (.agg #[.int .i64 2, .bool false, .int .i64 2, .bool false]) (.agg #[.int .i64 0, .bool false, .int .i64 9, .bool false])).run Tryd.prog W = .ok false W := fun W => by kernel_rfl
  have hgr := guard_rmove
  go_enter Tryd.func48, Tryd.ntmps48
  go_wp2_with (first
    | (go_at_call 61; refine (HR.out _).mono ?_; rintro e w1 ⟨rfl, ho1⟩; have HM := Lib.hid ((Blk.new' (n := W.heap.size + 1) (W.alloc (.cells #[.int .i64 1, .bool false] 103)) 106 rmv0 (by simp)).only ho1 (fun h => h)); have HO1 := Lib.hid (((alloc_only (W := W) _).trans (alloc_only _) (fun _ h => h.elim)).trans ho1 (fun _ h => h.elim)); clear ho1)
    | ((with_reducible show wpList _ _ _ (⟨none, .store 106 (.tmp 4) _, _, _, _, _⟩ :: _) _ _); refine step_store rfl 106 _ _ rfl (W.heap.size + 1) rfl [.int .i64 2, .bool false, .int .i64 2, .bool false] rfl _ rmv0 (HM.out.only (S := fun _ => False) (by repeat (first | exact Only.refl _ _ | (with_reducible refine Only.alloc ?_ _) | ((with_reducible refine Only.setNew' ?_ ?_); rotate_left; omega))) (fun h => h)) size_rmove rfl (rmv_one _ _ _ _) ?_; intro w4 hB4 hz4 ho4)
    | fail)
  refine ret_cell2 rfl (W.heap.size + 1) rfl _ [.int .i64 2, .bool false, .int .i64 2, .bool false] _ hB4.out Tryd.underlying106 rfl size_rmove rfl ?_
  exact ⟨rfl, (HO1.out.trans (T := fun _ => False) (by repeat (first | exact Only.refl _ _ | (with_reducible refine Only.alloc ?_ _) | ((with_reducible refine Only.setNew' ?_ ?_); rotate_left; omega))) (fun _ h => h.elim)).trans ho4 (fun i hi => .inr (by omega))⟩

theorem rask_wnT (W : World) : Calls Tryd.prog 48 #[.agg #[.int .i64 2, .bool false], .bool true] W fun e w' => e = .returned (.tuple #[.agg #[.int .i64 2, .bool true, .int .i64 0, .bool false], .int .i64 0]) ∧ Only (fun _ => False) W w' := by
  have HR := Lib.hid (rrow_any 2 false 2 .wn rfl rfl rfl)
  have heq : ∀ W, (Op.equalIn 10000 106 (.agg #[.int .i64 2, .bool true, .int .i64 0, .bool false]) (.agg #[.int .i64 0, .bool false, .int .i64 9, .bool false])).run Tryd.prog W = .ok false W := fun W => by kernel_rfl
  have hgr := guard_rmove
  go_enter Tryd.func48, Tryd.ntmps48
  go_wp2_with (first
    | (go_at_call 61; refine (HR.out _).mono ?_; rintro e w1 ⟨rfl, ho1⟩; have HM := Lib.hid ((Blk.new' (n := W.heap.size + 1) (W.alloc (.cells #[.int .i64 2, .bool false] 103)) 106 rmv0 (by simp)).only ho1 (fun h => h)); have HO1 := Lib.hid (((alloc_only (W := W) _).trans (alloc_only _) (fun _ h => h.elim)).trans ho1 (fun _ h => h.elim)); clear ho1)
    | ((with_reducible show wpList _ _ _ (⟨none, .store 106 (.tmp 4) _, _, _, _, _⟩ :: _) _ _); refine step_store rfl 106 _ _ rfl (W.heap.size + 1) rfl [.int .i64 2, .bool true, .int .i64 0, .bool false] rfl _ rmv0 (HM.out.only (S := fun _ => False) (by repeat (first | exact Only.refl _ _ | (with_reducible refine Only.alloc ?_ _) | ((with_reducible refine Only.setNew' ?_ ?_); rotate_left; omega))) (fun h => h)) size_rmove rfl (rmv_one _ _ _ _) ?_; intro w4 hB4 hz4 ho4)
    | fail)
  refine ret_cell2 rfl (W.heap.size + 1) rfl _ [.int .i64 2, .bool true, .int .i64 0, .bool false] _ hB4.out Tryd.underlying106 rfl size_rmove rfl ?_
  exact ⟨rfl, (HO1.out.trans (T := fun _ => False) (by repeat (first | exact Only.refl _ _ | (with_reducible refine Only.alloc ?_ _) | ((with_reducible refine Only.setNew' ?_ ?_); rotate_left; omega))) (fun _ h => h.elim)).trans ho4 (fun i hi => .inr (by omega))⟩

theorem rask_wnF (W : World) : Calls Tryd.prog 48 #[.agg #[.int .i64 2, .bool false], .bool false] W fun e w' => e = .returned (.tuple #[.agg #[.int .i64 0, .bool false, .int .i64 0, .bool false], .int .i64 10]) ∧ Only (fun _ => False) W w' := by
  have HR := Lib.hid (rrow_any 2 false 2 .wn rfl rfl rfl)
  have heq : ∀ W, (Op.equalIn 10000 106 (.agg #[.int .i64 0, .bool false, .int .i64 9, .bool false]) (.agg #[.int .i64 0, .bool false, .int .i64 9, .bool false])).run Tryd.prog W = .ok true W := fun W => by kernel_rfl
  have hgr := guard_rmove
  go_enter Tryd.func48, Tryd.ntmps48
  go_wp2_with (first
    | (go_at_call 61; refine (HR.out _).mono ?_; rintro e w1 ⟨rfl, ho1⟩; have HM := Lib.hid ((Blk.new' (n := W.heap.size + 1) (W.alloc (.cells #[.int .i64 2, .bool false] 103)) 106 rmv0 (by simp)).only ho1 (fun h => h)); have HO1 := Lib.hid (((alloc_only (W := W) _).trans (alloc_only _) (fun _ h => h.elim)).trans ho1 (fun _ h => h.elim)); clear ho1)
    | ((with_reducible show wpList _ _ _ (⟨none, .store 106 (.tmp 4) _, _, _, _, _⟩ :: _) _ _); refine step_store rfl 106 _ _ rfl (W.heap.size + 1) rfl [.int .i64 0, .bool false, .int .i64 0, .bool false] rfl _ rmv0 (HM.out.only (S := fun _ => False) (by repeat (first | exact Only.refl _ _ | (with_reducible refine Only.alloc ?_ _) | ((with_reducible refine Only.setNew' ?_ ?_); rotate_left; omega))) (fun h => h)) size_rmove rfl (rmv_one _ _ _ _) ?_; intro w4 hB4 hz4 ho4)
    | fail)
  refine ret_cell2 rfl (W.heap.size + 1) rfl _ [.int .i64 0, .bool false, .int .i64 0, .bool false] _ hB4.out Tryd.underlying106 rfl size_rmove rfl ?_
  exact ⟨rfl, (HO1.out.trans (T := fun _ => False) (by repeat (first | exact Only.refl _ _ | (with_reducible refine Only.alloc ?_ _) | ((with_reducible refine Only.setNew' ?_ ?_); rotate_left; omega))) (fun _ h => h.elim)).trans ho4 (fun i hi => .inr (by omega))⟩

theorem rask_wnOT (W : World) : Calls Tryd.prog 48 #[.agg #[.int .i64 2, .bool true], .bool true] W fun e w' => e = .returned (.tuple #[.agg #[.int .i64 0, .bool false, .int .i64 0, .bool false], .int .i64 10]) ∧ Only (fun _ => False) W w' := by
  have HR := Lib.hid (rrow_any 2 true 3 .wnO rfl rfl rfl)
  have heq : ∀ W, (Op.equalIn 10000 106 (.agg #[.int .i64 0, .bool false, .int .i64 9, .bool false]) (.agg #[.int .i64 0, .bool false, .int .i64 9, .bool false])).run Tryd.prog W = .ok true W := fun W => by kernel_rfl
  have hgr := guard_rmove
  go_enter Tryd.func48, Tryd.ntmps48
  go_wp2_with (first
    | (go_at_call 61; refine (HR.out _).mono ?_; rintro e w1 ⟨rfl, ho1⟩; have HM := Lib.hid ((Blk.new' (n := W.heap.size + 1) (W.alloc (.cells #[.int .i64 2, .bool true] 103)) 106 rmv0 (by simp)).only ho1 (fun h => h)); have HO1 := Lib.hid (((alloc_only (W := W) _).trans (alloc_only _) (fun _ h => h.elim)).trans ho1 (fun _ h => h.elim)); clear ho1)
    | ((with_reducible show wpList _ _ _ (⟨none, .store 106 (.tmp 4) _, _, _, _, _⟩ :: _) _ _); refine step_store rfl 106 _ _ rfl (W.heap.size + 1) rfl [.int .i64 0, .bool false, .int .i64 0, .bool false] rfl _ rmv0 (HM.out.only (S := fun _ => False) (by repeat (first | exact Only.refl _ _ | (with_reducible refine Only.alloc ?_ _) | ((with_reducible refine Only.setNew' ?_ ?_); rotate_left; omega))) (fun h => h)) size_rmove rfl (rmv_one _ _ _ _) ?_; intro w4 hB4 hz4 ho4)
    | fail)
  refine ret_cell2 rfl (W.heap.size + 1) rfl _ [.int .i64 0, .bool false, .int .i64 0, .bool false] _ hB4.out Tryd.underlying106 rfl size_rmove rfl ?_
  exact ⟨rfl, (HO1.out.trans (T := fun _ => False) (by repeat (first | exact Only.refl _ _ | (with_reducible refine Only.alloc ?_ _) | ((with_reducible refine Only.setNew' ?_ ?_); rotate_left; omega))) (fun _ h => h.elim)).trans ho4 (fun i hi => .inr (by omega))⟩

theorem rask_wnOF (W : World) : Calls Tryd.prog 48 #[.agg #[.int .i64 2, .bool true], .bool false] W fun e w' => e = .returned (.tuple #[.agg #[.int .i64 2, .bool false, .int .i64 0, .bool false], .int .i64 0]) ∧ Only (fun _ => False) W w' := by
  have HR := Lib.hid (rrow_any 2 true 3 .wnO rfl rfl rfl)
  have heq : ∀ W, (Op.equalIn 10000 106 (.agg #[.int .i64 2, .bool false, .int .i64 0, .bool false]) (.agg #[.int .i64 0, .bool false, .int .i64 9, .bool false])).run Tryd.prog W = .ok false W := fun W => by kernel_rfl
  have hgr := guard_rmove
  go_enter Tryd.func48, Tryd.ntmps48
  go_wp2_with (first
    | (go_at_call 61; refine (HR.out _).mono ?_; rintro e w1 ⟨rfl, ho1⟩; have HM := Lib.hid ((Blk.new' (n := W.heap.size + 1) (W.alloc (.cells #[.int .i64 2, .bool true] 103)) 106 rmv0 (by simp)).only ho1 (fun h => h)); have HO1 := Lib.hid (((alloc_only (W := W) _).trans (alloc_only _) (fun _ h => h.elim)).trans ho1 (fun _ h => h.elim)); clear ho1)
    | ((with_reducible show wpList _ _ _ (⟨none, .store 106 (.tmp 4) _, _, _, _, _⟩ :: _) _ _); refine step_store rfl 106 _ _ rfl (W.heap.size + 1) rfl [.int .i64 2, .bool false, .int .i64 0, .bool false] rfl _ rmv0 (HM.out.only (S := fun _ => False) (by repeat (first | exact Only.refl _ _ | (with_reducible refine Only.alloc ?_ _) | ((with_reducible refine Only.setNew' ?_ ?_); rotate_left; omega))) (fun h => h)) size_rmove rfl (rmv_one _ _ _ _) ?_; intro w4 hB4 hz4 ho4)
    | fail)
  refine ret_cell2 rfl (W.heap.size + 1) rfl _ [.int .i64 2, .bool false, .int .i64 0, .bool false] _ hB4.out Tryd.underlying106 rfl size_rmove rfl ?_
  exact ⟨rfl, (HO1.out.trans (T := fun _ => False) (by repeat (first | exact Only.refl _ _ | (with_reducible refine Only.alloc ?_ _) | ((with_reducible refine Only.setNew' ?_ ?_); rotate_left; omega))) (fun _ h => h.elim)).trans ho4 (fun i hi => .inr (by omega))⟩

theorem rask_wyT (W : World) : Calls Tryd.prog 48 #[.agg #[.int .i64 3, .bool false], .bool true] W fun e w' => e = .returned (.tuple #[.agg #[.int .i64 0, .bool false, .int .i64 0, .bool false], .int .i64 10]) ∧ Only (fun _ => False) W w' := by
  have HR := Lib.hid (rrow_any 3 false 4 .wy rfl rfl rfl)
  have heq : ∀ W, (Op.equalIn 10000 106 (.agg #[.int .i64 0, .bool false, .int .i64 9, .bool false]) (.agg #[.int .i64 0, .bool false, .int .i64 9, .bool false])).run Tryd.prog W = .ok true W := fun W => by kernel_rfl
  have hgr := guard_rmove
  go_enter Tryd.func48, Tryd.ntmps48
  go_wp2_with (first
    | (go_at_call 61; refine (HR.out _).mono ?_; rintro e w1 ⟨rfl, ho1⟩; have HM := Lib.hid ((Blk.new' (n := W.heap.size + 1) (W.alloc (.cells #[.int .i64 3, .bool false] 103)) 106 rmv0 (by simp)).only ho1 (fun h => h)); have HO1 := Lib.hid (((alloc_only (W := W) _).trans (alloc_only _) (fun _ h => h.elim)).trans ho1 (fun _ h => h.elim)); clear ho1)
    | ((with_reducible show wpList _ _ _ (⟨none, .store 106 (.tmp 4) _, _, _, _, _⟩ :: _) _ _); refine step_store rfl 106 _ _ rfl (W.heap.size + 1) rfl [.int .i64 0, .bool false, .int .i64 0, .bool false] rfl _ rmv0 (HM.out.only (S := fun _ => False) (by repeat (first | exact Only.refl _ _ | (with_reducible refine Only.alloc ?_ _) | ((with_reducible refine Only.setNew' ?_ ?_); rotate_left; omega))) (fun h => h)) size_rmove rfl (rmv_one _ _ _ _) ?_; intro w4 hB4 hz4 ho4)
    | fail)
  refine ret_cell2 rfl (W.heap.size + 1) rfl _ [.int .i64 0, .bool false, .int .i64 0, .bool false] _ hB4.out Tryd.underlying106 rfl size_rmove rfl ?_
  exact ⟨rfl, (HO1.out.trans (T := fun _ => False) (by repeat (first | exact Only.refl _ _ | (with_reducible refine Only.alloc ?_ _) | ((with_reducible refine Only.setNew' ?_ ?_); rotate_left; omega))) (fun _ h => h.elim)).trans ho4 (fun i hi => .inr (by omega))⟩

theorem rask_wyF (W : World) : Calls Tryd.prog 48 #[.agg #[.int .i64 3, .bool false], .bool false] W fun e w' => e = .returned (.tuple #[.agg #[.int .i64 3, .bool true, .int .i64 0, .bool false], .int .i64 0]) ∧ Only (fun _ => False) W w' := by
  have HR := Lib.hid (rrow_any 3 false 4 .wy rfl rfl rfl)
  have heq : ∀ W, (Op.equalIn 10000 106 (.agg #[.int .i64 3, .bool true, .int .i64 0, .bool false]) (.agg #[.int .i64 0, .bool false, .int .i64 9, .bool false])).run Tryd.prog W = .ok false W := fun W => by kernel_rfl
  have hgr := guard_rmove
  go_enter Tryd.func48, Tryd.ntmps48
  go_wp2_with (first
    | (go_at_call 61; refine (HR.out _).mono ?_; rintro e w1 ⟨rfl, ho1⟩; have HM := Lib.hid ((Blk.new' (n := W.heap.size + 1) (W.alloc (.cells #[.int .i64 3, .bool false] 103)) 106 rmv0 (by simp)).only ho1 (fun h => h)); have HO1 := Lib.hid (((alloc_only (W := W) _).trans (alloc_only _) (fun _ h => h.elim)).trans ho1 (fun _ h => h.elim)); clear ho1)
    | ((with_reducible show wpList _ _ _ (⟨none, .store 106 (.tmp 4) _, _, _, _, _⟩ :: _) _ _); refine step_store rfl 106 _ _ rfl (W.heap.size + 1) rfl [.int .i64 3, .bool true, .int .i64 0, .bool false] rfl _ rmv0 (HM.out.only (S := fun _ => False) (by repeat (first | exact Only.refl _ _ | (with_reducible refine Only.alloc ?_ _) | ((with_reducible refine Only.setNew' ?_ ?_); rotate_left; omega))) (fun h => h)) size_rmove rfl (rmv_one _ _ _ _) ?_; intro w4 hB4 hz4 ho4)
    | fail)
  refine ret_cell2 rfl (W.heap.size + 1) rfl _ [.int .i64 3, .bool true, .int .i64 0, .bool false] _ hB4.out Tryd.underlying106 rfl size_rmove rfl ?_
  exact ⟨rfl, (HO1.out.trans (T := fun _ => False) (by repeat (first | exact Only.refl _ _ | (with_reducible refine Only.alloc ?_ _) | ((with_reducible refine Only.setNew' ?_ ?_); rotate_left; omega))) (fun _ h => h.elim)).trans ho4 (fun i hi => .inr (by omega))⟩

theorem rask_wyOT (W : World) : Calls Tryd.prog 48 #[.agg #[.int .i64 3, .bool true], .bool true] W fun e w' => e = .returned (.tuple #[.agg #[.int .i64 3, .bool false, .int .i64 0, .bool false], .int .i64 0]) ∧ Only (fun _ => False) W w' := by
  have HR := Lib.hid (rrow_any 3 true 5 .wyO rfl rfl rfl)
  have heq : ∀ W, (Op.equalIn 10000 106 (.agg #[.int .i64 3, .bool false, .int .i64 0, .bool false]) (.agg #[.int .i64 0, .bool false, .int .i64 9, .bool false])).run Tryd.prog W = .ok false W := fun W => by kernel_rfl
  have hgr := guard_rmove
  go_enter Tryd.func48, Tryd.ntmps48
  go_wp2_with (first
    | (go_at_call 61; refine (HR.out _).mono ?_; rintro e w1 ⟨rfl, ho1⟩; have HM := Lib.hid ((Blk.new' (n := W.heap.size + 1) (W.alloc (.cells #[.int .i64 3, .bool true] 103)) 106 rmv0 (by simp)).only ho1 (fun h => h)); have HO1 := Lib.hid (((alloc_only (W := W) _).trans (alloc_only _) (fun _ h => h.elim)).trans ho1 (fun _ h => h.elim)); clear ho1)
    | ((with_reducible show wpList _ _ _ (⟨none, .store 106 (.tmp 4) _, _, _, _, _⟩ :: _) _ _); refine step_store rfl 106 _ _ rfl (W.heap.size + 1) rfl [.int .i64 3, .bool false, .int .i64 0, .bool false] rfl _ rmv0 (HM.out.only (S := fun _ => False) (by repeat (first | exact Only.refl _ _ | (with_reducible refine Only.alloc ?_ _) | ((with_reducible refine Only.setNew' ?_ ?_); rotate_left; omega))) (fun h => h)) size_rmove rfl (rmv_one _ _ _ _) ?_; intro w4 hB4 hz4 ho4)
    | fail)
  refine ret_cell2 rfl (W.heap.size + 1) rfl _ [.int .i64 3, .bool false, .int .i64 0, .bool false] _ hB4.out Tryd.underlying106 rfl size_rmove rfl ?_
  exact ⟨rfl, (HO1.out.trans (T := fun _ => False) (by repeat (first | exact Only.refl _ _ | (with_reducible refine Only.alloc ?_ _) | ((with_reducible refine Only.setNew' ?_ ?_); rotate_left; omega))) (fun _ h => h.elim)).trans ho4 (fun i hi => .inr (by omega))⟩

theorem rask_wyOF (W : World) : Calls Tryd.prog 48 #[.agg #[.int .i64 3, .bool true], .bool false] W fun e w' => e = .returned (.tuple #[.agg #[.int .i64 0, .bool false, .int .i64 0, .bool false], .int .i64 10]) ∧ Only (fun _ => False) W w' := by
  have HR := Lib.hid (rrow_any 3 true 5 .wyO rfl rfl rfl)
  have heq : ∀ W, (Op.equalIn 10000 106 (.agg #[.int .i64 0, .bool false, .int .i64 9, .bool false]) (.agg #[.int .i64 0, .bool false, .int .i64 9, .bool false])).run Tryd.prog W = .ok true W := fun W => by kernel_rfl
  have hgr := guard_rmove
  go_enter Tryd.func48, Tryd.ntmps48
  go_wp2_with (first
    | (go_at_call 61; refine (HR.out _).mono ?_; rintro e w1 ⟨rfl, ho1⟩; have HM := Lib.hid ((Blk.new' (n := W.heap.size + 1) (W.alloc (.cells #[.int .i64 3, .bool true] 103)) 106 rmv0 (by simp)).only ho1 (fun h => h)); have HO1 := Lib.hid (((alloc_only (W := W) _).trans (alloc_only _) (fun _ h => h.elim)).trans ho1 (fun _ h => h.elim)); clear ho1)
    | ((with_reducible show wpList _ _ _ (⟨none, .store 106 (.tmp 4) _, _, _, _, _⟩ :: _) _ _); refine step_store rfl 106 _ _ rfl (W.heap.size + 1) rfl [.int .i64 0, .bool false, .int .i64 0, .bool false] rfl _ rmv0 (HM.out.only (S := fun _ => False) (by repeat (first | exact Only.refl _ _ | (with_reducible refine Only.alloc ?_ _) | ((with_reducible refine Only.setNew' ?_ ?_); rotate_left; omega))) (fun h => h)) size_rmove rfl (rmv_one _ _ _ _) ?_; intro w4 hB4 hz4 ho4)
    | fail)
  refine ret_cell2 rfl (W.heap.size + 1) rfl _ [.int .i64 0, .bool false, .int .i64 0, .bool false] _ hB4.out Tryd.underlying106 rfl size_rmove rfl ?_
  exact ⟨rfl, (HO1.out.trans (T := fun _ => False) (by repeat (first | exact Only.refl _ _ | (with_reducible refine Only.alloc ?_ _) | ((with_reducible refine Only.setNew' ?_ ?_); rotate_left; omega))) (fun _ h => h.elim)).trans ho4 (fun i hi => .inr (by omega))⟩

def askR (q : Qs) (on : Bool) : List Value := match askQ q on with | some r => mvC r.1 r.2 false | none => mvC .no 0 false
def askE (q : Qs) (on : Bool) : Int := if (askQ q on).isSome then 0 else 10
theorem rask_any (W : World) (q : Qs) (on : Bool) : Calls Tryd.prog 48 #[.agg #[.int .i64 (q.kind : Int), .bool q.opp], .bool on] W fun e w' => e = .returned (.tuple #[.agg (askR q on).toArray, .int .i64 (askE q on)]) ∧ Only (fun _ => False) W w' := by
  cases q <;> cases on
  · exact rask_noF W
  · exact rask_noT W
  · exact rask_yesF W
  · exact rask_yesT W
  · exact rask_wnF W
  · exact rask_wnT W
  · exact rask_wnOF W
  · exact rask_wnOT W
  · exact rask_wyF W
  · exact rask_wyT W
  · exact rask_wyOF W
  · exact rask_wyOT W
end Go.Proofs.YthbmhoeaimdjmaaDoor
