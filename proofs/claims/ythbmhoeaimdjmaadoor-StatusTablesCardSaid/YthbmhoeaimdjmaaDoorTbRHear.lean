/- Layer 11's law: the document's layer 10: what comes of a verb. -/
import Derived.Test.YthbmhoeaimdjmaaDoorTbRef10
namespace Go.Proofs.YthbmhoeaimdjmaaDoor
open Go Go.RowKit
set_option maxRecDepth 100000
set_option maxHeartbeats 4000000

def rmv0 : List Value := [.int .i64 0, .bool false, .int .i64 0, .bool false]
theorem rmv_one (a c : Int) (b d : Bool) : ∀ v ∈ ([.int .i64 a, .bool b, .int .i64 c, .bool d] : List Value), v.oneCell' = true := by
  intro v hv
  simp only [List.mem_cons, List.not_mem_nil, or_false] at hv
  rcases hv with rfl | rfl | rfl | rfl <;> rfl
theorem rrow_any (k : Int) (o : Bool) (i : Nat) (q : Qs) (h1 : (q.kind : Int) = k) (h2 : q.opp = o) (h3 : q.ix = i) (w : World) : Calls Tryd.prog 61 #[.agg #[.int .i64 k, .bool o]] w fun e w' => e = .returned (.int .i64 (i : Int)) ∧ Only (fun _ => False) w w' := by
  subst h1 h2 h3
  exact row_any w q

theorem rhear_noF (W : World) (a : Bool) : Calls Tryd.prog 43 #[.agg #[.int .i64 0, .bool false], .bool false, .bool a] W fun e w' => e = .returned (.tuple #[.agg #[.int .i64 0, .bool false, .int .i64 0, .bool false], .int .i64 0]) ∧ Only (fun _ => False) W w' := by
  have HR := Lib.hid (rrow_any 0 false 0 .no rfl rfl rfl)
  go_enter Tryd.func43, Tryd.ntmps43
  go_wp2_with (first
    | (go_at_call 61; refine (HR.out _).mono ?_; rintro e w1 ⟨rfl, ho1⟩; have HM := Lib.hid ((Blk.new' (n := W.heap.size + 1) (W.alloc (.cells #[.int .i64 0, .bool false] 103)) 106 rmv0 (by simp)).only ho1 (fun h => h)); have HO1 := Lib.hid (((alloc_only (W := W) _).trans (alloc_only _) (fun _ h => h.elim)).trans ho1 (fun _ h => h.elim)); clear ho1)
    | ((with_reducible show wpList _ _ _ (⟨none, .store 106 (.tmp 6) _, _, _, _, _⟩ :: _) _ _); refine step_store rfl 106 _ _ rfl (W.heap.size + 1) rfl [.int .i64 0, .bool false, .int .i64 0, .bool false] rfl _ rmv0 (HM.out.only (S := fun _ => False) (by repeat (first | exact Only.refl _ _ | refine Only.alloc ?_ _)) (fun h => h)) size_rmove rfl (rmv_one _ _ _ _) ?_; intro w4 hB4 hz4 ho4)
    | fail)
  refine ret_cell2 rfl (W.heap.size + 1) rfl _ [.int .i64 0, .bool false, .int .i64 0, .bool false] _ hB4.out Tryd.underlying106 rfl size_rmove rfl ?_
  exact ⟨rfl, (HO1.out.trans (T := fun _ => False) (by repeat (first | exact Only.refl _ _ | refine Only.alloc ?_ _)) (fun _ h => h.elim)).trans ho4 (fun i hi => .inr (by omega))⟩

theorem rhear_yesF (W : World) (a : Bool) : Calls Tryd.prog 43 #[.agg #[.int .i64 1, .bool false], .bool false, .bool a] W fun e w' => e = .returned (.tuple #[.agg #[.int .i64 0, .bool false, .int .i64 2, .bool false], .int .i64 0]) ∧ Only (fun _ => False) W w' := by
  have HR := Lib.hid (rrow_any 1 false 1 .yes rfl rfl rfl)
  go_enter Tryd.func43, Tryd.ntmps43
  go_wp2_with (first
    | (go_at_call 61; refine (HR.out _).mono ?_; rintro e w1 ⟨rfl, ho1⟩; have HM := Lib.hid ((Blk.new' (n := W.heap.size + 1) (W.alloc (.cells #[.int .i64 1, .bool false] 103)) 106 rmv0 (by simp)).only ho1 (fun h => h)); have HO1 := Lib.hid (((alloc_only (W := W) _).trans (alloc_only _) (fun _ h => h.elim)).trans ho1 (fun _ h => h.elim)); clear ho1)
    | ((with_reducible show wpList _ _ _ (⟨none, .store 106 (.tmp 6) _, _, _, _, _⟩ :: _) _ _); refine step_store rfl 106 _ _ rfl (W.heap.size + 1) rfl [.int .i64 0, .bool false, .int .i64 2, .bool false] rfl _ rmv0 (HM.out.only (S := fun _ => False) (by repeat (first | exact Only.refl _ _ | refine Only.alloc ?_ _)) (fun h => h)) size_rmove rfl (rmv_one _ _ _ _) ?_; intro w4 hB4 hz4 ho4)
    | fail)
  refine ret_cell2 rfl (W.heap.size + 1) rfl _ [.int .i64 0, .bool false, .int .i64 2, .bool false] _ hB4.out Tryd.underlying106 rfl size_rmove rfl ?_
  exact ⟨rfl, (HO1.out.trans (T := fun _ => False) (by repeat (first | exact Only.refl _ _ | refine Only.alloc ?_ _)) (fun _ h => h.elim)).trans ho4 (fun i hi => .inr (by omega))⟩

theorem rhear_wnF (W : World) (a : Bool) : Calls Tryd.prog 43 #[.agg #[.int .i64 2, .bool false], .bool false, .bool a] W fun e w' => e = .returned (.tuple #[.agg #[.int .i64 0, .bool false, .int .i64 0, .bool false], .int .i64 0]) ∧ Only (fun _ => False) W w' := by
  have HR := Lib.hid (rrow_any 2 false 2 .wn rfl rfl rfl)
  go_enter Tryd.func43, Tryd.ntmps43
  go_wp2_with (first
    | (go_at_call 61; refine (HR.out _).mono ?_; rintro e w1 ⟨rfl, ho1⟩; have HM := Lib.hid ((Blk.new' (n := W.heap.size + 1) (W.alloc (.cells #[.int .i64 2, .bool false] 103)) 106 rmv0 (by simp)).only ho1 (fun h => h)); have HO1 := Lib.hid (((alloc_only (W := W) _).trans (alloc_only _) (fun _ h => h.elim)).trans ho1 (fun _ h => h.elim)); clear ho1)
    | ((with_reducible show wpList _ _ _ (⟨none, .store 106 (.tmp 6) _, _, _, _, _⟩ :: _) _ _); refine step_store rfl 106 _ _ rfl (W.heap.size + 1) rfl [.int .i64 0, .bool false, .int .i64 0, .bool false] rfl _ rmv0 (HM.out.only (S := fun _ => False) (by repeat (first | exact Only.refl _ _ | refine Only.alloc ?_ _)) (fun h => h)) size_rmove rfl (rmv_one _ _ _ _) ?_; intro w4 hB4 hz4 ho4)
    | fail)
  refine ret_cell2 rfl (W.heap.size + 1) rfl _ [.int .i64 0, .bool false, .int .i64 0, .bool false] _ hB4.out Tryd.underlying106 rfl size_rmove rfl ?_
  exact ⟨rfl, (HO1.out.trans (T := fun _ => False) (by repeat (first | exact Only.refl _ _ | refine Only.alloc ?_ _)) (fun _ h => h.elim)).trans ho4 (fun i hi => .inr (by omega))⟩

theorem rhear_wnOF (W : World) (a : Bool) : Calls Tryd.prog 43 #[.agg #[.int .i64 2, .bool true], .bool false, .bool a] W fun e w' => e = .returned (.tuple #[.agg #[.int .i64 3, .bool false, .int .i64 1, .bool false], .int .i64 0]) ∧ Only (fun _ => False) W w' := by
  have HR := Lib.hid (rrow_any 2 true 3 .wnO rfl rfl rfl)
  go_enter Tryd.func43, Tryd.ntmps43
  go_wp2_with (first
    | (go_at_call 61; refine (HR.out _).mono ?_; rintro e w1 ⟨rfl, ho1⟩; have HM := Lib.hid ((Blk.new' (n := W.heap.size + 1) (W.alloc (.cells #[.int .i64 2, .bool true] 103)) 106 rmv0 (by simp)).only ho1 (fun h => h)); have HO1 := Lib.hid (((alloc_only (W := W) _).trans (alloc_only _) (fun _ h => h.elim)).trans ho1 (fun _ h => h.elim)); clear ho1)
    | ((with_reducible show wpList _ _ _ (⟨none, .store 106 (.tmp 6) _, _, _, _, _⟩ :: _) _ _); refine step_store rfl 106 _ _ rfl (W.heap.size + 1) rfl [.int .i64 3, .bool false, .int .i64 1, .bool false] rfl _ rmv0 (HM.out.only (S := fun _ => False) (by repeat (first | exact Only.refl _ _ | refine Only.alloc ?_ _)) (fun h => h)) size_rmove rfl (rmv_one _ _ _ _) ?_; intro w4 hB4 hz4 ho4)
    | fail)
  refine ret_cell2 rfl (W.heap.size + 1) rfl _ [.int .i64 3, .bool false, .int .i64 1, .bool false] _ hB4.out Tryd.underlying106 rfl size_rmove rfl ?_
  exact ⟨rfl, (HO1.out.trans (T := fun _ => False) (by repeat (first | exact Only.refl _ _ | refine Only.alloc ?_ _)) (fun _ h => h.elim)).trans ho4 (fun i hi => .inr (by omega))⟩

theorem rhear_wyF (W : World) (a : Bool) : Calls Tryd.prog 43 #[.agg #[.int .i64 3, .bool false], .bool false, .bool a] W fun e w' => e = .returned (.tuple #[.agg #[.int .i64 0, .bool false, .int .i64 0, .bool false], .int .i64 0]) ∧ Only (fun _ => False) W w' := by
  have HR := Lib.hid (rrow_any 3 false 4 .wy rfl rfl rfl)
  go_enter Tryd.func43, Tryd.ntmps43
  go_wp2_with (first
    | (go_at_call 61; refine (HR.out _).mono ?_; rintro e w1 ⟨rfl, ho1⟩; have HM := Lib.hid ((Blk.new' (n := W.heap.size + 1) (W.alloc (.cells #[.int .i64 3, .bool false] 103)) 106 rmv0 (by simp)).only ho1 (fun h => h)); have HO1 := Lib.hid (((alloc_only (W := W) _).trans (alloc_only _) (fun _ h => h.elim)).trans ho1 (fun _ h => h.elim)); clear ho1)
    | ((with_reducible show wpList _ _ _ (⟨none, .store 106 (.tmp 6) _, _, _, _, _⟩ :: _) _ _); refine step_store rfl 106 _ _ rfl (W.heap.size + 1) rfl [.int .i64 0, .bool false, .int .i64 0, .bool false] rfl _ rmv0 (HM.out.only (S := fun _ => False) (by repeat (first | exact Only.refl _ _ | refine Only.alloc ?_ _)) (fun h => h)) size_rmove rfl (rmv_one _ _ _ _) ?_; intro w4 hB4 hz4 ho4)
    | fail)
  refine ret_cell2 rfl (W.heap.size + 1) rfl _ [.int .i64 0, .bool false, .int .i64 0, .bool false] _ hB4.out Tryd.underlying106 rfl size_rmove rfl ?_
  exact ⟨rfl, (HO1.out.trans (T := fun _ => False) (by repeat (first | exact Only.refl _ _ | refine Only.alloc ?_ _)) (fun _ h => h.elim)).trans ho4 (fun i hi => .inr (by omega))⟩

theorem rhear_wyOF (W : World) (a : Bool) : Calls Tryd.prog 43 #[.agg #[.int .i64 3, .bool true], .bool false, .bool a] W fun e w' => e = .returned (.tuple #[.agg #[.int .i64 0, .bool false, .int .i64 0, .bool false], .int .i64 0]) ∧ Only (fun _ => False) W w' := by
  have HR := Lib.hid (rrow_any 3 true 5 .wyO rfl rfl rfl)
  go_enter Tryd.func43, Tryd.ntmps43
  go_wp2_with (first
    | (go_at_call 61; refine (HR.out _).mono ?_; rintro e w1 ⟨rfl, ho1⟩; have HM := Lib.hid ((Blk.new' (n := W.heap.size + 1) (W.alloc (.cells #[.int .i64 3, .bool true] 103)) 106 rmv0 (by simp)).only ho1 (fun h => h)); have HO1 := Lib.hid (((alloc_only (W := W) _).trans (alloc_only _) (fun _ h => h.elim)).trans ho1 (fun _ h => h.elim)); clear ho1)
    | ((with_reducible show wpList _ _ _ (⟨none, .store 106 (.tmp 6) _, _, _, _, _⟩ :: _) _ _); refine step_store rfl 106 _ _ rfl (W.heap.size + 1) rfl [.int .i64 0, .bool false, .int .i64 0, .bool false] rfl _ rmv0 (HM.out.only (S := fun _ => False) (by repeat (first | exact Only.refl _ _ | refine Only.alloc ?_ _)) (fun h => h)) size_rmove rfl (rmv_one _ _ _ _) ?_; intro w4 hB4 hz4 ho4)
    | fail)
  refine ret_cell2 rfl (W.heap.size + 1) rfl _ [.int .i64 0, .bool false, .int .i64 0, .bool false] _ hB4.out Tryd.underlying106 rfl size_rmove rfl ?_
  exact ⟨rfl, (HO1.out.trans (T := fun _ => False) (by repeat (first | exact Only.refl _ _ | refine Only.alloc ?_ _)) (fun _ h => h.elim)).trans ho4 (fun i hi => .inr (by omega))⟩

theorem rhear_yesT (W : World) (a : Bool) : Calls Tryd.prog 43 #[.agg #[.int .i64 1, .bool false], .bool true, .bool a] W fun e w' => e = .returned (.tuple #[.agg #[.int .i64 1, .bool false, .int .i64 0, .bool false], .int .i64 0]) ∧ Only (fun _ => False) W w' := by
  have HR := Lib.hid (rrow_any 1 false 1 .yes rfl rfl rfl)
  go_enter Tryd.func43, Tryd.ntmps43
  go_wp2_with (first
    | (go_at_call 61; refine (HR.out _).mono ?_; rintro e w1 ⟨rfl, ho1⟩; have HM := Lib.hid ((Blk.new' (n := W.heap.size + 1) (W.alloc (.cells #[.int .i64 1, .bool false] 103)) 106 rmv0 (by simp)).only ho1 (fun h => h)); have HO1 := Lib.hid (((alloc_only (W := W) _).trans (alloc_only _) (fun _ h => h.elim)).trans ho1 (fun _ h => h.elim)); clear ho1)
    | ((with_reducible show wpList _ _ _ (⟨none, .store 106 (.tmp 6) _, _, _, _, _⟩ :: _) _ _); refine step_store rfl 106 _ _ rfl (W.heap.size + 1) rfl [.int .i64 1, .bool false, .int .i64 0, .bool false] rfl _ rmv0 (HM.out.only (S := fun _ => False) (by repeat (first | exact Only.refl _ _ | refine Only.alloc ?_ _)) (fun h => h)) size_rmove rfl (rmv_one _ _ _ _) ?_; intro w4 hB4 hz4 ho4)
    | fail)
  refine ret_cell2 rfl (W.heap.size + 1) rfl _ [.int .i64 1, .bool false, .int .i64 0, .bool false] _ hB4.out Tryd.underlying106 rfl size_rmove rfl ?_
  exact ⟨rfl, (HO1.out.trans (T := fun _ => False) (by repeat (first | exact Only.refl _ _ | refine Only.alloc ?_ _)) (fun _ h => h.elim)).trans ho4 (fun i hi => .inr (by omega))⟩

theorem rhear_wnT (W : World) (a : Bool) : Calls Tryd.prog 43 #[.agg #[.int .i64 2, .bool false], .bool true, .bool a] W fun e w' => e = .returned (.tuple #[.agg #[.int .i64 0, .bool false, .int .i64 0, .bool true], .int .i64 0]) ∧ Only (fun _ => False) W w' := by
  have HR := Lib.hid (rrow_any 2 false 2 .wn rfl rfl rfl)
  go_enter Tryd.func43, Tryd.ntmps43
  go_wp2_with (first
    | (go_at_call 61; refine (HR.out _).mono ?_; rintro e w1 ⟨rfl, ho1⟩; have HM := Lib.hid ((Blk.new' (n := W.heap.size + 1) (W.alloc (.cells #[.int .i64 2, .bool false] 103)) 106 rmv0 (by simp)).only ho1 (fun h => h)); have HO1 := Lib.hid (((alloc_only (W := W) _).trans (alloc_only _) (fun _ h => h.elim)).trans ho1 (fun _ h => h.elim)); clear ho1)
    | ((with_reducible show wpList _ _ _ (⟨none, .store 106 (.tmp 6) _, _, _, _, _⟩ :: _) _ _); refine step_store rfl 106 _ _ rfl (W.heap.size + 1) rfl [.int .i64 0, .bool false, .int .i64 0, .bool true] rfl _ rmv0 (HM.out.only (S := fun _ => False) (by repeat (first | exact Only.refl _ _ | refine Only.alloc ?_ _)) (fun h => h)) size_rmove rfl (rmv_one _ _ _ _) ?_; intro w4 hB4 hz4 ho4)
    | fail)
  refine ret_cell2 rfl (W.heap.size + 1) rfl _ [.int .i64 0, .bool false, .int .i64 0, .bool true] _ hB4.out Tryd.underlying106 rfl size_rmove rfl ?_
  exact ⟨rfl, (HO1.out.trans (T := fun _ => False) (by repeat (first | exact Only.refl _ _ | refine Only.alloc ?_ _)) (fun _ h => h.elim)).trans ho4 (fun i hi => .inr (by omega))⟩

theorem rhear_wnOT (W : World) (a : Bool) : Calls Tryd.prog 43 #[.agg #[.int .i64 2, .bool true], .bool true, .bool a] W fun e w' => e = .returned (.tuple #[.agg #[.int .i64 1, .bool false, .int .i64 0, .bool true], .int .i64 0]) ∧ Only (fun _ => False) W w' := by
  have HR := Lib.hid (rrow_any 2 true 3 .wnO rfl rfl rfl)
  go_enter Tryd.func43, Tryd.ntmps43
  go_wp2_with (first
    | (go_at_call 61; refine (HR.out _).mono ?_; rintro e w1 ⟨rfl, ho1⟩; have HM := Lib.hid ((Blk.new' (n := W.heap.size + 1) (W.alloc (.cells #[.int .i64 2, .bool true] 103)) 106 rmv0 (by simp)).only ho1 (fun h => h)); have HO1 := Lib.hid (((alloc_only (W := W) _).trans (alloc_only _) (fun _ h => h.elim)).trans ho1 (fun _ h => h.elim)); clear ho1)
    | ((with_reducible show wpList _ _ _ (⟨none, .store 106 (.tmp 6) _, _, _, _, _⟩ :: _) _ _); refine step_store rfl 106 _ _ rfl (W.heap.size + 1) rfl [.int .i64 1, .bool false, .int .i64 0, .bool true] rfl _ rmv0 (HM.out.only (S := fun _ => False) (by repeat (first | exact Only.refl _ _ | refine Only.alloc ?_ _)) (fun h => h)) size_rmove rfl (rmv_one _ _ _ _) ?_; intro w4 hB4 hz4 ho4)
    | fail)
  refine ret_cell2 rfl (W.heap.size + 1) rfl _ [.int .i64 1, .bool false, .int .i64 0, .bool true] _ hB4.out Tryd.underlying106 rfl size_rmove rfl ?_
  exact ⟨rfl, (HO1.out.trans (T := fun _ => False) (by repeat (first | exact Only.refl _ _ | refine Only.alloc ?_ _)) (fun _ h => h.elim)).trans ho4 (fun i hi => .inr (by omega))⟩

theorem rhear_wyT (W : World) (a : Bool) : Calls Tryd.prog 43 #[.agg #[.int .i64 3, .bool false], .bool true, .bool a] W fun e w' => e = .returned (.tuple #[.agg #[.int .i64 1, .bool false, .int .i64 0, .bool false], .int .i64 0]) ∧ Only (fun _ => False) W w' := by
  have HR := Lib.hid (rrow_any 3 false 4 .wy rfl rfl rfl)
  go_enter Tryd.func43, Tryd.ntmps43
  go_wp2_with (first
    | (go_at_call 61; refine (HR.out _).mono ?_; rintro e w1 ⟨rfl, ho1⟩; have HM := Lib.hid ((Blk.new' (n := W.heap.size + 1) (W.alloc (.cells #[.int .i64 3, .bool false] 103)) 106 rmv0 (by simp)).only ho1 (fun h => h)); have HO1 := Lib.hid (((alloc_only (W := W) _).trans (alloc_only _) (fun _ h => h.elim)).trans ho1 (fun _ h => h.elim)); clear ho1)
    | ((with_reducible show wpList _ _ _ (⟨none, .store 106 (.tmp 6) _, _, _, _, _⟩ :: _) _ _); refine step_store rfl 106 _ _ rfl (W.heap.size + 1) rfl [.int .i64 1, .bool false, .int .i64 0, .bool false] rfl _ rmv0 (HM.out.only (S := fun _ => False) (by repeat (first | exact Only.refl _ _ | refine Only.alloc ?_ _)) (fun h => h)) size_rmove rfl (rmv_one _ _ _ _) ?_; intro w4 hB4 hz4 ho4)
    | fail)
  refine ret_cell2 rfl (W.heap.size + 1) rfl _ [.int .i64 1, .bool false, .int .i64 0, .bool false] _ hB4.out Tryd.underlying106 rfl size_rmove rfl ?_
  exact ⟨rfl, (HO1.out.trans (T := fun _ => False) (by repeat (first | exact Only.refl _ _ | refine Only.alloc ?_ _)) (fun _ h => h.elim)).trans ho4 (fun i hi => .inr (by omega))⟩

theorem rhear_wyOT (W : World) (a : Bool) : Calls Tryd.prog 43 #[.agg #[.int .i64 3, .bool true], .bool true, .bool a] W fun e w' => e = .returned (.tuple #[.agg #[.int .i64 2, .bool false, .int .i64 2, .bool false], .int .i64 0]) ∧ Only (fun _ => False) W w' := by
  have HR := Lib.hid (rrow_any 3 true 5 .wyO rfl rfl rfl)
  go_enter Tryd.func43, Tryd.ntmps43
  go_wp2_with (first
    | (go_at_call 61; refine (HR.out _).mono ?_; rintro e w1 ⟨rfl, ho1⟩; have HM := Lib.hid ((Blk.new' (n := W.heap.size + 1) (W.alloc (.cells #[.int .i64 3, .bool true] 103)) 106 rmv0 (by simp)).only ho1 (fun h => h)); have HO1 := Lib.hid (((alloc_only (W := W) _).trans (alloc_only _) (fun _ h => h.elim)).trans ho1 (fun _ h => h.elim)); clear ho1)
    | ((with_reducible show wpList _ _ _ (⟨none, .store 106 (.tmp 6) _, _, _, _, _⟩ :: _) _ _); refine step_store rfl 106 _ _ rfl (W.heap.size + 1) rfl [.int .i64 2, .bool false, .int .i64 2, .bool false] rfl _ rmv0 (HM.out.only (S := fun _ => False) (by repeat (first | exact Only.refl _ _ | refine Only.alloc ?_ _)) (fun h => h)) size_rmove rfl (rmv_one _ _ _ _) ?_; intro w4 hB4 hz4 ho4)
    | fail)
  refine ret_cell2 rfl (W.heap.size + 1) rfl _ [.int .i64 2, .bool false, .int .i64 2, .bool false] _ hB4.out Tryd.underlying106 rfl size_rmove rfl ?_
  exact ⟨rfl, (HO1.out.trans (T := fun _ => False) (by repeat (first | exact Only.refl _ _ | refine Only.alloc ?_ _)) (fun _ h => h.elim)).trans ho4 (fun i hi => .inr (by omega))⟩

theorem rhear_noTT (W : World) : Calls Tryd.prog 43 #[.agg #[.int .i64 0, .bool false], .bool true, .bool true] W fun e w' => e = .returned (.tuple #[.agg #[.int .i64 1, .bool false, .int .i64 1, .bool false], .int .i64 0]) ∧ Only (fun _ => False) W w' := by
  have HR := Lib.hid (rrow_any 0 false 0 .no rfl rfl rfl)
  go_enter Tryd.func43, Tryd.ntmps43
  go_wp2_with (first
    | (go_at_call 61; refine (HR.out _).mono ?_; rintro e w1 ⟨rfl, ho1⟩; have HM := Lib.hid ((Blk.new' (n := W.heap.size + 1) (W.alloc (.cells #[.int .i64 0, .bool false] 103)) 106 rmv0 (by simp)).only ho1 (fun h => h)); have HO1 := Lib.hid (((alloc_only (W := W) _).trans (alloc_only _) (fun _ h => h.elim)).trans ho1 (fun _ h => h.elim)); clear ho1)
    | ((with_reducible show wpList _ _ _ (⟨none, .store 106 (.tmp 6) _, _, _, _, _⟩ :: _) _ _); refine step_store rfl 106 _ _ rfl (W.heap.size + 1) rfl [.int .i64 1, .bool false, .int .i64 1, .bool false] rfl _ rmv0 (HM.out.only (S := fun _ => False) (by repeat (first | exact Only.refl _ _ | refine Only.alloc ?_ _)) (fun h => h)) size_rmove rfl (rmv_one _ _ _ _) ?_; intro w4 hB4 hz4 ho4)
    | fail)
  refine ret_cell2 rfl (W.heap.size + 1) rfl _ [.int .i64 1, .bool false, .int .i64 1, .bool false] _ hB4.out Tryd.underlying106 rfl size_rmove rfl ?_
  exact ⟨rfl, (HO1.out.trans (T := fun _ => False) (by repeat (first | exact Only.refl _ _ | refine Only.alloc ?_ _)) (fun _ h => h.elim)).trans ho4 (fun i hi => .inr (by omega))⟩

theorem rhear_noTF (W : World) : Calls Tryd.prog 43 #[.agg #[.int .i64 0, .bool false], .bool true, .bool false] W fun e w' => e = .returned (.tuple #[.agg #[.int .i64 0, .bool false, .int .i64 2, .bool false], .int .i64 0]) ∧ Only (fun _ => False) W w' := by
  have HR := Lib.hid (rrow_any 0 false 0 .no rfl rfl rfl)
  go_enter Tryd.func43, Tryd.ntmps43
  go_wp2_with (first
    | (go_at_call 61; refine (HR.out _).mono ?_; rintro e w1 ⟨rfl, ho1⟩; have HM := Lib.hid ((Blk.new' (n := W.heap.size + 1) (W.alloc (.cells #[.int .i64 0, .bool false] 103)) 106 rmv0 (by simp)).only ho1 (fun h => h)); have HO1 := Lib.hid (((alloc_only (W := W) _).trans (alloc_only _) (fun _ h => h.elim)).trans ho1 (fun _ h => h.elim)); clear ho1)
    | ((with_reducible show wpList _ _ _ (⟨none, .store 106 (.tmp 6) _, _, _, _, _⟩ :: _) _ _); refine step_store rfl 106 _ _ rfl (W.heap.size + 1) rfl [.int .i64 0, .bool false, .int .i64 2, .bool false] rfl _ rmv0 (HM.out.only (S := fun _ => False) (by repeat (first | exact Only.refl _ _ | refine Only.alloc ?_ _)) (fun h => h)) size_rmove rfl (rmv_one _ _ _ _) ?_; intro w4 hB4 hz4 ho4)
    | fail)
  refine ret_cell2 rfl (W.heap.size + 1) rfl _ [.int .i64 0, .bool false, .int .i64 2, .bool false] _ hB4.out Tryd.underlying106 rfl size_rmove rfl ?_
  exact ⟨rfl, (HO1.out.trans (T := fun _ => False) (by repeat (first | exact Only.refl _ _ | refine Only.alloc ?_ _)) (fun _ h => h.elim)).trans ho4 (fun i hi => .inr (by omega))⟩

theorem rhear_any (W : World) (q : Qs) (iss a : Bool) : Calls Tryd.prog 43 #[.agg #[.int .i64 (q.kind : Int), .bool q.opp], .bool iss, .bool a] W fun e w' => e = .returned (.tuple #[.agg (mvC (hearQ q iss a).1 (hearQ q iss a).2.1 (hearQ q iss a).2.2).toArray, .int .i64 0]) ∧ Only (fun _ => False) W w' := by
  cases q <;> cases iss
  · exact rhear_noF W a
  · cases a
    · exact rhear_noTF W
    · exact rhear_noTT W
  · exact rhear_yesF W a
  · exact rhear_yesT W a
  · exact rhear_wnF W a
  · exact rhear_wnT W a
  · exact rhear_wnOF W a
  · exact rhear_wnOT W a
  · exact rhear_wyF W a
  · exact rhear_wyT W a
  · exact rhear_wyOF W a
  · exact rhear_wyOT W a
end Go.Proofs.YthbmhoeaimdjmaaDoor
