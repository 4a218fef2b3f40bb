/- Layer 11's law: the document's layer 10: which row a state has. -/
import Derived.Test.YthbmhoeaimdjmaaDoorQsTb
namespace Go.Proofs.YthbmhoeaimdjmaaDoor
open Go Go.RowKit
set_option maxRecDepth 100000
set_option maxHeartbeats 4000000

def Qs.ix : Qs → Nat
  | .no => 0 | .yes => 1 | .wn => 2 | .wnO => 3 | .wy => 4 | .wyO => 5
theorem ix_at {j : Nat} {s q : Qs} (h : qsAll[j]? = some s) : ((s.kind : Int) = (q.kind : Int) ∧ s.opp = q.opp) ↔ j = q.ix := by
  rcases j with _ | _ | _ | _ | _ | _ | j <;> simp only [qsAll, List.getElem?_cons_zero, List.getElem?_cons_succ, Option.some.injEq, List.getElem?_nil, reduceCtorEq] at h
  all_goals (subst h; cases q <;> simp [Qs.ix, Qs.kind, Qs.opp])
def sts : List Value := [.int .i64 0, .bool false, .int .i64 1, .bool false, .int .i64 2, .bool false, .int .i64 2, .bool true, .int .i64 3, .bool false, .int .i64 3, .bool true]
theorem sts_at {w : World} {g : Nat} {t : TypeId} (h : Blk w g t sts) {j : Nat} {s : Qs} (hs : qsAll[j]? = some s) : w.rangeAt g (j * 2) [.int .i64 (s.kind : Int), .bool s.opp] := by
  intro i v hv
  rw [h.cell]
  rcases j with _ | _ | _ | _ | _ | _ | j <;> simp only [qsAll, List.getElem?_cons_zero, List.getElem?_cons_succ, Option.some.injEq, List.getElem?_nil, reduceCtorEq] at hs
  all_goals
    subst hs
    rcases i with _ | _ | i
    · exact hv
    · exact hv
    · simp at hv
theorem size_rstate : (Tryd.prog.info? 103).map (·.size) = some 2 := by kernel_rfl
theorem size_rmove : (Tryd.prog.info? 106).map (·.size) = some 4 := by kernel_rfl
theorem guard_rstate : Tryd.prog.eqGuardType Tryd.prog.depth 103 = false := by kernel_rfl
theorem eq_rstate (W : World) (a c : Int) (b d : Bool) : (Op.equalIn 10000 103 (.agg #[.int .i64 a, .bool b]) (.agg #[.int .i64 c, .bool d])).run Tryd.prog W = .ok (decide (a = c ∧ b = d)) W := by
  rw [show (10000 : Nat) = 9999 + 1 from rfl, run_equalIn_struct W 9999 _ _ _ (by kernel_rfl) (by kernel_rfl)]
  have u3 : Tryd.prog.underlying 3 = some (.int .i64) := Tryd.underlying3
  have u4 : Tryd.prog.underlying 4 = some .bool := Tryd.underlying4
  simp only [Program.fieldsOf, Tryd.underlying103, Op.eqFields]
  simp [go_sem, u3, u4, Result.andThen]
  by_cases h1 : a = c <;> by_cases h2 : b = d <;> simp [h1, h2]

theorem row_any (W : World) (q : Qs) : Calls Tryd.prog 61 #[.agg #[.int .i64 (q.kind : Int), .bool q.opp]] W fun e w' => e = .returned (.int .i64 (q.ix : Int)) ∧ Only (fun _ => False) W w' := by
  obtain ⟨k, hk⟩ : ∃ x, x = (q.kind : Int) := ⟨_, rfl⟩
  obtain ⟨o, ho⟩ : ∃ x, x = q.opp := ⟨_, rfl⟩
  obtain ⟨r, hr⟩ : ∃ x, x = q.ix := ⟨_, rfl⟩
  have hr6 : r < 6 := by rw [hr]; cases q <;> decide
  have HK := Lib.hid hk
  have HOp := Lib.hid ho
  have HR := Lib.hid hr
  rw [← hk, ← ho, ← hr]
  clear hk ho hr
  go_enter Tryd.func61, Tryd.ntmps61
  go_wp2
  obtain ⟨N, hN⟩ : ∃ N, N = W.heap.size := ⟨_, rfl⟩
  obtain ⟨W0, hW0⟩ : ∃ W0, W0 = (W.alloc (.cells #[.int .i64 k, .bool o] 103)).alloc (.cells #[.int .i64 0, .bool false, .int .i64 1, .bool false, .int .i64 2, .bool false, .int .i64 2, .bool true, .int .i64 3, .bool false, .int .i64 3, .bool true] 103) := ⟨_, rfl⟩
  have HB1 : Hid (Blk W0 N 103 [.int .i64 k, .bool o]) := by rw [hW0, hN]; exact (Blk.new W _ [.int .i64 k, .bool o]).alloc _
  have HB2 : Hid (Blk W0 (N + 1) 103 sts) := by rw [hW0, hN]; exact Blk.new' _ _ sts (by simp)
  have HO0 : Hid (Only (fun _ => False) W W0) := by rw [hW0]; exact ((Only.refl _ _).alloc _).alloc _
  rw [← hN, ← hW0]
  clear hW0 hN
  go_loopw [13] (fun i w => ∃ j : Nat, j ≤ r ∧ i = .int .i64 (j : Int) ∧ Hid (Only (fun _ => False) W0 w)) (fun i _ => r + 1 - (intOf i).toNat)
  case atStart => exact ⟨0, Nat.zero_le _, rfl, Only.refl _ _⟩
  case round =>
    obtain ⟨j, hj, rfl, hrel⟩ := hrel
    have hlt : j < 6 := by omega
    have hlt2 : (j : Int) < 6 := by omega
    obtain ⟨s, hs⟩ : ∃ s, qsAll[j]? = some s := ⟨_, List.getElem?_eq_getElem (by exact hlt)⟩
    obtain ⟨same, hsame⟩ : ∃ same, same = decide ((s.kind : Int) = k ∧ s.opp = o) := ⟨_, rfl⟩
    have hsj : same = decide (j = r) := by
      rw [hsame, HK.out, HOp.out, HR.out]
      exact decide_eq_decide.2 (ix_at hs)
    have heq : ∀ W, (Op.equalIn 10000 103 (.agg #[.int .i64 (s.kind : Int), .bool s.opp]) (.agg #[.int .i64 k, .bool o])).run Tryd.prog W = .ok same W := fun W => by rw [hsame]; exact eq_rstate W _ _ _ _
    have hrg := sts_at (HB2.out.only hrel.out (fun h => h)) hs
    have hgr := guard_rstate
    obtain ⟨sk, hsk⟩ : ∃ sk, sk = (s.kind : Int) := ⟨_, rfl⟩
    obtain ⟨so, hso⟩ : ∃ so, so = s.opp := ⟨_, rfl⟩
    rw [← hsk, ← hso] at heq hrg
    have HRg := Lib.hid hrg
    have HB1' := Lib.hid (HB1.out.only hrel.out (fun h => h))
    clear hs hsame hsk hso hrg
    by_cases hjr : j = r
    · have hsame2 : same = true := by rw [hsj]; simpa using hjr
      subst hsame2
      have HJR := Lib.hid hjr
      clear hsj hjr
      go_wp2_with (first
        | ((with_reducible show wpList _ _ _ (⟨some 17, _, _, _, _, _⟩ :: _) _ _); refine wpList_load_mid rfl 103 _ rfl (N + 1) (j * 2) rfl [.int .i64 sk, .bool so] _ HRg.out Tryd.underlying103 rfl size_rstate ?_)
        | ((with_reducible show wpList _ _ _ (⟨some 19, _, _, _, _, _⟩ :: _) _ _); refine wpList_load_mid rfl 103 _ rfl N 0 rfl [.int .i64 k, .bool o] _ (range_of (HB1'.out.alloc _)) Tryd.underlying103 rfl size_rstate ?_)
        | fail)
      go_ret
      exact ⟨by rw [HJR.out]; rfl, HO0.out.trans (hrel.out.alloc _) (fun _ h => h.elim)⟩
    · have hsame2 : same = false := by rw [hsj]; simpa using hjr
      subst hsame2
      have hjr2 : j + 1 ≤ r := by omega
      clear hsj hjr
      go_wp2_with (first
        | ((with_reducible show wpList _ _ _ (⟨some 17, _, _, _, _, _⟩ :: _) _ _); refine wpList_load_mid rfl 103 _ rfl (N + 1) (j * 2) rfl [.int .i64 sk, .bool so] _ HRg.out Tryd.underlying103 rfl size_rstate ?_)
        | ((with_reducible show wpList _ _ _ (⟨some 19, _, _, _, _, _⟩ :: _) _ _); refine wpList_load_mid rfl 103 _ rfl N 0 rfl [.int .i64 k, .bool o] _ (range_of (HB1'.out.alloc _)) Tryd.underlying103 rfl size_rstate ?_)
        | fail)
      go_roundw
      case rel => exact ⟨j + 1, hjr2, by go_num, hrel.out.alloc _⟩
      case measure => simp [intOf]; omega
end Go.Proofs.YthbmhoeaimdjmaaDoor
