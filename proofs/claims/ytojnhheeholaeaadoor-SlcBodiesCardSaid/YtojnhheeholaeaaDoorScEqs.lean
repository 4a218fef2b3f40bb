/- Layer 14: two triples by '=='. -/
import Derived.Test.YtojnhheeholaeaaDoorScRef
namespace Go.Proofs.YtojnhheeholaeaaDoor
open Go Go.RowKit
set_option maxRecDepth 100000
set_option maxHeartbeats 4000000

theorem eq_rtri (W : World) (f l v : Int) (a : Bool) : (Op.equalIn 10000 41 (.agg #[.int .i64 f, .int .i64 l, .int .i64 v, .bool a]) (.agg #[.int .i64 f, .int .i64 l, .int .i64 v, .bool a])).run Tryd.prog W = .ok true W := by
  have h2 : (Op.equalIn 9999 39 (.agg #[.int .i64 l, .int .i64 v]) (.agg #[.int .i64 l, .int .i64 v])).run Tryd.prog W = .ok true W := by
    rw [show (9999 : Nat) = 9998 + 1 from rfl, run_equalIn_struct W 9998 _ _ _ (by kernel_rfl) (by kernel_rfl)]
    have u3 : Tryd.prog.underlying 3 = some (.int .i64) := Tryd.underlying3
    simp only [Program.fieldsOf, Tryd.underlying39, Op.eqFields]
    simp [go_sem, u3, Result.andThen]
  rw [show (10000 : Nat) = 9999 + 1 from rfl, run_equalIn_struct W 9999 _ _ _ (by kernel_rfl) (by kernel_rfl)]
  have u3 : Tryd.prog.underlying 3 = some (.int .i64) := Tryd.underlying3
  have u4 : Tryd.prog.underlying 4 = some .bool := Tryd.underlying4
  simp only [Program.fieldsOf, Tryd.underlying41, Op.eqFields]
  simp [go_sem, u3, u4, Result.andThen, h2]
theorem guard_rtri : Tryd.prog.eqGuardType Tryd.prog.depth 41 = false := by kernel_rfl
theorem eq_tri (W : World) (f l v : Int) (a : Bool) : (Op.equalIn 10000 34 (.agg #[.int .i64 f, .int .i64 l, .int .i64 v, .bool a]) (.agg #[.int .i64 f, .int .i64 l, .int .i64 v, .bool a])).run Tryd.prog W = .ok true W := by
  have h2 : (Op.equalIn 9999 32 (.agg #[.int .i64 l, .int .i64 v]) (.agg #[.int .i64 l, .int .i64 v])).run Tryd.prog W = .ok true W := by
    rw [show (9999 : Nat) = 9998 + 1 from rfl, run_equalIn_struct W 9998 _ _ _ (by kernel_rfl) (by kernel_rfl)]
    have u3 : Tryd.prog.underlying 3 = some (.int .i64) := Tryd.underlying3
    simp only [Program.fieldsOf, Tryd.underlying32, Op.eqFields]
    simp [go_sem, u3, Result.andThen]
  rw [show (10000 : Nat) = 9999 + 1 from rfl, run_equalIn_struct W 9999 _ _ _ (by kernel_rfl) (by kernel_rfl)]
  have u3 : Tryd.prog.underlying 3 = some (.int .i64) := Tryd.underlying3
  have u4 : Tryd.prog.underlying 4 = some .bool := Tryd.underlying4
  simp only [Program.fieldsOf, Tryd.underlying34, Op.eqFields]
  simp [go_sem, u3, u4, Result.andThen, h2]
theorem guard_tri' : Tryd.prog.eqGuardType Tryd.prog.depth 34 = false := by kernel_rfl
end Go.Proofs.YtojnhheeholaeaaDoor
