/- math/bits.Mul of one and a small number. -/
import Derived.Test.YtgknhojjnnljkaaDoorAlloc
namespace Go.Proofs.YtgknhojjnnljkaaDoor
open Go Go.RowKit
set_option maxRecDepth 100000
set_option maxHeartbeats 400000

theorem mask_t : ∀ a : Fin 201, bits .and .u64 (a.val : Int) 4294967295 = (a.val : Int) := by decide +kernel
/-- What the upper word comes to. -/
def upW (n : Int) : Int := IntKind.u64.wrap (IntKind.u64.wrap (IntKind.u64.wrap (IntKind.u64.wrap (bits BinOp.and IntKind.u64 1 4294967295 * n) / 4294967296) / 4294967296) + IntKind.u64.wrap (bits BinOp.and IntKind.u64 (IntKind.u64.wrap (IntKind.u64.wrap (bits BinOp.and IntKind.u64 1 4294967295 * n) / 4294967296)) 4294967295 + IntKind.u64.wrap (bits BinOp.and IntKind.u64 1 4294967295 * (n / 4294967296))) / 4294967296)
theorem up_t : ∀ a : Fin 201, upW (a.val : Int) = 0 := by decide +kernel
theorem mul64_any {n : Nat} (hn : n ≤ 200) (w : World) : Calls Tryd.prog 64 #[.int .u64 1, .int .u64 (n : Int)] w fun e w' => e = .returned (.tuple #[.int .u64 0, .int .u64 (n : Int)]) ∧ w' = w := by
  have m1 := mask_t ⟨n, by omega⟩
  have m2 := up_t ⟨n, by omega⟩
  dsimp only at m1 m2
  have H2 := Lib.hid m2
  clear m2
  go_enter Tryd.func64, Tryd.ntmps64
  go_wp2
  go_ret2
  refine ⟨?_, rfl⟩
  show Ending.returned (.tuple #[.int .u64 (upW (n : Int)), .int .u64 (n : Int)]) = _
  rw [H2.out]
theorem mul_any {n : Nat} (hn : n ≤ 200) (w : World) : Calls Tryd.prog 56 #[.int .u64 1, .int .u64 (n : Int)] w fun e w' => e = .returned (.tuple #[.int .u64 0, .int .u64 (n : Int)]) ∧ w' = w := by
  have HM := Lib.hid (fun W => mul64_any hn W)
  go_enter Tryd.func56, Tryd.ntmps56
  go_wp2_with (go_at_call 64; (with_reducible refine (HM.out _).mono ?_); rintro e w' ⟨rfl, e2⟩; subst w')
  go_ret2
  exact ⟨rfl, rfl⟩
end Go.Proofs.YtgknhojjnnljkaaDoor
