/- A mask's row of bytes, as a slice of it all. -/
import Derived.Test.YtedaldkfflogkaaMk
namespace Go.Proofs.Ytedaldkfflogkaa
open Go Go.RowKit
set_option maxRecDepth 100000
set_option maxHeartbeats 4000000

theorem all_mask (W : World) (N : Nat) : (Instr.sliceAt 24 (.pointer (some ⟨N, 0, none⟩)) none none none).run Try.prog W = .ok (.slice (some ⟨N, 0, none⟩) 32 32) W := by
  have hu := Try.underlying24
  have hs : ∀ W, (sizeOf 5).run Try.prog W = .ok 1 W := fun W => by kernel_rfl
  have h := run_sliceAt_array_all (P := Try.prog) (w := W) (a := ⟨N, 0, none⟩) (t := 24) hu
  rw [h]
  exact (show ((sizeOf 5).run Try.prog W).andThen _ = _ from by rw [hs W]; rfl)
end Go.Proofs.Ytedaldkfflogkaa
