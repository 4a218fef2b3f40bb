/- CellsPlain: the walk of whatever came in. -/
import Derived.Test.YtgknhojjnnljkaaDoorCePlainL
namespace Go.Proofs.YtgknhojjnnljkaaDoor
open Go Go.RowKit
set_option maxRecDepth 100000

theorem cellsPlain_facts {W : World} (_ : laidMetH Tryd.prog Rows.cellsPlainRow.laid W) : True := trivial
theorem cellsPlain_walk (W : World) {H : Type} {enc : TypeId × Value → H} {f0 : Nat} {A : Option Addr} {n c : Nat} {x : DataW H × List MemPlace} (hf : DataW.trod enc Tryd.prog W 0 (fun _ => true) true f0 43 [.slice A n c] = some x) (z : Int)
    (_ : True) : Calls Tryd.prog 5 #[.slice A n c, .int .i64 z] W (Fine W) := by
  obtain ⟨ts, hts, _, _, _⟩ := opened_texts hf
  by_cases hl : n < 1 ∨ 20 < n ∨ z < 1 ∨ 60 < z
  · exact plain_out W A n c z hl
  · have := plain_in (w := W) (d := c) hts (by omega) (by omega) (c := z.toNat) (by omega) (by omega)
    rw [Int.toNat_of_nonneg (by omega)] at this
    exact this
end Go.Proofs.YtgknhojjnnljkaaDoor
