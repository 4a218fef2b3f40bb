/- A token's cells as the document has them. -/
import Derived.Test.YtelmfncdamakfaaTk
import Derived.Test.YtelmfncdamakfaaText
namespace Go.Proofs.Ytelmfncdamakfaa
open Go Go.RowKit
set_option maxRecDepth 100000

/-- A token's cells, as the document has it. -/
def rkCells (t : Tk) : List Value := [.int .i64 t.kind, .int .i64 t.code, .int .i64 t.opt, .string ⟨t.body.toArray⟩, .bool t.cut]
theorem size_rtok : (Try.prog.info? 56).map (·.size) = some 5 := by kernel_rfl
theorem rk_one (t : Tk) : ∀ v ∈ rkCells t, v.oneCell' = true := by
  intro v hv
  simp only [rkCells, List.mem_cons, List.not_mem_nil, or_false] at hv
  rcases hv with rfl | rfl | rfl | rfl | rfl <;> rfl
def tokN (o : Option (Tk × Nat)) : Tk × Nat := o.getD (Tk.none, 0)
end Go.Proofs.Ytelmfncdamakfaa
