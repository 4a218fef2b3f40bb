
/- A variable of a struct's type; the store of a whole struct in a region that draws its order. -/
import Derived.Test.YtgknhojjnnljkaaDoorInfo
import Derived.Great.BuildSlice
import Derived.Deep.WholeRow
namespace Go.Proofs.YtgknhojjnnljkaaDoor
open Go Go.RowKit

theorem at_add (g j : Nat) : (⟨g, 0, none⟩ : Addr).add j = ⟨g, j, none⟩ := by unfold Addr.add; split <;> simp_all

section
variable {P : Program} {ops : Array Oper} {rest : List Oper} {o : Oper} {a : Act} {w : World} {Q : Exit → Act → World → Prop}
/-- A variable of a struct's type. -/
theorem step_alloc (hgd : o.guard = none) (t : TypeId) (ho : o.op = .alloc t) (cells : List Value) (n : Nat) (hz : (P.info? t).map (fun i => (i.zero, i.size)) = some (some (.agg cells.toArray), n))
    (h : wpList P ops Q rest (a.put o.dst (.pointer (some ⟨w.heap.size, 0, none⟩))) (w.alloc (.cells cells.toArray t))) : wpList P ops Q (o :: rest) a w := by
  refine wpList_plain hgd fun K hK => ?_
  have hzz := (zero_of_info hz).1
  unfold Oper.wp execOp
  simp only [ho, Sem.run_bind, Instr.alloc, newVar, newRow, hzz, run_newObj_alloc, Sem.run_pure, Result.andThen_ok]
  exact hK _ _ h
end
/-- *p = v in a region that draws its order. -/
theorem step_storeR {P : Program} {ops : Array Oper} {o : Oper} {a : Act} {w : World} {K : Act → World → Prop} {Q : Exit → Act → World → Prop} {E : Prop} (ty : TypeId) (x y : Operand) (ho : o.op = .store ty x y) (hw : Region.wanted o (yielded ops a.tmps) = true)
    (g : Nat) (hx : a.eval x = .pointer (some ⟨g, 0, none⟩)) (cells : List Value) (hy : a.eval y = .agg cells.toArray) (t : TypeId) (old : List Value) (hg : Blk w g t old) (hi : (P.info? ty).map (·.size) = some cells.length) (hold : old.length = cells.length) (h1 : ∀ v ∈ cells, v.oneCell' = true)
    (h : ∀ w', Hid (Blk w' g t cells) → Hid (w'.heap.size = w.heap.size) → Only (· = g) w w' → K (a.put o.dst undef) w') : if Region.wanted o (yielded ops a.tmps) = true then Oper.wp P o a w K Q else E := by
  rw [if_pos hw]
  refine wp_store_row ty x y ho g cells.toArray hx hy t old.toArray hg (by simpa using hi) (by simpa using hold) (all_oneCell_toArray h1) ?_
  refine h _ (show Blk _ _ _ _ by
    unfold Blk
    exact setRow_heap w g old.toArray cells.toArray t (0, 0) hg) (show _ = _ by simp [World.setRow]) ((Only.refl (· = g) w).setRow (.inl rfl) _)
end Go.Proofs.YtgknhojjnnljkaaDoor
