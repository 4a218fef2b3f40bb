/- append of one value onto a row of one cell an element, wherever in its block it begins. -/
import Derived.Test.YtefcgbkbgkllaaaDoorRow
import Derived.Test.YtefcgbkbgkllaaaDoorRow1
namespace Go.Proofs.YtefcgbkbgkllaaaDoor
open Go Go.RowKit
set_option maxRecDepth 100000
set_option maxHeartbeats 4000000

section
variable {ops : Array Oper} {rest : List Oper} {o : Oper} {a : Act} {w : World} {Q : Exit → Act → World → Prop}
theorem run_one_row (t ty e : TypeId) (z : Value) (bytes : Nat) (ht : Tryd.prog.underlying t = some (.slice e)) (hi : (Tryd.prog.info? e).map (fun i => (i.zero, i.size, i.bytes)) = some (some z, 1, bytes)) (hz : z.cells.size = 1) (hby : bytes ≤ 64)
    (B : Nat) (A : Option Addr) (n c : Nat) (vs : List Value) (hb : RowAt w B e 1 (.slice A n c) n vs) (g : Nat) (u : Value) (hc : w.cell? ⟨g, 0, none⟩ = some u) (hu : u.oneCell' = true) (hbd : n ≤ 1048576) (hB : B ≤ w.heap.size) :
    ∃ A' c' w', (Builtin.append_ #[t, t] ty #[.slice A n c, .slice (some ⟨g, 0, none⟩) 1 1]).run Tryd.prog w = .ok (.slice A' (n + 1) c') w' ∧ RowAt w' B e 1 (.slice A' (n + 1) c') (n + 1) (vs ++ [u]) ∧ w.grownBy w' (Value.slice A n c).ownBlock ∧ ∀ k, (Value.slice A' (n + 1) c').ownBlock = some k → (Value.slice A n c).ownBlock = some k ∨ w.heap.size ≤ k := by
  obtain ⟨i, hi, hz1, h1, h2⟩ := info1 hi
  have hby' : (n + 1) * bytes ≤ 140737488355328 := Nat.le_trans (Nat.mul_le_mul (by omega : n + 1 ≤ 1048577) hby) (by decide)
  obtain ⟨v', w', hr, hq⟩ := run_append_row (P := Tryd.prog) w B t ty e i z 1 bytes ht hi hz1 h1 h2 hz (by omega) _ n vs hb ⟨g, 0, none⟩ 1 1 [u] rfl (fun j v hj => by
    have hj0 : j = 0 := by have := (List.getElem?_eq_some_iff.1 hj).1; simp at this; omega
    subst hj0
    simp only [List.getElem?_cons_zero, Option.some.injEq] at hj
    subst hj
    rw [at_add]
    exact hc) (fun v hv => by obtain rfl := List.mem_singleton.1 hv; exact hu) (by omega) hby' hB
  obtain ⟨A', c', rfl, _, _⟩ := hq.1.form
  exact ⟨A', c', w', hr, hq⟩
theorem step_one_row (hgd : o.guard = none) (sx x : Operand) (t : TypeId) (ho : o.op = .call { callee := .builtin .append, args := #[sx, x], argTypes := #[t, t] })
    (e : TypeId) (z : Value) (bytes : Nat) (ht : Tryd.prog.underlying t = some (.slice e)) (hi : (Tryd.prog.info? e).map (fun i => (i.zero, i.size, i.bytes)) = some (some z, 1, bytes)) (hz : z.cells.size = 1) (hby : bytes ≤ 64)
    (B : Nat) (A : Option Addr) (n c : Nat) (vs : List Value) (hs : a.eval sx = .slice A n c) (hb : RowAt w B e 1 (.slice A n c) n vs) (g : Nat) (u : Value) (hx : a.eval x = .slice (some ⟨g, 0, none⟩) 1 1) (hc : w.cell? ⟨g, 0, none⟩ = some u) (hu : u.oneCell' = true) (hbd : n ≤ 1048576) (hB : B ≤ w.heap.size)
    (h : ∀ A' c' w', Hid (RowAt w' B e 1 (.slice A' (n + 1) c') (n + 1) (vs ++ [u])) → Hid (w.grownBy w' (Value.slice A n c).ownBlock) → Hid (∀ k, (Value.slice A' (n + 1) c').ownBlock = some k → (Value.slice A n c).ownBlock = some k ∨ w.heap.size ≤ k) → wpList Tryd.prog ops Q rest (a.put o.dst (.slice A' (n + 1) c')) w') :
    wpList Tryd.prog ops Q (o :: rest) a w := by
  refine wpList_plain hgd fun K hK => ?_
  obtain ⟨A', c', w', hr, h2⟩ := run_one_row (w := w) t o.type e z bytes ht hi hz hby B A n c vs hb g u hc hu hbd hB
  unfold Oper.wp
  simp [execOp, ho, resolve, invoke, builtin, hs, hx, hr, Result.andThen]
  exact hK _ _ (h A' c' w' h2.1 h2.2.1 h2.2.2)
/-- .. at a step of a region that draws its order. -/
theorem step_one_rowR {K : Act → World → Prop} {E : Prop} (hgd : o.guard = none) (sx x : Operand) (t : TypeId) (ho : o.op = .call { callee := .builtin .append, args := #[sx, x], argTypes := #[t, t] })
    (e : TypeId) (z : Value) (bytes : Nat) (ht : Tryd.prog.underlying t = some (.slice e)) (hi : (Tryd.prog.info? e).map (fun i => (i.zero, i.size, i.bytes)) = some (some z, 1, bytes)) (hz : z.cells.size = 1) (hby : bytes ≤ 64)
    (B : Nat) (A : Option Addr) (n c : Nat) (vs : List Value) (hs : a.eval sx = .slice A n c) (hb : RowAt w B e 1 (.slice A n c) n vs) (g : Nat) (u : Value) (hx : a.eval x = .slice (some ⟨g, 0, none⟩) 1 1) (hc : w.cell? ⟨g, 0, none⟩ = some u) (hu : u.oneCell' = true) (hbd : n ≤ 1048576) (hB : B ≤ w.heap.size)
    (h : ∀ A' c' w', Hid (RowAt w' B e 1 (.slice A' (n + 1) c') (n + 1) (vs ++ [u])) → Hid (w.grownBy w' (Value.slice A n c).ownBlock) → Hid (∀ k, (Value.slice A' (n + 1) c').ownBlock = some k → (Value.slice A n c).ownBlock = some k ∨ w.heap.size ≤ k) → K (a.put o.dst (.slice A' (n + 1) c')) w') :
    if Region.wanted o (yielded ops a.tmps) = true then Oper.wp Tryd.prog o a w K Q else E := by
  rw [if_pos (by simp [Region.wanted, hgd])]
  obtain ⟨A', c', w', hr, h2⟩ := run_one_row (w := w) t o.type e z bytes ht hi hz hby B A n c vs hb g u hc hu hbd hB
  unfold Oper.wp
  simp [execOp, ho, resolve, invoke, builtin, hs, hx, hr, Result.andThen]
  exact h A' c' w' h2.1 h2.2.1 h2.2.2
end
end Go.Proofs.YtefcgbkbgkllaaaDoor
