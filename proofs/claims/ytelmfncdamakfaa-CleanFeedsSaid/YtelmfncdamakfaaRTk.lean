/- Rows of tokens as the document has them. -/
import Derived.Test.YtelmfncdamakfaaStr
namespace Go.Proofs.Ytelmfncdamakfaa
open Go Go.RowKit
set_option maxRecDepth 100000
set_option maxHeartbeats 4000000

def flatR : List Tk → List Value
  | [] => []
  | t :: l => rkCells t ++ flatR l
theorem flatR_length (l : List Tk) : (flatR l).length = l.length * 5 := by
  induction l with
  | nil => rfl
  | cons x l ih => simp only [flatR, List.length_append, ih, List.length_cons, rkCells, List.length_nil]; omega
theorem flatR_append (l k : List Tk) : flatR (l ++ k) = flatR l ++ flatR k := by
  induction l with
  | nil => rfl
  | cons x l ih => simp [flatR, ih]
theorem flatR_get : ∀ {l : List Tk} {i : Nat} {x : Tk}, l[i]? = some x → ∀ (j : Nat) (v : Value), (rkCells x)[j]? = some v → (flatR l)[i * 5 + j]? = some v
  | y :: l, 0, x, h, j, v, hj => by
    simp only [List.getElem?_cons_zero, Option.some.injEq] at h
    subst h
    have hjl := (List.getElem?_eq_some_iff.1 hj).1
    rw [Nat.zero_mul, Nat.zero_add, flatR, List.getElem?_append_left hjl]
    exact hj
  | y :: l, i + 1, x, h, j, v, hj => by
    have := flatR_get (l := l) (i := i) (x := x) (by simpa using h) j v hj
    have e : (rkCells y).length = 5 := rfl
    rw [flatR, List.getElem?_append_right (by rw [e]; omega), e, show (i + 1) * 5 + j - 5 = i * 5 + j from by omega]
    exact this
def RRow (w : World) (B : Nat) (v : Value) (ts : List Tk) : Prop := w.ownsRow B 56 5 v ts.length (flatR ts)
theorem info_rtok : (Try.prog.info? 56).map (fun i => (i.zero, i.size, i.bytes)) = some (some (.agg #[.int .i64 0, .int .i64 0, .int .i64 0, .string ⟨#[]⟩, .bool false]), 5, 48) := by kernel_rfl
/-- []Token{x} -/
theorem step_rtoken {ops : Array Oper} {rest : List Oper} {o : Oper} {a : Act} {w : World} {Q : Exit → Act → World → Prop} (hgd : o.guard = none) (x : Operand) (ho : o.op = .buildSlice 26 1 #[(0, x)]) (cs : List Value) (hx : a.eval x = .agg cs.toArray) (hl : cs.length = 5)
    (h : wpList Try.prog ops Q rest (a.put o.dst (.slice (some ⟨w.heap.size, 0, none⟩) 1 1)) (w.alloc (.cells cs.toArray 56))) : wpList Try.prog ops Q (o :: rest) a w := by
  obtain ⟨i, hi, hz, h1, h2⟩ := info_parts info_rtok
  refine wpList_buildSlice hgd 26 56 1 #[(0, x)] ho cs.toArray i _ Try.underlying26 hi hz (by rw [h1]; decide) (by rw [h1]; decide) ?_ h
  rw [h1]
  have := fill_tok [.int .i64 0, .int .i64 0, .int .i64 0, .string ⟨#[]⟩, .bool false] rfl cs hl
  simpa [hx, Value.cells] using this

end Go.Proofs.Ytelmfncdamakfaa
