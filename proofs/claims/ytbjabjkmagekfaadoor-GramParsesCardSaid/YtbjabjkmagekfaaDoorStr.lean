/- Strings as rows of bytes: by index, by parts, one behind the other; a token's cells as the document has them. -/
import Derived.Test.YtbjabjkmagekfaaDoorTk
namespace Go.Proofs.YtbjabjkmagekfaaDoor
open Go Go.RowKit
set_option maxRecDepth 100000

/-- A token's cells, as the document has it. -/
def rkCells (t : Tk) : List Value := [.int .i64 t.kind, .int .i64 t.code, .int .i64 t.opt, .string ⟨t.body.toArray⟩, .bool t.cut]
theorem size_rtok : (Tryd.prog.info? 66).map (·.size) = some 5 := by kernel_rfl
theorem rk_one (t : Tk) : ∀ v ∈ rkCells t, v.oneCell' = true := by
  intro v hv
  simp only [rkCells, List.mem_cons, List.not_mem_nil, or_false] at hv
  rcases hv with rfl | rfl | rfl | rfl | rfl <;> rfl
def tokN (o : Option (Tk × Nat)) : Tk × Nat := o.getD (Tk.none, 0)

theorem str_get {s : List UInt8} {k : Nat} {x : UInt8} (h : s[k]? = some x) (hp : k < (ByteArray.mk s.toArray).size) : (ByteArray.mk s.toArray)[k]'hp = x := by
  have := (List.getElem?_eq_some_iff.1 h).2
  show s.toArray[k]'hp = x
  simpa using this
theorem str_two (f g : List UInt8) : (ByteArray.mk f.toArray) ++ (ByteArray.mk g.toArray) = ⟨(f ++ g).toArray⟩ := by
  apply ByteArray.ext
  simp
theorem str_cut (s : List UInt8) (a b : Nat) : (ByteArray.mk s.toArray).extract a b = ⟨((s.take b).drop a).toArray⟩ := by
  apply ByteArray.ext
  simp [List.extract_eq_take_drop, List.drop_take]
theorem str_snoc {f s : List UInt8} {k : Nat} {x : UInt8} (h : s[k]? = some x) : (ByteArray.mk f.toArray) ++ (ByteArray.mk s.toArray).extract k (k + 1) = ⟨(f ++ [x]).toArray⟩ := by
  rw [str_cut, str_two]
  congr 3
  obtain ⟨hk, hx⟩ := List.getElem?_eq_some_iff.1 h
  rw [List.drop_take, Nat.add_sub_cancel_left, List.drop_eq_getElem_cons hk, hx]
  rfl
theorem str_take (f : List UInt8) (n : Nat) : (ByteArray.mk f.toArray).extract 0 n = ⟨(f.take n).toArray⟩ := by
  rw [str_cut, List.drop_zero]

theorem sum_texts {P : Program} {w : World} (x y z : List UInt8) (h : x ++ y = z) (hl : x.length + y.length ≤ 9223372036854775807) :
    (Op.stringOp .add (ByteArray.mk x.toArray) (ByteArray.mk y.toArray)).run P w = .ok (.string (ByteArray.mk z.toArray)) w := by
  subst h
  have := run_string_add_sum (P := P) w (ByteArray.mk x.toArray) (ByteArray.mk y.toArray) (by simpa [ByteArray.size] using hl)
  rw [this, ByteArray.mk_append_mk]

end Go.Proofs.YtbjabjkmagekfaaDoor
