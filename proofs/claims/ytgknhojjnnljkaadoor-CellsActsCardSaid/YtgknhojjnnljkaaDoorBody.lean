
/- Rows of bytes of the program's own; what of bytes can be read; the append of bytes. -/
import Derived.Test.YtgknhojjnnljkaaDoorAlloc
import Derived.Great.Ranges
import Derived.Great.BuildSlice
import Derived.Deep.WholeRow
namespace Go.Proofs.YtgknhojjnnljkaaDoor
open Go Go.RowKit
set_option maxRecDepth 100000
set_option maxHeartbeats 4000000

/-- A body that the program laid itself. -/
def Body (w : World) (B : Nat) (v : Value) (b : List UInt8) : Prop := w.ownsRow B 5 1 v b.length (b.map B8)
theorem nil_body (w : World) (B : Nat) : Body w B (.slice none 0 0) [] := own_nil w B _ _
/-- A body that can be read. -/
def Reads (w : World) (v : Value) (b : List UInt8) : Prop := ∃ A c, v = .slice A b.length c ∧ Src w A b.length b ∧ b.length ≤ c
theorem Body.reads {w : World} {B : Nat} {v : Value} {b : List UInt8} (h : Body w B v b) : Reads w v b := by
  obtain ⟨A, c, rfl, hle, _⟩ := own_form h
  refine ⟨A, c, rfl, ⟨rfl, fun hn => ?_⟩, hle⟩
  obtain ⟨g, hA, _, _, hc⟩ := own_at h hn
  exact ⟨_, hA, fun j x hx => by rw [at_add]; exact hc j _ (by rw [List.getElem?_map, hx]; rfl)⟩
theorem Reads.same {w w' : World} {v : Value} {b : List UInt8} (h : Reads w v b) (ho : Only (fun _ => False) w w') : Reads w' v b := by
  obtain ⟨A, c, rfl, h1, h2⟩ := h
  exact ⟨A, c, rfl, h1.only ho (fun _ _ _ h => h), h2⟩

theorem Reads.only {S : Nat → Prop} {w w' : World} {v : Value} {b : List UInt8} (h : Reads w v b) (ho : Only S w w') (hS : ∀ k, k < w.heap.size → ¬ S k) : Reads w' v b := by
  obtain ⟨A, c, rfl, h1, h2⟩ := h
  exact ⟨A, c, rfl, h1.only ho (fun hn ad e => hS _ (h1.lt hn ad e)), h2⟩
/-- A source of bytes, read on behind its first one. -/
theorem Src.tail {w : World} {A : Option Addr} {n : Nat} {x : UInt8} {xs : List UInt8} (h : Src w A n (x :: xs)) (D : Option Addr) (hD : 1 < n → ∀ ad, A = some ad → D = some (ad.add 1)) : Src w D (n - 1) xs := by
  obtain ⟨hl, hc⟩ := h
  simp only [List.length_cons] at hl
  refine ⟨by omega, fun hn => ?_⟩
  obtain ⟨ad, rfl, h2⟩ := hc (by omega)
  refine ⟨_, hD (by omega) ad rfl, fun j y hy => ?_⟩
  rw [Go.Deep.add_add, show 1 + j = j + 1 from by omega]
  exact h2 (j + 1) y (by simpa using hy)

theorem fill_tok (z : List Value) (hz : z.length = 5) (cs : List Value) (hl : cs.length = 5) : Instr.fill (fun i => some (i * 5, 5)) ((Array.range (1 * 5)).map (z.toArray[· % z.toArray.size]!)) [(0, .agg cs.toArray)] = some cs.toArray := by
  match z, hz, cs, hl with
  | [z0, z1, z2, z3, z4], _, [a, b, c, d, e], _ =>
    have e : (Array.range (1 * 5)).map (#[z0, z1, z2, z3, z4][· % #[z0, z1, z2, z3, z4].size]!) = #[z0, z1, z2, z3, z4] := by
      rw [show Array.range (1 * 5) = #[0, 1, 2, 3, 4] from by decide]
      simp
    show Instr.fill _ ((Array.range (1 * 5)).map (#[z0, z1, z2, z3, z4][· % #[z0, z1, z2, z3, z4].size]!)) _ = _
    rw [e]
    simp [Instr.fill, Value.cells]
/-- append of bytes onto a row of the call's own. -/
theorem step_bytes {ops : Array Oper} {rest : List Oper} {o : Oper} {a : Act} {w : World} {Q : Exit → Act → World → Prop} (hgd : o.guard = none) (sx x : Operand) (ho : o.op = .call { callee := .builtin .append, args := #[sx, x], argTypes := #[34, 34] })
    (B : Nat) (A : Option Addr) (n c : Nat) (xs : List UInt8) (hs : a.eval sx = .slice A n c) (hb : Body w B (.slice A n c) xs) (hn : n = xs.length) (S : Option Addr) (m c2 : Nat) (ys : List UInt8) (hx : a.eval x = .slice S m c2) (hsrc : Src w S m ys) (hbd : n + m ≤ 1048576) (hB : B ≤ w.heap.size)
    (h : ∀ A' c' w', Hid (Body w' B (.slice A' (n + m) c') (xs ++ ys)) → Hid (Only (fun i => B ≤ i) w w') → wpList Tryd.prog ops Q rest (a.put o.dst (.slice A' (n + m) c')) w') :
    wpList Tryd.prog ops Q (o :: rest) a w := by
  subst hn
  obtain ⟨i, hi, hz, h1, h2⟩ := info_parts info_byte
  refine step_append_own hgd sx x 34 ho B 5 i _ 1 1 Tryd.underlying34 hi hz h1 h2 rfl (by omega) _ xs.length (xs.map B8) hs hb S m c2 (ys.map B8) hx (by rw [List.length_map, hsrc.1, Nat.mul_one]) (fun hm => ?_) (fun u hu => by obtain ⟨z, _, rfl⟩ := List.mem_map.1 hu; rfl) (by omega) (by omega) hB ?_
  · obtain ⟨ad, e, hc⟩ := hsrc.2 hm
    refine ⟨ad, e, fun j u hu => ?_⟩
    rw [List.getElem?_map] at hu
    cases hy : ys[j]? with
    | none => rw [hy] at hu; cases hu
    | some y =>
      rw [hy] at hu
      injection hu with hu
      subst hu
      exact hc j y hy
  · intro A' c' w' _ _ hq
    have hq1 := hq.out.1
    have hq2 := hq.out.2.1
    refine h A' c' w' (show Body _ _ _ _ from ?_) (show Only _ _ _ from Only.grown (Only.refl _ _) hq2 (fun k hk => .inl (own_lt hb k hk).1))
    unfold Body
    rw [List.length_append, List.map_append, hsrc.1]
    exact hq1

theorem Body.form {w : World} {B : Nat} {v : Value} {b : List UInt8} (h : Body w B v b) : ∃ A c, v = .slice A b.length c ∧ b.length ≤ c ∧ c ≤ 9223372036854775807 := own_form h
theorem Body.same {w w' : World} {B : Nat} {v : Value} {b : List UInt8} (h : Body w B v b) (ho : Only (fun _ => False) w w') : Body w' B v b := own_same h ho
theorem Body.src {w : World} {B : Nat} {A : Option Addr} {n c : Nat} {b : List UInt8} (h : Body w B (.slice A n c) b) (hn : n = b.length) : Src w A n b := by
  obtain ⟨A', c', e, h1, _⟩ := h.reads
  injection e with e1 e2 e3
  subst e1 hn
  exact h1

theorem len_snoc {α : Type} (l : List α) (x : α) : (l ++ [x]).length = l.length + 1 := by simp
end Go.Proofs.YtgknhojjnnljkaaDoor
