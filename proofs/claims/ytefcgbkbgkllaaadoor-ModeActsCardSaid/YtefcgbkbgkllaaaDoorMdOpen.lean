/- Layer 15's acts that came in. -/
import Derived.Test.YtefcgbkbgkllaaaDoorMdSay
import Derived.Test.YtefcgbkbgkllaaaDoorStructs
import Derived.Test.YtefcgbkbgkllaaaDoorOpenBytes
namespace Go.Proofs.YtefcgbkbgkllaaaDoor
open Go Go.ChangeShapes Go.WideShapes Go.ChangeAt Go.RowKit
set_option maxRecDepth 100000
set_option maxHeartbeats 4000000

/-- An act. -/
structure Ma where
  k : Int
  n : Int
  ad : Option Addr
  len : Nat
  cap : Nat
  xs : List UInt8
@[reducible] def Ma.cs (a : Ma) : List Value := [.int .i64 a.k, .int .i64 a.n, .slice a.ad a.len a.cap]
/-- It can be read: its number is a machine's, its bytes lie in memory. -/
structure Ma.Ok (W : World) (a : Ma) : Prop where
  in64 : In64 a.n
  src : Src W a.ad a.len a.xs
theorem Ma.Ok.same {W W' : World} {a : Ma} (h : a.Ok W) (ho : Only (fun _ => False) W W') : a.Ok W' := ⟨h.in64, h.src.only ho (fun _ _ _ h => h)⟩
/-- A slice of acts. -/
def MaAt (W : World) (A : Option Addr) (len : Nat) (l : List Ma) : Prop :=
  l.length = len ∧ ∀ (i : Nat) (x : Ma), l[i]? = some x → (∃ b off, A = some ⟨b, off, none⟩ ∧ b < W.heap.size ∧ W.rangeAt b (off + i * 3) x.cs) ∧ x.Ok W
theorem MaAt.same {W W' : World} {A : Option Addr} {len : Nat} {l : List Ma} (h : MaAt W A len l) (ho : Only (fun _ => False) W W') : MaAt W' A len l :=
  ⟨h.1, fun i x hx => by
    obtain ⟨⟨b, off, e, hb, h1⟩, h2⟩ := h.2 i x hx
    exact ⟨⟨b, off, e, Nat.lt_of_lt_of_le hb ho.size, fun j v hv => ho.cellv (h1 j v hv) (fun h => h)⟩, h2.same ho⟩⟩
theorem open_macts {H : Type} {enc : TypeId × Value → H} {W : World} {spare : Nat → Bool} {fuel : Nat} {a0 : Option Addr} {len cap : Nat} {x : DataW H × List MemPlace}
    (h : DataW.trod enc Tryd.prog W 0 spare true fuel 34 [.slice a0 len cap] = some x) : len ≤ cap ∧ cap ≤ 9223372036854775807 ∧ ∃ l, MaAt W a0 len l := by
  obtain ⟨h1, h2, hel⟩ := open_structs Tryd.underlying34 Tryd.underlying40 (by kernel_rfl) (by kernel_rfl) h
  refine ⟨h1, h2, ?_⟩
  have each : ∀ i, i < len → ∃ y : Ma, (∃ b off, a0 = some ⟨b, off, none⟩ ∧ b < W.heap.size ∧ W.rangeAt b (off + i * 3) y.cs) ∧ y.Ok W := by
    intro i hi
    obtain ⟨a, rfl, vs, n, hl, hc, hf⟩ := hel i hi
    replace hl : vs.length = 3 := hl
    match vs, hl, hc, hf with
    | [v0, v1, v2], _, hc, hf =>
      obtain ⟨w0, y0, e0, t0⟩ := hf 0 _ rfl
      obtain ⟨w1, y1, e1, t1⟩ := hf 1 _ rfl
      obtain ⟨w2, y2, e2, t2⟩ := hf 2 _ rfl
      obtain rfl : v0 = w0 := by simpa using e0
      obtain rfl : v1 = w1 := by simpa using e1
      obtain rfl : v2 = w2 := by simpa using e2
      replace t0 : DataW.trod enc Tryd.prog W 0 spare true n 3 [v0] = some y0 := t0
      replace t1 : DataW.trod enc Tryd.prog W 0 spare true n 3 [v1] = some y1 := t1
      replace t2 : DataW.trod enc Tryd.prog W 0 spare true n 22 [v2] = some y2 := t2
      obtain ⟨z0, q0, _, _⟩ := DataW.trod_int Tryd.underlying3 t0
      obtain ⟨z1, q1, _, b1⟩ := DataW.trod_int Tryd.underlying3 t1
      obtain ⟨A', n', c', xs, rfl, hs, _, _⟩ := opened_cell t2
      obtain rfl : v0 = .int .i64 z0 := by simpa using q0
      obtain rfl : v1 = .int .i64 z1 := by simpa using q1
      replace hc : ∀ (j : Nat) (v : Value), [Value.int .i64 z0, .int .i64 z1, .slice A' n' c'][j]? = some v → W.cell? (a.add (i * 3 + j)) = some v := hc
      obtain ⟨b, off, spot⟩ := a
      have c0 := hc 0 _ rfl
      have hspot : spot = none := by
        obtain ⟨a2, ha2, vs2, _, hl2, hc2, _⟩ := hel 0 (by omega)
        injection ha2 with ha2
        subst ha2
        replace hl2 : vs2.length = 3 := hl2
        have := hc2 0 _ (List.getElem?_eq_getElem (by omega))
        have := World.cell?_spot this
        simpa [Addr.add] using this
      subst hspot
      have hadd : ∀ q, (⟨b, off, none⟩ : Addr).add q = ⟨b, off + q, none⟩ := fun q => by unfold Addr.add; split <;> simp_all
      refine ⟨⟨z0, z1, A', n', c', xs⟩, ⟨b, off, rfl, ?_, fun j v hv => ?_⟩, bounds_i64 b1, hs⟩
      · have := World.block_lt_of_cell? W _ c0
        rwa [block_add] at this
      · rw [Nat.add_assoc, ← hadd]
        exact hc j v hv
  obtain ⟨l, h3, h4⟩ := list_of each
  exact ⟨l, h3, h4⟩
end Go.Proofs.YtefcgbkbgkllaaaDoor
