/- Layer 9's bytes with their marks that came in. -/
import Derived.Test.YtelmfncdamakfaaCleanSay
import Derived.Test.YtelmfncdamakfaaOpenBytes
import Derived.Deep.Fields
namespace Go.Proofs.Ytelmfncdamakfaa
open Go Go.ChangeShapes Go.WideShapes Go.ChangeAt Go.RowKit

def Bt.vals (x : Bt) : List Value := [.int .u8 (x.c.toNat : Int), .bool x.mark, .bool x.raw]
/-- A slice of them. -/
def BtAt (W : World) (a : Option Addr) (len : Nat) (l : List Bt) : Prop :=
  l.length = len ∧ ∀ (i : Nat) (x : Bt), l[i]? = some x → ∃ b off, a = some ⟨b, off, none⟩ ∧ b < W.heap.size ∧ W.rangeAt b (off + i * 3) x.vals
theorem BtAt.same {W W' : World} {a : Option Addr} {len : Nat} {l : List Bt} (h : BtAt W a len l) (ho : Only (fun _ => False) W W') : BtAt W' a len l :=
  ⟨h.1, fun i x hx => by
    obtain ⟨b, off, e, hb, h1⟩ := h.2 i x hx
    exact ⟨b, off, e, Nat.lt_of_lt_of_le hb ho.size, fun j v hv => ho.cellv (h1 j v hv) (fun h => h)⟩⟩

theorem open_bts {H : Type} {enc : TypeId × Value → H} {W : World} {spare : Nat → Bool} {fuel : Nat} {a0 : Option Addr} {len cap : Nat} {x : DataW H × List MemPlace}
    (h : DataW.trod enc Try.prog W 0 spare true fuel 39 [.slice a0 len cap] = some x) : len ≤ cap ∧ cap ≤ 9223372036854775807 ∧ ∃ l, BtAt W a0 len l := by
  obtain ⟨h1, h2, h3⟩ := open_structs Try.underlying39 Try.underlying41 (by kernel_rfl) (by kernel_rfl) h
  refine ⟨h1, h2, ?_⟩
  have each : ∀ i, i < len → ∃ y : Bt, ∃ b off, a0 = some ⟨b, off, none⟩ ∧ b < W.heap.size ∧ W.rangeAt b (off + i * 3) y.vals := by
    intro i hi
    obtain ⟨a, rfl, vs, n, hl, hc, hf⟩ := h3 i hi
    obtain ⟨v0, y0, e0, t0⟩ := hf 0 _ rfl
    obtain ⟨v1, y1, e1, t1⟩ := hf 1 _ rfl
    obtain ⟨v2, y2, e2, t2⟩ := hf 2 _ rfl
    obtain ⟨k0, f0, _, hw⟩ := DataW.trod_int Try.underlying5 t0
    obtain ⟨k1, f1, _⟩ := DataW.trod_bool Try.underlying4 t1
    obtain ⟨k2, f2, _⟩ := DataW.trod_bool Try.underlying4 t2
    simp only [List.cons.injEq, and_true] at f0 f1 f2
    subst f0 f1 f2
    have hb := bounds_u8 hw
    obtain ⟨b, off, spot⟩ := a
    have hadd : ∀ q, (⟨b, off, none⟩ : Addr).add q = ⟨b, off + q, none⟩ := fun q => by unfold Addr.add; split <;> simp_all
    obtain rfl : spot = none := by
      obtain ⟨a', ea, vs', _, _, hc', hf'⟩ := h3 0 (by omega)
      injection ea with ea
      subst ea
      obtain ⟨_, _, e0', _⟩ := hf' 0 _ rfl
      have := World.cell?_spot (hc' 0 _ e0')
      simpa [Addr.add] using this
    have ek : ((UInt8.ofNat k0.toNat).toNat : Int) = k0 := by
      rw [UInt8.toNat_ofNat']
      omega
    refine ⟨⟨UInt8.ofNat k0.toNat, k1, k2⟩, b, off, rfl, ?_, fun j v hv => ?_⟩
    · have := World.block_lt_of_cell? W _ (hc 0 _ e0)
      rwa [block_add] at this
    · rw [Nat.add_assoc, ← hadd]
      refine hc j v ?_
      match j, hv with
      | 0, hv => simp only [Bt.vals, List.getElem?_cons_zero, Option.some.injEq, ek] at hv; rw [e0, hv]
      | 1, hv => simp only [Bt.vals, List.getElem?_cons_succ, List.getElem?_cons_zero, Option.some.injEq] at hv; rw [e1, hv]
      | 2, hv => simp only [Bt.vals, List.getElem?_cons_succ, List.getElem?_cons_zero, Option.some.injEq] at hv; rw [e2, hv]
  exact list_of each
end Go.Proofs.Ytelmfncdamakfaa
