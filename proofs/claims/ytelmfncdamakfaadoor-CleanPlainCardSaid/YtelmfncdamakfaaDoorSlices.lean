/- A slice of slices of bytes that came in. -/
import Derived.Test.YtelmfncdamakfaaDoorOpenBytes
namespace Go.Proofs.YtelmfncdamakfaaDoor
open Go Go.ChangeShapes Go.WideShapes Go.ChangeAt Go.RowKit

/-- A slice of slices of bytes. -/
structure BytesV where
  ad : Option Addr
  len : Nat
  cap : Nat
  xs : List UInt8
structure BytesOk (w : World) (b : BytesV) : Prop where
  src : Src w b.ad b.len b.xs
  le : b.len ≤ b.cap
  top : b.cap ≤ 9223372036854775807
def SlicesAt (w : World) (A : Option Addr) (n : Nat) (l : List BytesV) : Prop :=
  l.length = n ∧ ∀ (i : Nat) (x : BytesV), l[i]? = some x → (∃ b off, A = some ⟨b, off, none⟩ ∧ w.cell? ⟨b, off + i, none⟩ = some (.slice x.ad x.len x.cap)) ∧ BytesOk w x
theorem opened_slices {H : Type} {enc : TypeId × Value → H} {W : World} {spare : Nat → Bool} {fuel : Nat} {A : Option Addr} {n c : Nat} {x : DataW H × List MemPlace} (hf : DataW.trod enc Tryd.prog W 0 spare true fuel 23 [.slice A n c] = some x) :
    n ≤ c ∧ c ≤ 9223372036854775807 ∧ ∃ l, SlicesAt W A n l := by
  rcases Go.Deep.open_slice1 Tryd.underlying23 (by kernel_rfl) hf with ⟨h, _⟩ | ⟨a, len, cap, m, q, V, D, Pl, h, _, hl, hm, hmm, _, hel⟩
  · simp at h
    obtain ⟨rfl, rfl, rfl⟩ := h
    exact ⟨Nat.le_refl _, by omega, [], rfl, fun j x hx => by cases hx⟩
  · simp at h
    obtain ⟨rfl, rfl, rfl⟩ := h
    refine ⟨hl, by unfold maxLen at hm; omega, ?_⟩
    have each : ∀ i, i < n → ∃ y : BytesV, (∃ b off, some a = some ⟨b, off, none⟩ ∧ W.cell? ⟨b, off + i, none⟩ = some (.slice y.ad y.len y.cap)) ∧ BytesOk W y := by
      intro i hi
      obtain ⟨h1, h2⟩ := hel i (by split at hmm <;> omega)
      obtain ⟨A', n', c', xs, e1, e2, e3, e4⟩ := opened_cell h2
      rw [e1] at h1
      obtain ⟨b, off, spot⟩ := a
      obtain rfl : spot = none := by
        obtain ⟨h3, _⟩ := hel 0 (by split at hmm <;> omega)
        have := World.cell?_spot h3
        simpa [Addr.add] using this
      rw [add_none] at h1
      exact ⟨⟨A', n', c', xs⟩, ⟨b, off, rfl, h1⟩, e2, e3, e4⟩
    exact list_of each
end Go.Proofs.YtelmfncdamakfaaDoor
