
/- Settings, triples and acts that came in. -/
import Derived.Test.YtbnfhklpobephaaGreatDoorJSnTypeL
import Derived.Test.YtbnfhklpobephaaGreatDoorLs
namespace Go.Proofs.YtbnfhklpobephaaGreatDoor
open Go Go.ChangeShapes Go.WideShapes Go.ChangeAt Go.RowKit
set_option maxRecDepth 100000
set_option maxHeartbeats 4000000

section
variable {H : Type} {enc : TypeId × Value → H} {W : World} {spare : Nat → Bool} {held : Bool} {n : Nat}
theorem trod_set {vs : List Value} {y : DataW H × List MemPlace} (hl : vs.length = 2) (h : DataW.trod enc Tryz.prog W 0 spare held n 109 vs = some y) : ∃ x : Se, vs = x.cs := by
  obtain ⟨ys, k, _, _, _, hyl, hel⟩ := DataW.trod_struct Tryz.underlying109 h
  match vs, hl, hel with
  | [v0, v1], _, hel =>
    have hy : ∀ i, i < 2 → ∃ y, ys[i]? = some y := fun i hi => ⟨_, List.getElem?_eq_getElem (by rw [hyl]; exact hi)⟩
    have h0 := hel 0 _ rfl
    have h1 := hel 1 _ rfl
    obtain ⟨y0, e0⟩ := hy 0 (by omega)
    obtain ⟨y1, e1⟩ := hy 1 (by omega)
    rw [e0] at h0
    rw [e1] at h1
    replace h0 : DataW.trod enc Tryz.prog W 0 spare held k 3 [v0] = some y0 := h0
    replace h1 : DataW.trod enc Tryz.prog W 0 spare held k 3 [v1] = some y1 := h1
    obtain ⟨z0, q0, _, _⟩ := DataW.trod_int Tryz.underlying3 h0
    obtain ⟨z1, q1, _, _⟩ := DataW.trod_int Tryz.underlying3 h1
    obtain rfl : v0 = .int .i64 z0 := by simpa using q0
    obtain rfl : v1 = .int .i64 z1 := by simpa using q1
    exact ⟨⟨z0, z1⟩, rfl⟩
end

/-- An act. -/
structure ScAc where
  k : Int
  t : Tr
section
variable {H : Type} {enc : TypeId × Value → H} {W : World} {spare : Nat → Bool} {fuel : Nat} {a0 : Option Addr} {len cap : Nat} {x : DataW H × List MemPlace}
theorem open_sets (h : DataW.trod enc Tryz.prog W 0 spare true fuel 28 [.slice a0 len cap] = some x) : len ≤ cap ∧ cap ≤ 9223372036854775807 ∧ ∃ l, StAt W a0 len l :=
  open_ls (cs := Se.cs) (m := 2) (by omega) Tryz.underlying28 (by kernel_rfl) (fun _ => rfl) (fun hl h => trod_set hl h) h
end
end Go.Proofs.YtbnfhklpobephaaGreatDoor
