/- A slice of tokens that came in. -/
import Derived.Test.YtbjabjkmagekfaaDoorEmitAll
import Derived.Test.YtbjabjkmagekfaaDoorOpenBytes
namespace Go.Proofs.YtbjabjkmagekfaaDoor
open Go Go.ChangeShapes Go.WideShapes Go.ChangeAt Go.RowKit
set_option maxRecDepth 100000

theorem tok_cells {H : Type} {enc : TypeId × Value → H} {W : World} {fuel : Nat} {l : List Value} {y : DataW H × List MemPlace} (hl5 : l.length = 5) (hf : DataW.trod enc Tryd.prog W 0 (fun _ => true) true fuel 48 l = some y) :
    ∃ x : TkP, l = x.cells ∧ Reads W x.val x.t.body := by
  obtain ⟨ys, k, _, _, _, hyl, hel⟩ := DataW.trod_struct Tryd.underlying48 hf
  match l, hl5, hel with
  | [v0, v1, v2, v3, v4], _, hel =>
    have hy : ∀ i, i < 5 → ∃ y, ys[i]? = some y := fun i hi => ⟨_, List.getElem?_eq_getElem (by rw [hyl]; exact hi)⟩
    have h0 := hel 0 _ rfl
    have h1 := hel 1 _ rfl
    have h2 := hel 2 _ rfl
    have h3 := hel 3 _ rfl
    have h4 := hel 4 _ rfl
    obtain ⟨y0, e0⟩ := hy 0 (by omega)
    obtain ⟨y1, e1⟩ := hy 1 (by omega)
    obtain ⟨y2, e2⟩ := hy 2 (by omega)
    obtain ⟨y3, e3⟩ := hy 3 (by omega)
    obtain ⟨y4, e4⟩ := hy 4 (by omega)
    rw [e0] at h0
    rw [e1] at h1
    rw [e2] at h2
    rw [e3] at h3
    rw [e4] at h4
    replace h0 : DataW.trod enc Tryd.prog W 0 (fun _ => true) true k 3 [v0] = some y0 := h0
    replace h1 : DataW.trod enc Tryd.prog W 0 (fun _ => true) true k 3 [v1] = some y1 := h1
    replace h2 : DataW.trod enc Tryd.prog W 0 (fun _ => true) true k 3 [v2] = some y2 := h2
    replace h3 : DataW.trod enc Tryd.prog W 0 (fun _ => true) true k 22 [v3] = some y3 := h3
    replace h4 : DataW.trod enc Tryd.prog W 0 (fun _ => true) true k 4 [v4] = some y4 := h4
    obtain ⟨z0, q0, _⟩ := DataW.trod_int Tryd.underlying3 h0
    obtain ⟨z1, q1, _⟩ := DataW.trod_int Tryd.underlying3 h1
    obtain ⟨z2, q2, _⟩ := DataW.trod_int Tryd.underlying3 h2
    obtain ⟨A, n, c, xs, q3, hs, hle, _⟩ := opened_cell (v := v3) h3
    obtain ⟨z4, q4, _⟩ := DataW.trod_bool Tryd.underlying4 h4
    obtain rfl : v0 = .int .i64 z0 := by simpa using q0
    obtain rfl : v1 = .int .i64 z1 := by simpa using q1
    obtain rfl : v2 = .int .i64 z2 := by simpa using q2
    obtain rfl : v4 = .bool z4 := by simpa using q4
    subst q3
    have hn := hs.1
    subst hn
    exact ⟨⟨⟨z0, z1, z2, xs, z4⟩, A, c⟩, rfl, A, c, rfl, hs, hle⟩

theorem opened_toks {H : Type} {enc : TypeId × Value → H} {W : World} {fuel : Nat} {A : Option Addr} {n c : Nat} {x : DataW H × List MemPlace} (hf : DataW.trod enc Tryd.prog W 0 (fun _ => true) true fuel 46 [.slice A n c] = some x) :
    n ≤ c ∧ c ≤ 9223372036854775807 ∧ ∃ ps, RdTk W A n ps := by
  rcases Go.Deep.open_slice Tryd.underlying46 hf with ⟨h, _⟩ | ⟨a, len, cap, m, q, D, Pl, h, _, hl, hm, hmm, _, hel⟩
  · simp at h
    obtain ⟨rfl, rfl, rfl⟩ := h
    exact ⟨Nat.le_refl _, by omega, [], rfl, fun j x hx => by cases hx⟩
  · simp at h
    obtain ⟨rfl, rfl, rfl⟩ := h
    refine ⟨hl, by unfold maxLen at hm; omega, ?_⟩
    have h5 : Tryd.prog.cellsOf 48 = 5 := by kernel_rfl
    have each : ∀ i, i < n → ∃ y : TkP, ∃ g off, some a = some ⟨g, off, none⟩ ∧ W.rangeAt g (off + i * 5) y.cells ∧ Reads W y.val y.t.body := by
      intro i hi
      obtain ⟨cs, hc, htr⟩ := hel i (by split at hmm <;> omega)
      obtain ⟨_, hcl, hat⟩ := World.cells?_some hc
      rw [h5] at hcl hat
      obtain ⟨y, rfl, hr⟩ := tok_cells hcl htr
      obtain ⟨b, off, spot⟩ := a
      obtain rfl : spot = none := by
        obtain ⟨cs0, hc0, htr0⟩ := hel 0 (by split at hmm <;> omega)
        obtain ⟨_, hcl0, hat0⟩ := World.cells?_some hc0
        rw [h5] at hcl0 hat0
        obtain ⟨y0, rfl, _⟩ := tok_cells hcl0 htr0
        have h0 := hat0 0 (by omega)
        obtain ⟨v, hv⟩ : ∃ v, y0.cells[0]? = some v := ⟨_, rfl⟩
        rw [hv] at h0
        have := World.cell?_spot h0
        simpa [Addr.add] using this
      refine ⟨y, b, off, rfl, fun j v hv => ?_, hr⟩
      have hj : j < 5 := by have := (List.getElem?_eq_some_iff.1 hv).1; rw [hcl] at this; exact this
      have := hat j hj
      rw [hv, Go.Deep.add_add, add_none] at this
      rw [show off + i * 5 + j = off + (i * 5 + j) by omega]
      exact this
    obtain ⟨l, h1, h2⟩ := list_of each
    exact ⟨l, h1, h2⟩
end Go.Proofs.YtbjabjkmagekfaaDoor
