/- Settings, triples and acts that came in. -/
import Derived.Test.YtojnhheeholaeaaDoorScNew
import Derived.Test.YtojnhheeholaeaaDoorStructs
namespace Go.Proofs.YtojnhheeholaeaaDoor
open Go Go.ChangeShapes Go.WideShapes Go.ChangeAt Go.RowKit
set_option maxRecDepth 100000
set_option maxHeartbeats 4000000

section
variable {H : Type} {enc : TypeId × Value → H} {W : World} {spare : Nat → Bool} {held : Bool} {n : Nat}
theorem trod_set {vs : List Value} {y : DataW H × List MemPlace} (hl : vs.length = 2) (h : DataW.trod enc Tryd.prog W 0 spare held n 32 vs = some y) : ∃ x : Se, vs = x.cs := by
  obtain ⟨ys, k, _, _, _, hyl, hel⟩ := DataW.trod_struct Tryd.underlying32 h
  match vs, hl, hel with
  | [v0, v1], _, hel =>
    have hy : ∀ i, i < 2 → ∃ y, ys[i]? = some y := fun i hi => ⟨_, List.getElem?_eq_getElem (by rw [hyl]; exact hi)⟩
    have h0 := hel 0 _ rfl
    have h1 := hel 1 _ rfl
    obtain ⟨y0, e0⟩ := hy 0 (by omega)
    obtain ⟨y1, e1⟩ := hy 1 (by omega)
    rw [e0] at h0
    rw [e1] at h1
    replace h0 : DataW.trod enc Tryd.prog W 0 spare held k 3 [v0] = some y0 := h0
    replace h1 : DataW.trod enc Tryd.prog W 0 spare held k 3 [v1] = some y1 := h1
    obtain ⟨z0, q0, _, _⟩ := DataW.trod_int Tryd.underlying3 h0
    obtain ⟨z1, q1, _, _⟩ := DataW.trod_int Tryd.underlying3 h1
    obtain rfl : v0 = .int .i64 z0 := by simpa using q0
    obtain rfl : v1 = .int .i64 z1 := by simpa using q1
    exact ⟨⟨z0, z1⟩, rfl⟩
theorem trod_tri {vs : List Value} {y : DataW H × List MemPlace} (hl : vs.length = 4) (h : DataW.trod enc Tryd.prog W 0 spare held n 34 vs = some y) : ∃ x : Tr, vs = x.cs := by
  obtain ⟨ys, k, _, _, _, hyl, hel⟩ := DataW.trod_struct Tryd.underlying34 h
  match vs, hl, hel with
  | [v0, v1, v2, v3], _, hel =>
    have hy : ∀ i, i < 3 → ∃ y, ys[i]? = some y := fun i hi => ⟨_, List.getElem?_eq_getElem (by rw [hyl]; exact hi)⟩
    have h0 := hel 0 _ rfl
    have h1 := hel 1 _ rfl
    have h2 := hel 2 _ rfl
    obtain ⟨y0, e0⟩ := hy 0 (by omega)
    obtain ⟨y1, e1⟩ := hy 1 (by omega)
    obtain ⟨y2, e2⟩ := hy 2 (by omega)
    rw [e0] at h0
    rw [e1] at h1
    rw [e2] at h2
    replace h0 : DataW.trod enc Tryd.prog W 0 spare held k 3 [v0] = some y0 := h0
    replace h1 : DataW.trod enc Tryd.prog W 0 spare held k 32 [v1, v2] = some y1 := h1
    replace h2 : DataW.trod enc Tryd.prog W 0 spare held k 4 [v3] = some y2 := h2
    obtain ⟨z0, q0, _, _⟩ := DataW.trod_int Tryd.underlying3 h0
    obtain ⟨x, hx⟩ := trod_set rfl h1
    obtain ⟨b, q2, _⟩ := DataW.trod_bool Tryd.underlying4 h2
    obtain rfl : v0 = .int .i64 z0 := by simpa using q0
    obtain rfl : v3 = .bool b := by simpa using q2
    simp only [Se.cs, List.cons.injEq, and_true] at hx
    obtain ⟨rfl, rfl⟩ := hx
    exact ⟨⟨z0, x, b⟩, rfl⟩
end

/-- An act. -/
structure Ac where
  k : Int
  t : Tr
@[reducible] def Ac.cs (a : Ac) : List Value := .int .i64 a.k :: a.t.cs
theorem trod_act {H : Type} {enc : TypeId × Value → H} {W : World} {spare : Nat → Bool} {held : Bool} {n : Nat} {vs : List Value} {y : DataW H × List MemPlace} (hl : vs.length = 5) (h : DataW.trod enc Tryd.prog W 0 spare held n 36 vs = some y) : ∃ x : Ac, vs = x.cs := by
  obtain ⟨ys, k, _, _, _, hyl, hel⟩ := DataW.trod_struct Tryd.underlying36 h
  match vs, hl, hel with
  | [v0, v1, v2, v3, v4], _, hel =>
    have hy : ∀ i, i < 2 → ∃ y, ys[i]? = some y := fun i hi => ⟨_, List.getElem?_eq_getElem (by rw [hyl]; exact hi)⟩
    have h0 := hel 0 _ rfl
    have h1 := hel 1 _ rfl
    obtain ⟨y0, e0⟩ := hy 0 (by omega)
    obtain ⟨y1, e1⟩ := hy 1 (by omega)
    rw [e0] at h0
    rw [e1] at h1
    replace h0 : DataW.trod enc Tryd.prog W 0 spare held k 3 [v0] = some y0 := h0
    replace h1 : DataW.trod enc Tryd.prog W 0 spare held k 34 [v1, v2, v3, v4] = some y1 := h1
    obtain ⟨z0, q0, _, _⟩ := DataW.trod_int Tryd.underlying3 h0
    obtain ⟨x, hx⟩ := trod_tri rfl h1
    obtain rfl : v0 = .int .i64 z0 := by simpa using q0
    exact ⟨⟨z0, x⟩, by rw [hx]⟩

/-- A slice of structs of m cells each, of which each is one of α. -/
def LsOf {α : Type} (cs : α → List Value) (m : Nat) (W : World) (a : Option Addr) (len : Nat) (l : List α) : Prop :=
  l.length = len ∧ ∀ (i : Nat) (x : α), l[i]? = some x → ∃ b off, a = some ⟨b, off, none⟩ ∧ b < W.heap.size ∧ W.rangeAt b (off + i * m) (cs x)
theorem LsOf.same {α : Type} {cs : α → List Value} {m : Nat} {W W' : World} {a : Option Addr} {len : Nat} {l : List α} (h : LsOf cs m W a len l) (ho : Only (fun _ => False) W W') : LsOf cs m W' a len l :=
  ⟨h.1, fun i x hx => by
    obtain ⟨b, off, e, hb, h1⟩ := h.2 i x hx
    exact ⟨b, off, e, Nat.lt_of_lt_of_le hb ho.size, fun j v hv => ho.cellv (h1 j v hv) (fun h => h)⟩⟩
theorem open_ls {α : Type} {cs : α → List Value} {m : Nat} {t e : TypeId} (hm : 0 < m) (ht : Tryd.prog.underlying t = some (.slice e)) (hC : Tryd.prog.cellsOf e = m) (hcl : ∀ x, (cs x).length = m)
    {H : Type} {enc : TypeId × Value → H} {W : World} {spare : Nat → Bool} {held : Bool} {fuel : Nat} {a0 : Option Addr} {len cap : Nat} {x : DataW H × List MemPlace}
    (hone : ∀ {n : Nat} {vs : List Value} {y : DataW H × List MemPlace}, vs.length = m → DataW.trod enc Tryd.prog W 0 spare held n e vs = some y → ∃ x : α, vs = cs x)
    (h : DataW.trod enc Tryd.prog W 0 spare held fuel t [.slice a0 len cap] = some x) : len ≤ cap ∧ cap ≤ 9223372036854775807 ∧ ∃ l, LsOf cs m W a0 len l := by
  rcases Go.Deep.open_slice ht h with ⟨h0, _⟩ | ⟨a, l, c, mm, n, D, Pl, h0, _, hl, hmx, hmm, _, hel⟩
  · simp at h0
    obtain ⟨rfl, rfl, rfl⟩ := h0
    exact ⟨Nat.le_refl _, by omega, [], rfl, fun i x hx => by simp at hx⟩
  · simp at h0
    obtain ⟨rfl, rfl, rfl⟩ := h0
    refine ⟨hl, by unfold maxLen at hmx; omega, ?_⟩
    have each : ∀ i, i < len → ∃ y : α, ∃ b off, (some a : Option Addr) = some ⟨b, off, none⟩ ∧ b < W.heap.size ∧ W.rangeAt b (off + i * m) (cs y) := by
      intro i hi
      have part : ∀ i, i < len → ∃ y : α, ∀ (j : Nat) (v : Value), (cs y)[j]? = some v → W.cell? (a.add (i * m + j)) = some v := fun i hi => by
        obtain ⟨vs, hc, htr⟩ := hel i (by split at hmm <;> omega)
        obtain ⟨_, hvl, hat⟩ := World.cells?_some hc
        rw [hC] at hvl hat
        obtain ⟨y, rfl⟩ := hone hvl htr
        refine ⟨y, fun j v hv => ?_⟩
        have hj : j < m := by have := (List.getElem?_eq_some_iff.1 hv).1; rw [hcl] at this; exact this
        have := hat j hj
        rw [Go.Deep.add_add] at this
        rw [this, hv]
      obtain ⟨y, hy⟩ := part i hi
      obtain ⟨b, off, spot⟩ := a
      have h0' : 0 < (cs y).length := by rw [hcl]; exact hm
      have hv0 : (cs y)[0]? = some ((cs y)[0]'h0') := List.getElem?_eq_getElem _
      obtain rfl : spot = none := by
        obtain ⟨y', hy'⟩ := part 0 (by omega)
        have h0'' : 0 < (cs y').length := by rw [hcl]; exact hm
        have := World.cell?_spot (hy' 0 _ (List.getElem?_eq_getElem h0''))
        simpa [Addr.add] using this
      have hadd : ∀ q, (⟨b, off, none⟩ : Addr).add q = ⟨b, off + q, none⟩ := fun q => by unfold Addr.add; split <;> simp_all
      refine ⟨y, b, off, rfl, ?_, fun j v hv => ?_⟩
      · have := World.block_lt_of_cell? W _ (hy 0 _ hv0)
        rwa [block_add] at this
      · rw [Nat.add_assoc, ← hadd]
        exact hy j v hv
    obtain ⟨l, h1, h2⟩ := list_of each
    exact ⟨l, h1, h2⟩
section
variable {H : Type} {enc : TypeId × Value → H} {W : World} {spare : Nat → Bool} {fuel : Nat} {a0 : Option Addr} {len cap : Nat} {x : DataW H × List MemPlace}
theorem open_sets (h : DataW.trod enc Tryd.prog W 0 spare true fuel 22 [.slice a0 len cap] = some x) : len ≤ cap ∧ cap ≤ 9223372036854775807 ∧ ∃ l, StAt W a0 len l :=
  open_ls (cs := Se.cs) (m := 2) (by omega) Tryd.underlying22 (by kernel_rfl) (fun _ => rfl) (fun hl h => trod_set hl h) h
abbrev AcAt := LsOf Ac.cs 5
theorem open_acts (h : DataW.trod enc Tryd.prog W 0 spare true fuel 23 [.slice a0 len cap] = some x) : len ≤ cap ∧ cap ≤ 9223372036854775807 ∧ ∃ l, AcAt W a0 len l :=
  open_ls (cs := Ac.cs) (m := 5) (by omega) Tryd.underlying23 (by kernel_rfl) (fun _ => rfl) (fun hl h => trod_act hl h) h
end
theorem open_tri {H : Type} {enc : TypeId × Value → H} {W : World} {r : Reach} {b0 : Nat} {v : Value} {d : DataW H} {p : List MemPlace}
    (hv : Value.okWide Tryd.prog W r b0 34 v) (h : DataW.Trod enc Tryd.prog W 0 (fun _ => true) true 34 v d p) : ∃ t : Tr, v = t.val ∧ True := by
  unfold Value.okWide at hv
  rw [Tryd.underlying34] at hv
  obtain ⟨cs, rfl, hsz, _⟩ := hv
  obtain ⟨fuel, hf⟩ := h
  obtain ⟨l⟩ := cs
  have hl : l.length = 4 := by
    have : Tryd.prog.cellsOf 34 = 4 := by kernel_rfl
    rw [this] at hsz
    simpa using hsz
  obtain ⟨t, ht⟩ := trod_tri hl hf
  exact ⟨t, by rw [show l = t.cs from ht], trivial⟩
end Go.Proofs.YtojnhheeholaeaaDoor
