
/- Slices of structs: what came in, and what a call laid. -/
import Derived.Test.YtbnfhklpobephaaGreatDoorStructs
import Derived.Test.YtbnfhklpobephaaGreatDoorJBase
namespace Go.Proofs.YtbnfhklpobephaaGreatDoor
open Go Go.ChangeShapes Go.WideShapes Go.ChangeAt Go.RowKit
set_option maxRecDepth 100000
set_option maxHeartbeats 4000000

/-- A slice of structs of m cells each, of which each is one of α. -/
def LsOf {α : Type} (cs : α → List Value) (m : Nat) (W : World) (a : Option Addr) (len : Nat) (l : List α) : Prop :=
  l.length = len ∧ ∀ (i : Nat) (x : α), l[i]? = some x → ∃ b off, a = some ⟨b, off, none⟩ ∧ b < W.heap.size ∧ W.rangeAt b (off + i * m) (cs x)
theorem LsOf.same {α : Type} {cs : α → List Value} {m : Nat} {W W' : World} {a : Option Addr} {len : Nat} {l : List α} (h : LsOf cs m W a len l) (ho : Only (fun _ => False) W W') : LsOf cs m W' a len l :=
  ⟨h.1, fun i x hx => by
    obtain ⟨b, off, e, hb, h1⟩ := h.2 i x hx
    exact ⟨b, off, e, Nat.lt_of_lt_of_le hb ho.size, fun j v hv => ho.cellv (h1 j v hv) (fun h => h)⟩⟩
theorem open_ls {α : Type} {cs : α → List Value} {m : Nat} {t e : TypeId} (hm : 0 < m) (ht : Tryz.prog.underlying t = some (.slice e)) (hC : Tryz.prog.cellsOf e = m) (hcl : ∀ x, (cs x).length = m)
    {H : Type} {enc : TypeId × Value → H} {W : World} {spare : Nat → Bool} {held : Bool} {fuel : Nat} {a0 : Option Addr} {len cap : Nat} {x : DataW H × List MemPlace}
    (hone : ∀ {n : Nat} {vs : List Value} {y : DataW H × List MemPlace}, vs.length = m → DataW.trod enc Tryz.prog W 0 spare held n e vs = some y → ∃ x : α, vs = cs x)
    (h : DataW.trod enc Tryz.prog W 0 spare held fuel t [.slice a0 len cap] = some x) : len ≤ cap ∧ cap ≤ 9223372036854775807 ∧ ∃ l, LsOf cs m W a0 len l := by
  rcases Go.Deep.open_slice ht h with ⟨h0, _⟩ | ⟨a, l, c, mm, n, D, Pl, h0, _, hl, hmx, hmm, _, hel⟩
  · simp at h0
    obtain ⟨rfl, rfl, rfl⟩ := h0
    exact ⟨Nat.le_refl _, by omega, [], rfl, fun i x hx => by simp at hx⟩
  · simp at h0
    obtain ⟨rfl, rfl, rfl⟩ := h0
    refine ⟨hl, by unfold maxLen at hmx; omega, ?_⟩
    have each : ∀ i, i < len → ∃ y : α, ∃ b off, (some a : Option Addr) = some ⟨b, off, none⟩ ∧ b < W.heap.size ∧ W.rangeAt b (off + i * m) (cs y) := by
      intro i hi
      have part : ∀ i, i < len → ∃ y : α, ∀ (j : Nat) (v : Value), (cs y)[j]? = some v → W.cell? (a.add (i * m + j)) = some v := fun i hi => by
        obtain ⟨vs, hc, htr⟩ := hel i (by split at hmm <;> omega)
        obtain ⟨_, hvl, hat⟩ := World.cells?_some hc
        rw [hC] at hvl hat
        obtain ⟨y, rfl⟩ := hone hvl htr
        refine ⟨y, fun j v hv => ?_⟩
        have hj : j < m := by have := (List.getElem?_eq_some_iff.1 hv).1; rw [hcl] at this; exact this
        have := hat j hj
        rw [Go.Deep.add_add] at this
        rw [this, hv]
      obtain ⟨y, hy⟩ := part i hi
      obtain ⟨b, off, spot⟩ := a
      have h0' : 0 < (cs y).length := by rw [hcl]; exact hm
      have hv0 : (cs y)[0]? = some ((cs y)[0]'h0') := List.getElem?_eq_getElem _
      obtain rfl : spot = none := by
        obtain ⟨y', hy'⟩ := part 0 (by omega)
        have h0'' : 0 < (cs y').length := by rw [hcl]; exact hm
        have := World.cell?_spot (hy' 0 _ (List.getElem?_eq_getElem h0''))
        simpa [Addr.add] using this
      have hadd : ∀ q, (⟨b, off, none⟩ : Addr).add q = ⟨b, off + q, none⟩ := fun q => by unfold Addr.add; split <;> simp_all
      refine ⟨y, b, off, rfl, ?_, fun j v hv => ?_⟩
      · have := World.block_lt_of_cell? W _ (hy 0 _ hv0)
        rwa [block_add] at this
      · rw [Nat.add_assoc, ← hadd]
        exact hy j v hv
    obtain ⟨l, h1, h2⟩ := list_of each
    exact ⟨l, h1, h2⟩
theorem flat_at {α : Type} {cs : α → List Value} {m : Nat} (hm : ∀ x, (cs x).length = m) {x : α} {i : Nat} {v : Value} (hv : (cs x)[i]? = some v) : ∀ {l : List α} {k : Nat}, l[k]? = some x → (l.flatMap cs)[k * m + i]? = some v
  | [], k, h => by simp at h
  | r :: l, 0, h => by
    simp only [List.getElem?_cons_zero, Option.some.injEq] at h
    subst h
    rw [List.flatMap_cons, Nat.zero_mul, Nat.zero_add, List.getElem?_append_left (List.getElem?_eq_some_iff.1 hv).1]
    exact hv
  | r :: l, k + 1, h => by
    simp only [List.getElem?_cons_succ] at h
    have := flat_at hm hv h
    rw [List.flatMap_cons, List.getElem?_append_right (by rw [hm, Nat.add_mul]; omega), hm, ← this]
    congr 1
    rw [Nat.add_mul]
    omega
theorem LsOf.of_own {α : Type} {cs : α → List Value} {m : Nat} (hm : ∀ x, (cs x).length = m) {w : World} {B n c : Nat} {A : Option Addr} {l : List α} {e : TypeId} (h : w.ownsRow B e m (.slice A n c) n (l.flatMap cs)) (hl : l.length = n) : LsOf cs m w A n l :=
  ⟨hl, fun i x hx => by
    have hi := (List.getElem?_eq_some_iff.1 hx).1
    obtain ⟨g, e, _, hg, hc⟩ := own_at h (by omega)
    refine ⟨g, 0, e, hg, fun j v hv => ?_⟩
    rw [Nat.zero_add]
    exact hc _ v (flat_at hm hv hx)⟩
theorem LsOf.old {α : Type} {cs : α → List Value} {m : Nat} {W W' : World} {a : Option Addr} {len : Nat} {l : List α} {S : Nat → Prop} (h : LsOf cs m W a len l) (ho : Only S W W') (hS : ∀ k, k < W.heap.size → ¬ S k) : LsOf cs m W' a len l :=
  ⟨h.1, fun i x hx => by
    obtain ⟨b, off, e, hb, h1⟩ := h.2 i x hx
    exact ⟨b, off, e, Nat.lt_of_lt_of_le hb ho.size, fun j v hv => ho.cellv (h1 j v hv) (hS b hb)⟩⟩
theorem LsOf.nil {α : Type} (cs : α → List Value) (m : Nat) (W : World) (A : Option Addr) : LsOf cs m W A 0 [] := ⟨rfl, fun i x h => by simp at h⟩
end Go.Proofs.YtbnfhklpobephaaGreatDoor
