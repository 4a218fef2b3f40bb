
/- Rows of strings: what came in, what a call laid, a part of it; two of them compared. -/
import Derived.Test.YtgknhojjnnljkaaDoorText
import Derived.Test.YtgknhojjnnljkaaDoorFinish
import Derived.Deep.Strs
namespace Go.Proofs.YtgknhojjnnljkaaDoor
open Go Go.ChangeShapes Go.WideShapes Go.ChangeAt Go.RowKit
set_option maxRecDepth 100000
set_option maxHeartbeats 4000000

/-- A string as a cell holds it. -/
@[reducible] def S8 (s : List UInt8) : Value := .string ⟨s.toArray⟩
theorem S8_one (ts : List (List UInt8)) : ∀ u ∈ ts.map S8, u.oneCell' = true := by
  intro u hu
  obtain ⟨x, _, rfl⟩ := List.mem_map.1 hu
  rfl
theorem info_str : (Tryd.prog.info? 9).map (fun i => (i.zero, i.size, i.bytes)) = some (some (.string ⟨#[]⟩), 1, 16) := by kernel_rfl

/-- A slice of strings. -/
def TSrc (w : World) (A : Option Addr) (n : Nat) (ts : List (List UInt8)) : Prop :=
  ts.length = n ∧ (0 < n → ∃ ad, A = some ad ∧ ∀ (j : Nat) (s : List UInt8), ts[j]? = some s → w.cell? (ad.add j) = some (.string ⟨s.toArray⟩))
section
variable {w w' : World} {A : Option Addr} {n : Nat} {ts : List (List UInt8)}
theorem TSrc.nil (w : World) (A : Option Addr) : TSrc w A 0 [] := ⟨rfl, fun h => absurd h (by omega)⟩
theorem TSrc.only {S : Nat → Prop} (h : TSrc w A n ts) (ho : Only S w w') (hS : 0 < n → ∀ ad, A = some ad → ¬ S ad.block) : TSrc w' A n ts :=
  ⟨h.1, fun hn => by
    obtain ⟨ad, e, hc⟩ := h.2 hn
    exact ⟨ad, e, fun j x hx => ho.cellv (hc j x hx) (by rw [block_add]; exact hS hn ad e)⟩⟩
theorem TSrc.same (h : TSrc w A n ts) (ho : Only (fun _ => False) w w') : TSrc w' A n ts := h.only ho (fun _ _ _ h => h)
theorem TSrc.lt (h : TSrc w A n ts) (hn : 0 < n) : ∀ ad, A = some ad → ad.block < w.heap.size := by
  obtain ⟨ad, e, hc⟩ := h.2 hn
  intro ad' e'
  rw [e] at e'
  injection e' with e'
  subst e'
  have hl := h.1
  have h1 := World.block_lt_of_cell? w _ (hc 0 (ts[0]'(by omega)) (List.getElem?_eq_getElem (by omega)))
  rwa [block_add] at h1
/-- .. what was there stays, whatever newer blocks turn. -/
theorem TSrc.old {S : Nat → Prop} (h : TSrc w A n ts) (ho : Only S w w') (hS : ∀ k, k < w.heap.size → ¬ S k) : TSrc w' A n ts := h.only ho (fun hn ad e => hS _ (h.lt hn ad e))
theorem TSrc.take (h : TSrc w A n ts) (k : Nat) (hk : k ≤ n) : TSrc w A k (ts.take k) := by
  refine ⟨by rw [List.length_take, h.1]; omega, fun h0 => ?_⟩
  obtain ⟨ad, e, hc⟩ := h.2 (by omega)
  refine ⟨ad, e, fun j x hx => ?_⟩
  rw [List.getElem?_take] at hx
  split at hx
  · exact hc j x hx
  · cases hx
theorem TSrc.of_blk {N : Nat} {e : TypeId} {cs : List Value} (h : Blk w N e cs) (hl : ts.length = n) (hx : ∀ (j : Nat) (x : List UInt8), ts[j]? = some x → cs[j]? = some (S8 x)) : TSrc w (some ⟨N, 0, none⟩) n ts :=
  ⟨hl, fun _ => ⟨_, rfl, fun j x hj => by rw [at_add, h.cell]; exact hx j x hj⟩⟩
theorem TSrc.of_own {B c : Nat} {e : TypeId} (h : w.ownsRow B e 1 (.slice A n c) n (ts.map S8)) : TSrc w A n ts := by
  refine ⟨by have := h.1; simpa using this, fun hn => ?_⟩
  obtain ⟨g, hA, _, _, hc⟩ := own_at h hn
  exact ⟨_, hA, fun j x hx => by rw [at_add]; exact hc j _ (by rw [List.getElem?_map, hx]; rfl)⟩
/-- One of them, in every world that only grew. -/
theorem TSrc.get (h : TSrc w A n ts) {k : Nat} (hk : k < n) : ∃ ad s, A = some ad ∧ ts[k]? = some s ∧ w.cell? (ad.add k) = some (.string ⟨s.toArray⟩) := by
  obtain ⟨ad, e, hc⟩ := h.2 (by omega)
  have hs : ts[k]? = some (ts[k]'(by rw [h.1]; exact hk)) := List.getElem?_eq_getElem _
  exact ⟨ad, _, e, hs, hc k _ hs⟩
end

/-- A slice of strings that came in. -/
theorem opened_texts {H : Type} {enc : TypeId × Value → H} {W : World} {spare : Nat → Bool} {fuel : Nat} {a0 : Option Addr} {len cap : Nat} {x : DataW H × List MemPlace} (hf : DataW.trod enc Tryd.prog W 0 spare true fuel 43 [.slice a0 len cap] = some x) :
    ∃ ts : List (List UInt8), TSrc W a0 len ts ∧ len ≤ cap ∧ cap ≤ 9223372036854775807 ∧ ∀ t ∈ ts, t.length ≤ 9223372036854775807 := by
  rcases Go.Deep.open_strs Tryd.underlying43 Tryd.underlying9 (by kernel_rfl) hf with ⟨hcs, _⟩ | ⟨a, l, c, m, Sx, hcs, _, hl, hm, hmm, _, hcell⟩
  · simp at hcs
    obtain ⟨rfl, rfl, rfl⟩ := hcs
    exact ⟨[], TSrc.nil _ _, Nat.le_refl _, by omega, fun _ h => by cases h⟩
  · simp at hcs
    obtain ⟨rfl, rfl, rfl⟩ := hcs
    have hlm : len ≤ m := by rw [hmm]; split <;> omega
    refine ⟨(List.range len).map fun i => (Sx i).data.toList, ⟨by simp, fun _ => ⟨_, rfl, fun j s hs => ?_⟩⟩, hl, by unfold maxLen at hm; omega, fun t ht => ?_⟩
    · rw [List.getElem?_map] at hs
      have hj : j < len := by
        rcases Nat.lt_or_ge j len with h | h
        · exact h
        · rw [List.getElem?_eq_none (by simpa using h)] at hs
          cases hs
      rw [List.getElem?_range hj] at hs
      simp only [Option.map_some, Option.some.injEq] at hs
      subst hs
      rw [(hcell j (by omega)).1]
    · obtain ⟨i, hi, rfl⟩ := List.mem_map.1 ht
      have := (hcell i (by have := List.mem_range.1 hi; omega)).2
      have e : (Sx i).data.toList.length = (Sx i).size := Array.length_toList
      rw [e]
      exact this
end Go.Proofs.YtgknhojjnnljkaaDoor
