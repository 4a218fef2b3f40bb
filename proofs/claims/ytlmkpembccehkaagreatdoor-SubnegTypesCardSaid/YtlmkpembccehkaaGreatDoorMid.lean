
/- A struct in the midst of a block known whole: its cells, and its store. -/
import Derived.Test.YtlmkpembccehkaaGreatDoorAlloc
namespace Go.Proofs.YtlmkpembccehkaaGreatDoor
open Go Go.RowKit
set_option maxRecDepth 100000

theorem get_mid {pre xs post : List Value} {mo : Nat} (h : pre.length = mo) (i : Nat) (hi : i < xs.length) : (pre ++ (xs ++ post))[mo + i]? = xs[i]? := by
  subst h
  rw [List.getElem?_append_right (by omega), Nat.add_sub_cancel_left, List.getElem?_append_left hi]
theorem set_mid {pre xs post : List Value} {mo : Nat} (h : pre.length = mo) (i : Nat) (hi : i < xs.length) (v : Value) : (pre ++ (xs ++ post)).set (mo + i) v = pre ++ (xs.set i v ++ post) := by
  subst h
  rw [List.set_append_right _ _ (by omega), Nat.add_sub_cancel_left, List.set_append_left _ _ hi]
section
variable {P : Program} {ops : Array Oper} {rest : List Oper} {o : Oper} {a : Act} {w : World} {Q : Exit → Act → World → Prop}
theorem Blk.setCells : ∀ (cells : List Value) {w : World} {g : Nat} {t : TypeId} {pre old post : List Value} {mo : Nat}, Blk w g t (pre ++ (old ++ post)) → pre.length = mo → old.length = cells.length → Blk (w.setCells g mo cells) g t (pre ++ (cells ++ post)) ∧ (w.setCells g mo cells).heap.size = w.heap.size ∧ Only (· = g) w (w.setCells g mo cells)
  | [], w, g, t, pre, old, post, mo, h, hp, hl => by
    obtain rfl : old = [] := List.eq_nil_of_length_eq_zero hl
    exact ⟨h, rfl, Only.refl _ _⟩
  | v :: cells, w, g, t, pre, u :: old, post, mo, h, hp, hl => by
    have h1 := h.setCell mo v
    have e : (pre ++ (u :: old ++ post)).set mo v = (pre ++ [v]) ++ (old ++ post) := by
      rw [List.set_append_right _ _ (by omega), show mo - pre.length = 0 from by omega]
      simp
    rw [e] at h1
    obtain ⟨h2, h3, h4⟩ := Blk.setCells cells h1 (mo := mo + 1) (by simp; omega) (by simpa using hl)
    rw [World.setCells]
    refine ⟨by simpa using h2, by rw [h3, setCell_size], ((Only.refl (· = g) w).setCell (p := ⟨g, mo, none⟩) (.inl rfl) v).trans h4 (fun i hi => .inl hi)⟩
/-- *p = v, a struct of so many cells, into the middle of a block known whole. -/
theorem step_storeM (hgd : o.guard = none) (ty : TypeId) (x y : Operand) (ho : o.op = .store ty x y) (g mo : Nat) (hx : a.eval x = .pointer (some ⟨g, mo, none⟩)) (cells : List Value) (hy : a.eval y = .agg cells.toArray)
    (t : TypeId) (pre old post : List Value) (hg : Blk w g t (pre ++ (old ++ post))) (hp : pre.length = mo) (hi : (P.info? ty).map (·.size) = some cells.length) (hold : old.length = cells.length) (h1 : ∀ v ∈ cells, v.oneCell' = true)
    (h : ∀ w', Hid (Blk w' g t (pre ++ (cells ++ post))) → Hid (w'.heap.size = w.heap.size) → Only (· = g) w w' → wpList P ops Q rest (a.put o.dst undef) w') : wpList P ops Q (o :: rest) a w := by
  obtain ⟨h2, h3, h4⟩ := Blk.setCells cells hg hp hold
  refine wpList_store_mid hgd ty x y ho g mo cells.toArray hx hy (fun j hj => ?_) (by simpa using hi) (all_oneCell_toArray h1) (by simpa using h _ h2 h3 h4)
  refine ⟨?_, hg.frozen _⟩
  rw [hg.cell, get_mid hp j (by rw [hold]; simpa using hj), List.getElem?_eq_getElem (by rw [hold]; simpa using hj)]
  rfl
end
end Go.Proofs.YtlmkpembccehkaaGreatDoor
