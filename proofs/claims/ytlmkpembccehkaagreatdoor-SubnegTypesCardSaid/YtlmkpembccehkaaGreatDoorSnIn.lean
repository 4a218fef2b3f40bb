/- A struct within a block: its cells from a place on. -/
import Derived.Test.YtlmkpembccehkaaGreatDoorMid
namespace Go.Proofs.YtlmkpembccehkaaGreatDoor
open Go Go.RowKit
set_option maxRecDepth 100000

/-- From place mo on block p holds cs. -/
structure InB (w : World) (p : Nat) (t : TypeId) (pre post : List Value) (mo : Nat) (cs : List Value) : Prop where
  blk : Blk w p t (pre ++ (cs ++ post))
  len : pre.length = mo
section
variable {w w' : World} {p mo : Nat} {t : TypeId} {pre post cs : List Value}
theorem InB.lt (h : InB w p t pre post mo cs) : p < w.heap.size := h.blk.lt
theorem InB.cell (h : InB w p t pre post mo cs) {i : Nat} (hi : i < cs.length) : w.cell? ⟨p, mo + i, none⟩ = cs[i]? := (h.blk.cell _).trans (get_mid h.len i hi)
theorem InB.val (h : InB w p t pre post mo cs) {i : Nat} {v : Value} (hi : cs[i]? = some v) : w.cell? ⟨p, mo + i, none⟩ = some v := (h.cell (List.getElem?_eq_some_iff.1 hi).1).trans hi
theorem InB.frozen (h : InB w p t pre post mo cs) (i : Nat) : w.frozen? ⟨p, i, none⟩ = false := h.blk.frozen i
theorem InB.setCell (h : InB w p t pre post mo cs) {i : Nat} (hi : i < cs.length) (v : Value) : InB (w.setCell ⟨p, mo + i, none⟩ v) p t pre post mo (cs.set i v) := ⟨by
  have := h.blk.setCell (mo + i) v
  rwa [set_mid h.len i hi] at this, h.len⟩
theorem InB.only {S : Nat → Prop} (h : InB w p t pre post mo cs) (ho : Only S w w') (hS : ¬ S p) : InB w' p t pre post mo cs := ⟨h.blk.only ho hS, h.len⟩
theorem InB.same (h : InB w p t pre post mo cs) (ho : Only (fun _ => False) w w') : InB w' p t pre post mo cs := h.only ho (fun h => h)
theorem InB.drew (h : InB w p t pre post mo cs) : InB w.drew p t pre post mo cs := ⟨h.blk.drew, h.len⟩
theorem InB.drewN (h : InB w p t pre post mo cs) (n : Nat) : InB (w.drewN n) p t pre post mo cs := ⟨h.blk.drewN n, h.len⟩
theorem InB.alloc (h : InB w p t pre post mo cs) (o : Obj) : InB (w.alloc o) p t pre post mo cs := ⟨h.blk.alloc o, h.len⟩
theorem InB.range (h : InB w p t pre post mo cs) : w.rangeAt p mo cs := fun _ _ hj => h.val hj
/-- A piece of it. -/
theorem InB.sub {a b c : List Value} (h : InB w p t pre post mo (a ++ (b ++ c))) : InB w p t (pre ++ a) (c ++ post) (mo + a.length) b := ⟨by
  have := h.blk
  simpa [List.append_assoc] using this, by rw [List.length_append, h.len]⟩
end
end Go.Proofs.YtlmkpembccehkaaGreatDoor
