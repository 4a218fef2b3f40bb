/- Rows of tokens that the program laid itself; package iac's All. -/
import Derived.Test.YtelmfncdamakfaaIacFeed
import Derived.Great.Ranges
import Derived.Great.BuildSlice
import Derived.Deep.WholeRow
namespace Go.Proofs.Ytelmfncdamakfaa
open Go Go.RowKit
set_option maxRecDepth 100000

/-- What a byte leaves, the token's cells by a name. -/
theorem feed_cs {w : World} {p : Nat} {m : Ms} (h : IsMs w p m) (c : UInt8) (B : Nat) (hB : B ≤ w.heap.size) :
    Calls Try.prog 27 #[.pointer (some ⟨p, 0, none⟩), .int .u8 (c.toNat : Int)] w fun e w' => ∃ cs : List Value, e = .returned (.tuple #[.agg cs.toArray, .bool (feed m c).2.isSome]) ∧ Hid (cs.length = 5) ∧ Hid (∀ v ∈ cs, v.oneCell' = true) ∧
      Hid (∃ x : TkP, cs = x.cells ∧ x.t = tokOf (feed m c).2 ∧ Body w' B x.val x.t.body) ∧ Hid (IsMs w' p (feed m c).1) ∧ Hid (Only (· = p) w w') :=
  (feed_any h c B hB).mono fun e w' ⟨A, n, cc, he, hn, hb, hm, ho⟩ => by
    subst hn
    exact ⟨TkP.cells ⟨tokOf (feed m c).2, A, cc⟩, he, Lib.hid rfl, Lib.hid (TkP.cells_one _), Lib.hid ⟨⟨tokOf (feed m c).2, A, cc⟩, rfl, rfl, hb⟩, Lib.hid hm, Lib.hid ho⟩

section
variable {w w' : World} {B : Nat} {v : Value} {ps : List TkP}
theorem Toks.ms {p : Nat} {m : Ms} (h : Toks w B v ps) (ho : Only (· = p) w w') (hm : IsMs w p m) : Toks w' B v ps := by
  obtain ⟨_, _, hb, _⟩ := hm
  exact h.only ho (own_ne h.row hb (by decide)) (fun x hx => own_ne (h.bodies x hx) hb (by decide))
end
theorem info_machine : (Try.prog.info? 46).map (fun i => (i.zero, i.size)) = some (some (.agg (msCells Ms.zero (zeros 256)).toArray), 261) := by kernel_rfl
end Go.Proofs.Ytelmfncdamakfaa
