/- Package nvt: what has come in, wherever it lies in a block. -/
import Derived.Test.YtelmfncdamakfaaNvtSay
import Derived.Test.YtelmfncdamakfaaText
import Derived.BigQuiet
namespace Go.Proofs.Ytelmfncdamakfaa
open Go Go.RowKit
set_option maxRecDepth 100000
set_option maxHeartbeats 4000000

theorem drop_at {α : Type} {l : List α} {k : Nat} {x : α} (h : l[k]? = some x) : l.drop k = x :: l.drop (k + 1) := by
  obtain ⟨hk, e⟩ := List.getElem?_eq_some_iff.1 h
  rw [List.drop_eq_getElem_cons hk, e]

theorem next_in {w : World} {g mo : Nat} {tp : TypeId} {cs : List Value} {b : Bool} (hg : Blk w g tp cs) (hm : cs[mo]? = some (.bool b)) (x : UInt8) (r : Bool) :
    Calls Try.prog 37 #[.pointer (some ⟨g, mo, none⟩), .int .u8 (x.toNat : Int), .bool r] w fun e w' => e = .returned (.bool (!(b && decide (x.toNat = 0) && !r))) ∧ Hid (Blk w' g tp (cs.set mo (.bool (decide (x.toNat = 13) && !r)))) ∧ Hid (Only (· = g) w w') := by
  have HG := Lib.hid hg
  have c0 : w.cell? ⟨g, mo, none⟩ = some (.bool b) := by rw [hg.cell]; exact hm
  have f0 := hg.frozen mo
  obtain ⟨z, hz⟩ : ∃ z : Int, z = (x.toNat : Int) := ⟨_, rfl⟩
  rw [← hz]
  obtain ⟨p0, h0⟩ : ∃ p, p = decide (x.toNat = 0) := ⟨_, rfl⟩
  obtain ⟨p1, h1⟩ : ∃ p, p = decide (x.toNat = 13) := ⟨_, rfl⟩
  rw [← h0, ← h1]
  have e0 : (z == 0) = p0 := by rw [h0, hz, Bool.eq_iff_iff]; simp
  have e0' : decide (z = 0) = p0 := by rw [h0, hz, Bool.eq_iff_iff]; simp
  have e1 : (z == 13) = p1 := by rw [h1, hz, Bool.eq_iff_iff]; simp; omega
  have e1' : decide (z = 13) = p1 := by rw [h1, hz, Bool.eq_iff_iff]; simp; omega
  clear hg h0 h1 hz hm
  cases b <;> cases r <;> cases p0 <;> cases p1
  all_goals
    go_enter Try.func37, Try.ntmps37
    go_wp2
    go_ret
    exact ⟨rfl, HG.out.setCell mo _, (Only.refl (· = g) w).setCell (p := ⟨g, mo, none⟩) (.inl rfl) _⟩
theorem next_any {w : World} {g : Nat} {b : Bool} (hg : Blk w g 48 [.bool b]) (x : UInt8) (r : Bool) :
    Calls Try.prog 37 #[.pointer (some ⟨g, 0, none⟩), .int .u8 (x.toNat : Int), .bool r] w fun e w' => e = .returned (.bool (!(b && decide (x.toNat = 0) && !r))) ∧ Hid (Blk w' g 48 [.bool (decide (x.toNat = 13) && !r)]) ∧ Hid (Only (· = g) w w') :=
  next_in hg rfl x r
end Go.Proofs.Ytelmfncdamakfaa
