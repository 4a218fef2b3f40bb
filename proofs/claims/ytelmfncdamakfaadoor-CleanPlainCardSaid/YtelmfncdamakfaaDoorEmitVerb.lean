/- Package emit: a verb's bytes, where its numbers are a verb's. -/
import Derived.Test.YtelmfncdamakfaaDoorEmit
import Derived.Test.YtelmfncdamakfaaDoorVerb
namespace Go.Proofs.YtelmfncdamakfaaDoor
open Go Go.RowKit
set_option maxRecDepth 100000
set_option maxHeartbeats 4000000

theorem isByte_any (W : World) (c : Int) : Calls Tryd.prog 20 #[.int .i64 c] W fun e w' => e = .returned (.bool (decide (0 ≤ c ∧ c ≤ 255))) ∧ w' = W := by
  by_cases h1 : c < 0
  · go_enter Tryd.func20, Tryd.ntmps20
    go_wp2
    go_ret
    refine ⟨congrArg (fun b => Ending.returned (Value.bool b)) ?_, rfl⟩
    first | (simp; done) | (simp; omega)
  · go_enter Tryd.func20, Tryd.ntmps20
    go_wp2
    go_ret
    refine ⟨congrArg (fun b => Ending.returned (Value.bool b)) ?_, rfl⟩
    first | (simp; done) | (simp; omega)
/-- Bytes that lie in one new block. -/
theorem body_new (w : World) (xs : List UInt8) (n : Nat) (hn : n = xs.length) (cs : Array Value) (hc : cs = (xs.map B8).toArray) (hb : n ≤ 1048576) : Body (w.alloc (.cells cs 5)) w.heap.size (.slice (some ⟨w.heap.size, 0, none⟩) n n) xs := by
  subst hn hc
  exact own_of_blk (Blk.new w 5 (xs.map B8)) (by simp) (by rw [Nat.mul_one, List.take_of_length_le (by simp)]) (Nat.le_refl _) (by omega) (Nat.le_refl _)

theorem verb_ok {w : World} (c o : Int) (h : 251 ≤ c ∧ c ≤ 254) (h2 : 0 ≤ o ∧ o ≤ 255) :
    Calls Tryd.prog 10 #[.int .i64 c, .int .i64 o] w fun e w' => ∃ A cap, e = .returned (.tuple #[.slice A 3 cap, .nilIface]) ∧ Hid (Body w' w.heap.size (.slice A 3 cap) [255, b8 c, b8 o]) ∧ Hid (Only (fun _ => False) w w') := by
  have hp := fun W => verb_any W c
  have hq := fun W => isByte_any W o
  rw [decide_eq_true h] at hp
  rw [decide_eq_true h2] at hq
  have hw : IntKind.u8.wrap c = c := by rw [IntKind.wrap_u8]; omega
  have hw2 : IntKind.u8.wrap o = o := by rw [IntKind.wrap_u8]; omega
  have HC : Hid (#[Value.int .u8 255, Value.int .u8 c, Value.int .u8 o] = ([255, b8 c, b8 o].map B8).toArray) := by
    have := b8_int (z := c) (by omega) (by omega)
    have := b8_int (z := o) (by omega) (by omega)
    simp only [List.map_cons, List.map_nil, B8, *]
    rfl
  clear h h2
  go_enter Tryd.func10, Tryd.ntmps10
  go_wp2_with (first
    | (go_at_call 19; refine (hp _).mono ?_; rintro e w' ⟨rfl, e2⟩; subst w')
    | (go_at_call 20; refine (hq _).mono ?_; rintro e w' ⟨rfl, e2⟩; subst w'))
  go_ret2
  exact ⟨_, _, rfl, body_new _ _ 3 rfl _ HC.out (by omega), (Only.refl _ _).alloc _⟩
end Go.Proofs.YtelmfncdamakfaaDoor
