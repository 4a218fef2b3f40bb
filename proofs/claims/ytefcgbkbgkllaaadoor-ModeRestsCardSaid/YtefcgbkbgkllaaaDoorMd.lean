/- Modes: what a number is, a body told, heads and tails in memory, what they have. -/
import Derived.Test.YtefcgbkbgkllaaaDoorMdSay
import Derived.Test.YtefcgbkbgkllaaaDoorBox
import Derived.Test.YtefcgbkbgkllaaaDoorErrSel
namespace Go.Proofs.YtefcgbkbgkllaaaDoor
open Go Go.RowKit
set_option maxRecDepth 100000
set_option maxHeartbeats 4000000

theorem mdRight_any (w : World) {m : Int} (hm : In64 m) : Calls Tryd.prog 12 #[.int .i64 m] w fun e w' => e = .returned (.bool (isMask m)) ∧ w' = w := by
  have h := right_bits hm
  obtain ⟨z, hz⟩ : ∃ z, z = bits .andNot .i64 m 27 := ⟨_, rfl⟩
  rw [← hz] at h
  have hb := hz.symm
  obtain ⟨p, hp⟩ : ∃ p, p = isMask m := ⟨_, rfl⟩
  rw [← hp] at h ⊢
  have h2 : decide (z = 0) = p := by rw [← h]; rfl
  clear hz hp
  cases p
  all_goals
    go_enter Tryd.func12, Tryd.ntmps12
    go_wp2
    go_ret
    exact ⟨rfl, rfl⟩

theorem mdTell_any (w : World) {m : Int} (h0 : 0 ≤ m) (h1 : m ≤ 255) : Calls Tryd.prog 26 #[.int .i64 m] w fun e w' => e = .returned (.slice (some ⟨w.heap.size, 0, none⟩) 2 2) ∧ Hid (Src w' (some ⟨w.heap.size, 0, none⟩) 2 (bodyM m)) ∧ Hid (Only (fun _ => False) w w') := by
  have hb : (#[.int .u8 1, .int .u8 m] : Array Value) = ((bodyM m).map B8).toArray := by
    simp only [bodyM, List.map_cons, List.map_nil, B8, b8_int h0 h1]
    rfl
  go_enter Tryd.func26, Tryd.ntmps26
  go_wp2
  go_ret
  exact ⟨rfl, src_new w (bodyM m) _ 5 _ 2 rfl rfl, (Only.refl _ _).alloc _⟩

/-- A head, in memory. -/
def HdAt (w : World) (p : Nat) (m : Int) (b : Bool) : Prop := Blk w p 60 [.int .i64 m, .bool b]
/-- A tail. -/
def TlAt (w : World) (q : Nat) (can m : Int) : Prop := Blk w q 62 [.int .i64 can, .int .i64 m]

theorem mdNewHead_any (w : World) : Calls Tryd.prog 14 #[] w fun e w' => e = .returned (.pointer (some ⟨w.heap.size, 0, none⟩)) ∧ Hid (HdAt w' w.heap.size 0 false) ∧ Hid (w'.heap.size = w.heap.size + 1) ∧ Hid (Only (fun _ => False) w w') := by
  go_enter Tryd.func14, Tryd.ntmps14
  go_wp2
  go_ret
  exact ⟨rfl, Blk.new w _ [.int .i64 0, .bool false], show (w.alloc _).heap.size = _ by simp, (Only.refl _ _).alloc _⟩
theorem mdNewTail_any (w : World) (can : Int) : Calls Tryd.prog 15 #[.int .i64 can] w fun e w' => e = .returned (.pointer (some ⟨w.heap.size, 0, none⟩)) ∧ Hid (TlAt w' w.heap.size (canOf can) 0) ∧ Hid (w'.heap.size = w.heap.size + 1) ∧ Hid (Only (fun _ => False) w w') := by
  have hb : bits .and .i64 can 27 = canOf can := rfl
  go_enter Tryd.func15, Tryd.ntmps15
  go_wp2
  go_ret
  exact ⟨rfl, Blk.new w _ [.int .i64 (canOf can), .int .i64 0], show (w.alloc _).heap.size = _ by simp, (Only.refl _ _).alloc _⟩

theorem mdMask_any {w : World} {p : Nat} {m : Int} {b : Bool} (h : HdAt w p m b) : Calls Tryd.prog 20 #[.pointer (some ⟨p, 0, none⟩)] w fun e w' => e = .returned (.int .i64 m) ∧ w' = w := by
  have c0 := Blk.cell h 0
  simp only [List.getElem?_cons_zero] at c0
  go_enter Tryd.func20, Tryd.ntmps20
  go_wp2
  go_ret
  exact ⟨rfl, rfl⟩
theorem mdWaits_any {w : World} {p : Nat} {m : Int} {b : Bool} (h : HdAt w p m b) : Calls Tryd.prog 21 #[.pointer (some ⟨p, 0, none⟩)] w fun e w' => e = .returned (.bool b) ∧ w' = w := by
  have c1 := Blk.cell h 1
  simp only [List.getElem?_cons_zero, List.getElem?_cons_succ] at c1
  go_enter Tryd.func21, Tryd.ntmps21
  go_wp2
  go_ret
  exact ⟨rfl, rfl⟩
theorem mdTMask_any {w : World} {q : Nat} {can m : Int} (h : TlAt w q can m) : Calls Tryd.prog 22 #[.pointer (some ⟨q, 0, none⟩)] w fun e w' => e = .returned (.int .i64 m) ∧ w' = w := by
  have c1 := Blk.cell h 1
  simp only [List.getElem?_cons_zero, List.getElem?_cons_succ] at c1
  go_enter Tryd.func22, Tryd.ntmps22
  go_wp2
  go_ret
  exact ⟨rfl, rfl⟩
end Go.Proofs.YtefcgbkbgkllaaaDoor
