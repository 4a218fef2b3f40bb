/- Package slc: the chapter's example. -/
import Derived.Test.YtojnhheeholaeaaDoorScNew
import Derived.Deep.RegionHeld3
namespace Go.Proofs.YtojnhheeholaeaaDoor
open Go Go.RowKit
set_option maxRecDepth 100000
set_option maxHeartbeats 4000000

theorem st_one {w w' : World} {N : Nat} {x : Se} (h : Blk w N 32 x.cs) (ho : Only (fun _ => False) w w') : StAt w' (some ⟨N, 0, none⟩) 1 [x] :=
  ⟨rfl, fun i y hy => by
    have hb := h.only ho (fun h => h)
    have hi : i = 0 := by have := (List.getElem?_eq_some_iff.1 hy).1; simp at this; omega
    subst hi
    obtain rfl : x = y := by simpa using hy
    exact ⟨N, 0, rfl, hb.lt, fun j v hv => by rw [show 0 + 0 * 2 + j = j from by omega, hb.cell]; exact hv⟩⟩
theorem size_le_alloc (w : World) (ob : Obj) : w.heap.size ≤ (w.alloc ob).heap.size := by simp
theorem same_set (W : World) (a b : Int) : (Op.equalIn 10000 32 (.agg #[.int .i64 a, .int .i64 b]) (.agg #[.int .i64 a, .int .i64 b])).run Tryd.prog W = .ok true W := by
  rw [eq_set]
  simp
theorem sc_alive (w : World) : Calls Tryd.prog 6 #[] w fun e w' => e = .returned (.bool true) ∧ Only (fun _ => False) w w' := by
  have HN : Hid (∀ W N, Blk W N 32 [.int .i64 2, .int .i64 3] → Calls Tryd.prog 7 #[.slice (some ⟨N, 0, none⟩) 1 1] W fun e w' => ∃ p, e = .returned (.pointer (some ⟨p, 0, none⟩)) ∧ SdAt w' p (newS [⟨2, 3⟩]) ∧ W.heap.size ≤ p ∧ Only (fun _ => False) W w') :=
    fun W N hb => new_any (st_one (x := ⟨2, 3⟩) hb (Only.refl _ _)) (Nat.le_refl _) (by omega)
  have HH : Hid (∀ W p, SdAt W p (newS [⟨2, 3⟩]) → Calls Tryd.prog 10 #[.pointer (some ⟨p, 0, none⟩), .agg #[.int .i64 1, .int .i64 2, .int .i64 4, .bool false]] W fun e w' => e = .returned (.tuple #[.agg #[.int .i64 1, .int .i64 2, .int .i64 4, .bool true], .bool true]) ∧ (∀ W2, Only (fun _ => False) w' W2 → Calls Tryd.prog 16 #[.pointer (some ⟨p, 0, none⟩), .int .i64 1] W2 fun e w3 => e = .returned (.agg #[.int .i64 2, .int .i64 4]) ∧ Only (fun _ => False) W2 w3) ∧ Only (· = p) W w') := fun W p hs => by
    refine (hear_any hs ⟨1, ⟨2, 4⟩, false⟩).mono ?_
    rintro e w' ⟨rfl, h2, ho⟩
    have e1 : (hearS (newS [⟨2, 3⟩]) ⟨1, ⟨2, 4⟩, false⟩).2 = (⟨1, ⟨2, 4⟩, true⟩, true) := by decide
    refine ⟨by rw [e1], fun W2 ho2 => ?_, ho⟩
    have e2 : hasS (hearS (newS [⟨2, 3⟩]) ⟨1, ⟨2, 4⟩, false⟩).1 1 = ⟨2, 4⟩ := by decide
    have := has_any (h2.same ho2) 1
    rw [e2] at this
    exact this
  have heq : ∀ W, _ := fun W => same_set W 2 4
  have hgr := guard_set
  go_enter Tryd.func6, Tryd.ntmps6
  go_wp2_with (first
    | (go_at_call 7; refine (HN.out _ _ (Blk.new' _ _ [.int .i64 2, .int .i64 3] rfl)).mono ?_; rintro e w1 ⟨p, rfl, hs1, hp1, ho1⟩; have HS1 := Lib.hid hs1; have HO1 : Hid (Only (fun _ => False) w w1) := ((Only.refl _ _).alloc _).trans ho1 (fun _ h => h.elim); have HP1 : Hid (w.heap.size ≤ p) := Nat.le_trans (size_le_alloc _ _) hp1; clear hs1 ho1 hp1)
    | (go_at_call 10; refine (HH.out _ _ (HS1.out.same ((Only.refl _ _).alloc _))).mono ?_; rintro e w2 ⟨rfl, hh2, ho2⟩; have HH2 := Lib.hid hh2; have HO2 := Lib.hid ho2; clear hh2 ho2)
    | fail)
  have hpl := HS1.out.lt
  have hb2 : Blk w2 w1.heap.size 32 [.int .i64 2, .int .i64 4] := (Blk.new w1 _ _).only HO2.out (by omega)
  have HB2 := Lib.hid (hb2.alloc (.cells #[.int .i64 1, .int .i64 2, .int .i64 4, .bool true] 34))
  have HB3 := Lib.hid (Blk.new w2 34 [.int .i64 1, .int .i64 2, .int .i64 4, .bool true])
  have HO3 : Hid (Only (fun _ => False) w (w2.alloc (.cells #[.int .i64 1, .int .i64 2, .int .i64 4, .bool true] 34))) := (((HO1.out.alloc _).trans HO2.out (fun i hi => .inr (by have := HP1.out; omega))).alloc _)
  have HO23 : Hid (Only (fun _ => False) w2 (w2.alloc (.cells #[.int .i64 1, .int .i64 2, .int .i64 4, .bool true] 34))) := (Only.refl _ _).alloc _
  generalize (w2.alloc (.cells #[.int .i64 1, .int .i64 2, .int .i64 4, .bool true] 34)) = w3 at *
  obtain ⟨T, hT⟩ : ∃ T, T = w2.heap.size := ⟨_, rfl⟩
  obtain ⟨U, hU⟩ : ∃ U, U = w1.heap.size := ⟨_, rfl⟩
  rw [← hU] at HB2
  rw [← hT] at HB3
  rw [← hT, ← hU]
  have HK : Hid (∀ W, Only (fun _ => False) w3 W → (W.cell? ⟨T, 1, none⟩ = some (.int .i64 2) ∧ W.cell? ⟨T, 2, none⟩ = some (.int .i64 4) ∧ W.cell? ⟨T, 3, none⟩ = some (.bool true)) ∧ W.cell? ⟨U, 0, none⟩ = some (.int .i64 2) ∧ W.cell? ⟨U, 1, none⟩ = some (.int .i64 4)) := fun W ho =>
    ⟨⟨(HB3.out.only ho (fun h => h)).cell 1, (HB3.out.only ho (fun h => h)).cell 2, (HB3.out.only ho (fun h => h)).cell 3⟩, (HB2.out.only ho (fun h => h)).cell 0, (HB2.out.only ho (fun h => h)).cell 1⟩
  clear hT hU hb2
  go_region_held3 (fun W => (W.cell? ⟨T, 1, none⟩ = some (.int .i64 2) ∧ W.cell? ⟨T, 2, none⟩ = some (.int .i64 4) ∧ W.cell? ⟨T, 3, none⟩ = some (.bool true)) ∧ W.cell? ⟨U, 0, none⟩ = some (.int .i64 2) ∧ W.cell? ⟨U, 1, none⟩ = some (.int .i64 4))
    (first | exact HK.out _ (Only.refl _ _).drew | exact HK.out _ HO5.out)
    (first
      | (go_at_call 16; (with_reducible refine (HH2.out _ HO23.out.drew).mono ?_); rintro e w5 ⟨rfl, ho5⟩; have HO5 : Hid (Only (fun _ => False) w3 w5) := (Only.refl _ _).drew.trans ho5 (fun _ h => h.elim); clear ho5))
  go_wp2
  go_ret
  exact ⟨rfl, HO3.out.trans HO5.out (fun _ h => h.elim)⟩
end Go.Proofs.YtojnhheeholaeaaDoor
