/- What a side that is made of settings holds of each function, as a row. -/
import Derived.Test.YtlmkpembccehkaaGreatDoorScNew
import Derived.Test.YtlmkpembccehkaaGreatDoorScHear
namespace Go.Proofs.YtlmkpembccehkaaGreatDoor
open Go Go.RowKit
set_option maxRecDepth 100000
set_option maxHeartbeats 4000000

theorem st_set : ∀ (l : List Se) (i : Nat) (x : Se), i < l.length → (l.flatMap Se.cs).take (i * 2) ++ ([.int .i64 x.l, .int .i64 x.v] ++ (l.flatMap Se.cs).drop (i * 2 + 2)) = (l.set i x).flatMap Se.cs
  | [], i, x, h => by simp at h
  | y :: l, 0, x, _ => by simp [Se.cs]
  | y :: l, i + 1, x, h => by
    have ih := st_set l i x (by simpa using h)
    have e1 : (i + 1) * 2 = (i * 2).succ.succ := by omega
    rw [List.set_cons_succ, List.flatMap_cons, List.flatMap_cons, ← ih, e1]
    simp [Se.cs, Nat.succ_eq_add_one]
theorem st_len (l : List Se) : (l.flatMap Se.cs).length = l.length * 2 := by
  induction l with
  | nil => rfl
  | cons y l ih => rw [List.flatMap_cons, List.length_append, ih, List.length_cons]; simp; omega
theorem st_cell : ∀ {l : List Se} {i j : Nat} {x : Se} {v : Value}, l[i]? = some x → x.cs[j]? = some v → (l.flatMap Se.cs)[i * 2 + j]? = some v
  | [], i, j, x, v, h, _ => by simp at h
  | y :: l, 0, j, x, v, h, hv => by
    simp only [List.getElem?_cons_zero, Option.some.injEq] at h
    subst h
    rw [List.flatMap_cons, Nat.zero_mul, Nat.zero_add, List.getElem?_append_left (List.getElem?_eq_some_iff.1 hv).1]
    exact hv
  | y :: l, i + 1, j, x, v, h, hv => by
    simp only [List.getElem?_cons_succ] at h
    have := st_cell h hv
    rw [List.flatMap_cons, List.getElem?_append_right (by simp; omega), ← this]
    congr 1
    simp
    omega
theorem StAt.of_blk {w : World} {N n : Nat} {l : List Se} (h : Blk w N 75 (l.flatMap Se.cs)) (hl : l.length = n) : StAt w (some ⟨N, 0, none⟩) n l :=
  ⟨hl, fun i x hx => ⟨N, 0, rfl, h.lt, fun j v hv => by
    rw [Nat.zero_add, h.cell]
    exact st_cell hx hv⟩⟩
def st0 : List Se := List.replicate 18 ⟨0, 0⟩
theorem make_set (W : World) : (Instr.makeSlice 25 (.int .i64 18) (.int .i64 18)).run Tryz.prog W = .ok (.slice (some ⟨W.heap.size, 0, none⟩) 18 18) (W.alloc (.cells (st0.flatMap Se.cs).toArray 75)) := by kernel_rfl
theorem snHeld_any {w : World} {A : Option Addr} {n c : Nat} {l : List Se} (h : StAt w A n l) (hn : n ≤ c) (hc : c ≤ 9223372036854775807) :
    Calls Tryz.prog 22 #[.slice A n c] w fun e w' => ∃ N l', e = .returned (.slice (some ⟨N, 0, none⟩) 18 18) ∧ Hid (StAt w' (some ⟨N, 0, none⟩) 18 l') ∧ Hid (w.heap.size ≤ N) ∧ Hid (Only (fun _ => False) w w') := by
  have HNw := Lib.hid (snew_any h hn hc)
  have hmk := make_set
  clear h hn hc
  go_enter Tryz.func22, Tryz.ntmps22
  go_wp2_with (go_at_call 45; (with_reducible refine HNw.out.mono ?_); rintro e w1 ⟨q, rfl, hs1, hq1, ho1⟩; have HS1 := Lib.hid hs1; have HQ1 := Lib.hid hq1; have HO1 := Lib.hid ho1; clear hs1 hq1 ho1)
  obtain ⟨N, hN⟩ : ∃ N, N = w1.heap.size := ⟨_, rfl⟩
  obtain ⟨w2, hw2⟩ : ∃ w2, w2 = w1.alloc (.cells (st0.flatMap Se.cs).toArray 75) := ⟨_, rfl⟩
  rw [← hw2, ← hN]
  have HB2 : Hid (Blk w2 N 75 (st0.flatMap Se.cs)) := by
    rw [hw2, hN]
    exact Blk.new w1 _ _
  have HS2 : Hid (∃ S, ScSdAt w2 q S) := ⟨_, by rw [hw2]; exact HS1.out.same ((Only.refl _ _).alloc _)⟩
  have HO2 : Hid (Only (fun _ => False) w w2) := by rw [hw2]; exact HO1.out.alloc _
  have HNN : Hid (w.heap.size ≤ N ∧ q < N) := by rw [hN]; exact ⟨HO1.out.size, HS1.out.lt⟩
  clear hN hw2
  go_wp2
  go_loopw [13] (fun i W => ∃ k : Nat, k ≤ 18 ∧ i = .int .i64 (k : Int) ∧ Hid (∃ l' : List Se, l'.length = 18 ∧ Blk W N 75 (l'.flatMap Se.cs) ∧ (∃ S, ScSdAt W q S) ∧ Only (fun _ => False) w W)) (fun i _ => 18 - (intOf i).toNat)
  case atStart => exact ⟨0, Nat.zero_le _, rfl, st0, rfl, HB2.out, HS2.out, HO2.out⟩
  case round =>
    obtain ⟨k, hk, rfl, hrel⟩ := hrel
    obtain ⟨l', hl', hB, ⟨S, hS⟩, hO⟩ := hrel.out
    by_cases hlt : k < 18
    · have hlt2 : (k : Int) < (18 : Int) := by omega
      have HHr := Lib.hid (hear_any hS ⟨(k : Int) + 1, ⟨3, 0⟩, false⟩)
      have HS := Lib.hid hS
      have hqN : q ≠ N := by have := HNN.out.2; omega
      obtain ⟨⟨f, ⟨xl, xv⟩, xa⟩, hx⟩ : ∃ x, x = (hearS S ⟨(k : Int) + 1, ⟨3, 0⟩, false⟩).2.1 := ⟨_, rfl⟩
      obtain ⟨b, hb⟩ : ∃ b, b = (hearS S ⟨(k : Int) + 1, ⟨3, 0⟩, false⟩).2.2 := ⟨_, rfl⟩
      rw [← hx, ← hb] at HHr
      have HB := Lib.hid hB
      have HO := Lib.hid hO
      have HL := Lib.hid hl'
      have hNl := hB.lt
      have hk2 : k * 2 + 1 < (l'.flatMap Se.cs).length := by rw [st_len, hl']; omega
      clear hrel hB hS hO hl' hx hb
      go_wp2_with (first
        | (go_at_call 46; (with_reducible refine HHr.out.mono ?_); rintro e w3 ⟨rfl, hs3, ho3⟩; have HS3 := Lib.hid hs3; have HB3 := Lib.hid (HB.out.only ho3 (fun h => hqN h.symm)); have HO3 : Hid (Only (fun _ => False) w w3) := HO.out.trans ho3 (fun i hi => .inr (by rw [hi]; exact HQ1.out)); have hz3 := ho3.size; clear hs3 ho3)
        | ((with_reducible show wpList _ _ _ (⟨none, .store 75 (.tmp 29) _, _, _, _, _⟩ :: _) _ _); refine step_store2 rfl 75 _ _ rfl N (k * 2) rfl (.int .i64 xl) (.int .i64 xv) rfl _ _ (HB3.out.alloc _) hk2 size_set rfl rfl ?_; intro w4 hB4 hz4 ho4))
      go_roundw
      case rel =>
        refine ⟨k + 1, by omega, by go_num, l'.set k ⟨xl, xv⟩, by rw [List.length_set]; exact HL.out, ?_, ⟨_, (HS3.out.same ((Only.refl _ _).alloc _)).only ho4 hqN⟩, (HO3.out.alloc _).trans ho4 (fun i hi => .inr (by rw [hi]; exact HNN.out.1))⟩
        have := hB4.out
        rw [st_set l' k ⟨xl, xv⟩ (by rw [HL.out]; exact hlt)] at this
        exact this
      case measure => simp [intOf]; omega
    · obtain rfl : k = 18 := by omega
      clear hrel
      have HB := Lib.hid hB
      have HL := Lib.hid hl'
      have HO := Lib.hid hO
      clear hB hl' hO hS
      go_wp2
      go_ret
      exact ⟨N, l', rfl, StAt.of_blk HB.out HL.out, HNN.out.1, HO.out⟩
end Go.Proofs.YtlmkpembccehkaaGreatDoor
