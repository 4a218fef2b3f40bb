/- truchmannum.Bytes: a copy with marked room behind it; truchmannum.Kept: such a copy is kept. -/

import Derived.Test.YtgknhojjnnljkaaDoorInfo
namespace Go.Proofs.YtgknhojjnnljkaaDoor
open Go Go.RowKit

/-- Five marked bytes. -/
def marks (k : Nat) : List Value := List.replicate k (.int .u8 90)
theorem length_marks (k : Nat) : (marks k).length = k := by simp [marks]

theorem make_room (m c : Nat) (hmc : m ≤ c) (hc : c ≤ 281474976710656) (W : World) : (Instr.makeSlice 34 (.int .i64 (m : Int)) (.int .i64 (c : Int))).run Tryd.prog W = .ok (.slice (some ⟨W.heap.size, 0, none⟩) m c) (W.alloc (.cells (zeros c).toArray 5)) := by
  obtain ⟨i, hi, hz, h1, h2⟩ := info_parts info_byte
  have h := run_make (P := Tryd.prog) W 34 5 i (.int .u8 0) Tryd.underlying34 hi hz .i64 .i64 m c (by omega) (by omega) (by rw [h2]; omega) (by omega)
  rw [h, h1, Nat.mul_one]
  simp only [Int.toNat_natCast]
  rw [← made_zeros]
  rfl

theorem set_mark (l : List Value) (n k : Nat) (hl : l.length = n) (hk : k < 5) : (l ++ (marks k ++ zeros (5 - k))).set (n + k) (.int .u8 90) = l ++ (marks (k + 1) ++ zeros (5 - (k + 1))) := by
  subst hl
  have e1 : marks (k + 1) = marks k ++ [.int .u8 90] := by unfold marks; exact List.replicate_succ'
  have e2 : zeros (5 - k) = .int .u8 0 :: zeros (5 - (k + 1)) := by
    rw [show 5 - k = (5 - (k + 1)) + 1 from by omega]
    rfl
  rw [List.set_append_right _ _ (by omega), Nat.add_sub_cancel_left, List.set_append_right _ _ (by rw [length_marks]; omega), length_marks, Nat.sub_self, e1, e2, List.append_assoc]
  rfl

set_option maxHeartbeats 1000000 in
theorem bytes_any {w : World} {A : Option Addr} {n : Nat} {xs : List UInt8} (hs : Src w A n xs) (c : Nat) (hn : n ≤ 1048576) :
    Calls Tryd.prog 10 #[.slice A n c] w fun e w' =>
      e = .returned (.slice (some ⟨w.heap.size, 0, none⟩) n (n + 5)) ∧ Blk w' w.heap.size 5 (xs.map B8 ++ marks 5) ∧ Only (fun _ => False) w w' := by
  have hmk := make_room n (n + 5) (by omega) (by omega)
  rw [show ((n + 5 : Nat) : Int) = (n : Int) + 5 from by omega] at hmk
  have hxl := Lib.hid hs.1
  go_enter Tryd.func10, Tryd.ntmps10
  have HO := Lib.hid ((Only.refl (fun _ => False) w).alloc (.cells (zeros (n + 5)).toArray 5))
  have hN := Blk.new w 5 (zeros (n + 5))
  have hs1 := hs.only HO.out (fun _ _ _ h => h)
  go_wp2_with ((with_reducible show wpList _ _ _ (⟨some 13, _, _, _, _, _⟩ :: _) _ _); refine step_copy rfl (.tmp 11) (.tmp 12) 34 34 rfl 5 Tryd.underlying34 size_byte _ _ _ _ _ _ rfl rfl w.heap.size 0 (zeros (n + 5)) 5 hN xs (by show _ = min _ _; rw [hxl.out]; omega) (fun _ => ⟨rfl, by rw [hxl.out]; exact hs1⟩) (by rw [length_zeros, hxl.out]; omega) ?_; intro w1 hB1 hz1 ho1)
  have hrel0 : Blk w1 w.heap.size 5 (xs.map B8 ++ (marks 0 ++ zeros (5 - 0))) ∧ Only (fun _ => False) w w1 := by
    refine ⟨?_, HO.out.trans ho1 (fun i hi => .inr (by omega))⟩
    have := hB1.out
    have e : splice (zeros (n + 5)) 0 (xs.map B8) = xs.map B8 ++ (marks 0 ++ zeros (5 - 0)) := by
      unfold splice
      rw [List.take_zero, List.nil_append, Nat.zero_add, List.length_map, hxl.out]
      simp [zeros, marks]
    rw [e] at this
    exact this
  clear hB1 hz1 ho1 hN hs1 HO hmk
  obtain ⟨N, hNe⟩ : ∃ N, N = w.heap.size := ⟨_, rfl⟩
  rw [← hNe] at hrel0 ⊢
  have HNe := Lib.hid hNe
  have H0 := Lib.hid hrel0
  clear hNe hrel0
  go_loopw [22] (fun i W => ∃ k : Nat, k ≤ 5 ∧ i = .int .i64 (k : Int) ∧ Hid (Blk W N 5 (xs.map B8 ++ (marks k ++ zeros (5 - k))) ∧ Only (fun x => x = N) w1 W)) (fun i _ => 5 - (intOf i).toNat)
  case atStart => exact ⟨0, Nat.zero_le _, rfl, H0.out.1, Only.refl _ _⟩
  case round =>
    obtain ⟨k, hk, rfl, hrel⟩ := hrel
    by_cases hlt : k < 5
    · have hl : (xs.map B8).length = n := by rw [List.length_map, hxl.out]
      have hc : ∃ v, wr.cell? ⟨N, n + k, none⟩ = some v := by
        rw [hrel.out.1.cell]
        exact ⟨_, List.getElem?_eq_getElem (by simp only [List.length_append, length_marks, length_zeros, hl]; omega)⟩
      obtain ⟨v, hc⟩ := hc
      have hfz := hrel.out.1.frozen (n + k)
      have HB := Lib.hid hrel.out.1
      have HOr := Lib.hid hrel.out.2
      have Hl := Lib.hid hl
      clear hrel hl
      go_wp2
      go_roundw
      case rel =>
        refine ⟨k + 1, by omega, by go_num, ?_⟩
        have := HB.out.setCell (n + k) (.int .u8 90)
        rw [set_mark _ n k Hl.out hlt] at this
        exact ⟨this, HOr.out.setCell (p := ⟨N, n + k, none⟩) (.inl rfl) _⟩
      case measure => simp [intOf]; omega
    · go_wp2
      go_ret
      obtain rfl : k = 5 := by omega
      have h1 := hrel.out.1
      simp only [Nat.sub_self] at h1
      have e : marks 5 ++ zeros 0 = marks 5 := by simp [zeros]
      rw [e] at h1
      rw [← HNe.out]
      exact ⟨rfl, h1, H0.out.2.trans hrel.out.2 (fun i hi => .inr (by have := HNe.out; omega))⟩

/-- Kept: the copy, and the room behind it, are as they were. -/
theorem kept_any {w : World} {A : Option Addr} {n N : Nat} {xs : List UInt8} (hs : Src w A n xs) (c : Nat) (hn : n ≤ 1048576) (hb : Blk w N 5 (xs.map B8 ++ marks 5)) :
    Calls Tryd.prog 13 #[.slice (some ⟨N, 0, none⟩) n (n + 5), .slice A n c] w fun e w' => e = .returned (.bool true) ∧ w = w' := by
  have hxl := Lib.hid hs.1
  have HS := Lib.hid hs
  have HB := Lib.hid hb
  clear hs hb
  go_enter Tryd.func13, Tryd.ntmps13
  go_wp2_with fail
  go_loop [18] (fun i => ∃ k : Nat, k ≤ n + 5 ∧ i = .int .i64 (k : Int)) (fun i => n + 5 - (intOf i).toNat)
  case atStart => exact ⟨0, Nat.zero_le _, rfl⟩
  case round =>
    obtain ⟨k, hk, rfl⟩ := hrel
    by_cases hlt : k < n + 5
    · by_cases hkn : k < n
      · obtain ⟨x, hx⟩ : ∃ x, xs[k]? = some x := ⟨_, List.getElem?_eq_getElem (by rw [hxl.out]; exact hkn)⟩
        have c0 : w.cell? ⟨N, k, none⟩ = some (.int .u8 (x.toNat : Int)) := by
          rw [HB.out.cell, List.getElem?_append_left (by rw [List.length_map, hxl.out]; exact hkn), List.getElem?_map, hx]; rfl
        obtain ⟨ad, rfl, hc⟩ := HS.out.2 (by omega)
        have c1 : w.cell? (ad.add k) = some (.int .u8 (x.toNat : Int)) := hc k x hx
        clear hc hx
        go_wp2
        go_round
        case rel => exact ⟨k + 1, by omega, by go_num⟩
        case measure => simp [intOf]; omega
      · have c0 : w.cell? ⟨N, k, none⟩ = some (.int .u8 90) := by
          rw [HB.out.cell, List.getElem?_append_right (by rw [List.length_map, hxl.out]; omega), List.length_map, hxl.out]
          unfold marks
          rw [List.getElem?_replicate, if_pos (by omega)]
        go_wp2
        go_round
        case rel => exact ⟨k + 1, by omega, by go_num⟩
        case measure => simp [intOf]; omega
    · go_wp2
      go_ret
      exact ⟨rfl, rfl⟩
end Go.Proofs.YtgknhojjnnljkaaDoor
