/- Whether a text is a type: the program's Right, the document's Right. -/
import Derived.Test.YtjdfdgmfkpdfbaaDoorTtSay
namespace Go.Proofs.YtjdfdgmfkpdfbaaDoor
open Go Go.RowKit
set_option maxRecDepth 100000
set_option maxHeartbeats 4000000

theorem right_any (w : World) (s : List UInt8) : Calls Tryd.prog 20 #[.string ⟨s.toArray⟩] w fun e w' => e = .returned (.bool (okT s)) ∧ w' = w := by
  obtain ⟨F, hF⟩ : ∃ F, F = okT s := ⟨_, rfl⟩
  have HF := Lib.hid hF
  rw [← hF]
  clear hF
  obtain ⟨n, hn⟩ : ∃ n, n = s.length := ⟨_, rfl⟩
  have hz : (ByteArray.mk s.toArray).size = n := by rw [hn]; rfl
  have HN := Lib.hid hn
  clear hn
  rcases (by omega : n < 1 ∨ 24 < n ∨ (1 ≤ n ∧ n ≤ 24)) with h | h | ⟨h, h'⟩
  · have hd : decide ((n : Int) < 1) = true := by simp; omega
    go_enter Tryd.func20, Tryd.ntmps20
    go_wp2
    go_ret
    refine ⟨?_, rfl⟩
    obtain rfl : s = [] := List.eq_nil_of_length_eq_zero (by have := HN.out; omega)
    rw [HF.out]
    rfl
  · have hd : decide ((n : Int) < 1) = false := by simp; omega
    have hd2 : decide ((24 : Int) < (n : Int)) = true := by simp; omega
    go_enter Tryd.func20, Tryd.ntmps20
    go_wp2
    go_ret
    refine ⟨?_, rfl⟩
    rw [HF.out, okT_long (by have := HN.out; omega)]
    rfl
  · have hd : decide ((n : Int) < 1) = false := by simp; omega
    have hd2 : decide ((24 : Int) < (n : Int)) = false := by simp; omega
    go_enter Tryd.func20, Tryd.ntmps20
    go_wp2
    go_loop [14] (fun i => ∃ k : Nat, k ≤ n ∧ i = .int .i64 (k : Int) ∧ Hid (Good s k)) (fun i => n - (intOf i).toNat)
    case atStart => exact ⟨0, Nat.zero_le _, rfl, Good.zero _⟩
    case round =>
      obtain ⟨k, hk, rfl, HD⟩ := hrel
      by_cases hlt : k < n
      · obtain ⟨x, hx⟩ : ∃ x, s[k]? = some x := ⟨_, List.getElem?_eq_getElem (by rw [← HN.out]; exact hlt)⟩
        have hg := str_get hx
        have HX := Lib.hid hx
        clear hx
        have hb := x.toNat_lt
        rcases (by omega : x.toNat < 33 ∨ 126 < x.toNat ∨ (33 ≤ x.toNat ∧ x.toNat ≤ 126)) with h1 | h1 | ⟨h1, h2⟩
        · have hd3 : decide ((x.toNat : Int) < 33) = true := by simp; omega
          have HB : Hid (okB x = false) := by rw [Hid, ← Bool.not_eq_true, okB_iff]; omega
          go_wp2
          go_ret
          refine ⟨?_, rfl⟩
          rw [HF.out, okT_bad HX.out HB.out]
          rfl
        · have hd3 : decide ((x.toNat : Int) < 33) = false := by simp; omega
          have hd4 : decide ((126 : Int) < (x.toNat : Int)) = true := by simp; omega
          have HB : Hid (okB x = false) := by rw [Hid, ← Bool.not_eq_true, okB_iff]; omega
          go_wp2
          go_ret
          refine ⟨?_, rfl⟩
          rw [HF.out, okT_bad HX.out HB.out]
          rfl
        · have hd3 : decide ((x.toNat : Int) < 33) = false := by simp; omega
          have hd4 : decide ((126 : Int) < (x.toNat : Int)) = false := by simp; omega
          have HB : Hid (okB x = true) := by rw [Hid, okB_iff]; omega
          go_wp2
          go_round
          case rel => exact ⟨k + 1, by omega, by go_num, HD.out.succ HX.out HB.out⟩
          case measure => simp [intOf]; omega
      · obtain rfl : k = n := by omega
        go_wp2
        go_ret
        refine ⟨?_, rfl⟩
        rw [HF.out, HD.out.all HN.out h h']
        rfl
theorem rRight_any (w : World) (s : List UInt8) : Calls Tryd.prog 14 #[.string ⟨s.toArray⟩] w fun e w' => e = .returned (.bool (okT s)) ∧ w' = w := by
  obtain ⟨F, hF⟩ : ∃ F, F = okT s := ⟨_, rfl⟩
  have HF := Lib.hid hF
  rw [← hF]
  clear hF
  obtain ⟨n, hn⟩ : ∃ n, n = s.length := ⟨_, rfl⟩
  have hz : (ByteArray.mk s.toArray).size = n := by rw [hn]; rfl
  have HN := Lib.hid hn
  clear hn
  rcases (by omega : n < 1 ∨ 24 < n ∨ (1 ≤ n ∧ n ≤ 24)) with h | h | ⟨h, h'⟩
  · have hd : decide ((n : Int) < 1) = true := by simp; omega
    go_enter Tryd.func14, Tryd.ntmps14
    go_wp2
    go_ret
    refine ⟨?_, rfl⟩
    obtain rfl : s = [] := List.eq_nil_of_length_eq_zero (by have := HN.out; omega)
    rw [HF.out]
    rfl
  · have hd : decide ((n : Int) < 1) = false := by simp; omega
    have hd2 : decide ((24 : Int) < (n : Int)) = true := by simp; omega
    go_enter Tryd.func14, Tryd.ntmps14
    go_wp2
    go_ret
    refine ⟨?_, rfl⟩
    rw [HF.out, okT_long (by have := HN.out; omega)]
    rfl
  · have hd : decide ((n : Int) < 1) = false := by simp; omega
    have hd2 : decide ((24 : Int) < (n : Int)) = false := by simp; omega
    go_enter Tryd.func14, Tryd.ntmps14
    go_wp2
    go_loop [3] (fun i => ∃ k : Nat, k ≤ n ∧ i = .int .i64 (k : Int) ∧ Hid (Good s k)) (fun i => n - (intOf i).toNat)
    case atStart => exact ⟨0, Nat.zero_le _, rfl, Good.zero _⟩
    case round =>
      obtain ⟨k, hk, rfl, HD⟩ := hrel
      by_cases hlt : k < n
      · obtain ⟨x, hx⟩ : ∃ x, s[k]? = some x := ⟨_, List.getElem?_eq_getElem (by rw [← HN.out]; exact hlt)⟩
        have hg := str_get hx
        have HX := Lib.hid hx
        clear hx
        have hb := x.toNat_lt
        rcases (by omega : x.toNat < 33 ∨ 126 < x.toNat ∨ (33 ≤ x.toNat ∧ x.toNat ≤ 126)) with h1 | h1 | ⟨h1, h2⟩
        · have hd3 : decide ((x.toNat : Int) ≤ 32) = true := by simp; omega
          have HB : Hid (okB x = false) := by rw [Hid, ← Bool.not_eq_true, okB_iff]; omega
          go_wp2
          go_ret
          refine ⟨?_, rfl⟩
          rw [HF.out, okT_bad HX.out HB.out]
          rfl
        · have hd3 : decide ((x.toNat : Int) ≤ 32) = false := by simp; omega
          have hd4 : decide ((127 : Int) ≤ (x.toNat : Int)) = true := by simp; omega
          have HB : Hid (okB x = false) := by rw [Hid, ← Bool.not_eq_true, okB_iff]; omega
          go_wp2
          go_ret
          refine ⟨?_, rfl⟩
          rw [HF.out, okT_bad HX.out HB.out]
          rfl
        · have hd3 : decide ((x.toNat : Int) ≤ 32) = false := by simp; omega
          have hd4 : decide ((127 : Int) ≤ (x.toNat : Int)) = false := by simp; omega
          have HB : Hid (okB x = true) := by rw [Hid, okB_iff]; omega
          go_wp2
          go_round
          case rel => exact ⟨k + 1, by omega, by go_num, HD.out.succ HX.out HB.out⟩
          case measure => simp [intOf]; omega
      · obtain rfl : k = n := by omega
        go_wp2
        go_ret
        refine ⟨?_, rfl⟩
        rw [HF.out, HD.out.all HN.out h h']
        rfl
end Go.Proofs.YtjdfdgmfkpdfbaaDoor
