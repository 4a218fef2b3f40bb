/- The document's Both: the bits that are in both. -/
import Derived.Test.YtefcgbkbgkllaaaDoorMdRef
import Derived.Test.YtefcgbkbgkllaaaDoorAlloc
namespace Go.Proofs.YtefcgbkbgkllaaaDoor
open Go Go.RowKit
set_option maxRecDepth 100000
set_option maxHeartbeats 4000000

theorem hasB_at {m : Int} (k : Nat) (b : Int) (hb : bitV k = b) : ((m / b) % 2 == 1) = hasB m k := by
  subst hb
  rfl
theorem mrBoth_any (w : World) {a : Int} (can : Int) (ha : isMask a = true) :
    Calls Tryd.prog 19 #[.int .i64 a, .int .i64 can] w fun e w' => e = .returned (.int .i64 (both a (canOf can))) ∧ Hid (Only (fun _ => False) w w') := by
  obtain ⟨h0, h32, _⟩ := isMask_iff.1 ha
  have HB := Lib.hid (Blk.new w 3 [.int .i64 1, .int .i64 2, .int .i64 8, .int .i64 16])
  have HC := Lib.hid (fun k hk => can_has can k hk)
  have HO := Lib.hid ((Only.refl (fun _ => False) w).alloc (.cells #[.int .i64 1, .int .i64 2, .int .i64 8, .int .i64 16] 3))
  clear ha
  go_enter Tryd.func19, Tryd.ntmps19
  go_wp2
  generalize w.alloc (.cells #[.int .i64 1, .int .i64 2, .int .i64 8, .int .i64 16] 3) = w1 at *
  generalize w.heap.size = N at *
  have c0 : w1.cell? ⟨N, 0, none⟩ = some (.int .i64 1) := HB.out.cell 0
  have c1 : w1.cell? ⟨N, 1, none⟩ = some (.int .i64 2) := HB.out.cell 1
  have c2 : w1.cell? ⟨N, 2, none⟩ = some (.int .i64 8) := HB.out.cell 2
  have c3 : w1.cell? ⟨N, 3, none⟩ = some (.int .i64 16) := HB.out.cell 3
  go_loop [5, 10] (fun v i => ∃ (k : Nat) (z : Int), k ≤ 4 ∧ 0 ≤ z ∧ z ≤ 16 * k ∧ v = .int .i64 z ∧ i = .int .i64 (k : Int) ∧ Hid (z = bothTo a (canOf can) k)) (fun _ i => 4 - (intOf i).toNat)
  case atStart => exact ⟨0, 0, by omega, by omega, by omega, rfl, rfl, rfl⟩
  case round =>
    obtain ⟨k, z, hk, hz0, hz1, rfl, rfl, HZ⟩ := hrel
    rcases (by omega : k = 0 ∨ k = 1 ∨ k = 2 ∨ k = 3 ∨ k = 4) with rfl | rfl | rfl | rfl | rfl
    · obtain ⟨P, hP⟩ : ∃ P, P = hasB a 0 := ⟨_, rfl⟩
      obtain ⟨Q, hQ⟩ : ∃ Q, Q = hasB (canOf can) 0 := ⟨_, rfl⟩
      have p1 : (a % 2 == 1) = P := by
        rw [hP, Bool.eq_iff_iff, beq_iff_eq, hasB, decide_eq_true_iff, show bitV 0 = 1 from rfl] <;> omega
      have q1 : (bits .and .i64 can 1 == 0) = !Q := by rw [hQ]; exact HC.out 0 (by omega)
      have q2 : (bits .and .i64 can 1 != 0) = Q := by
        unfold bne
        rw [q1, Bool.not_not]
      have HS : Hid (bothTo a (canOf can) 1 = z + if P && Q then 1 else 0) := by
        have h := HZ.out
        show bothTo a (canOf can) 0 + _ = _
        rw [← h, hP, hQ]
        rfl
      clear hP hQ HZ
      cases P <;> cases Q
      all_goals
        simp only [Bool.not_true, Bool.not_false] at q1
        go_wp2
        go_round
        case rel => exact ⟨1, _, by omega, by omega, by omega, rfl, by go_num, Lib.hid (by have h := HS.out; simp only [Bool.and_true, Bool.and_false, Bool.true_and, Bool.false_and, if_true, if_false, Bool.false_eq_true, Int.add_zero] at h; exact h.symm)⟩
        case measure => simp [intOf]
    · obtain ⟨P, hP⟩ : ∃ P, P = hasB a 1 := ⟨_, rfl⟩
      obtain ⟨Q, hQ⟩ : ∃ Q, Q = hasB (canOf can) 1 := ⟨_, rfl⟩
      have p1 : (a / 2 % 2 == 1) = P := by
        rw [hP, Bool.eq_iff_iff, beq_iff_eq, hasB, decide_eq_true_iff, show bitV 1 = 2 from rfl] <;> omega
      have q1 : (bits .and .i64 can 2 == 0) = !Q := by rw [hQ]; exact HC.out 1 (by omega)
      have q2 : (bits .and .i64 can 2 != 0) = Q := by
        unfold bne
        rw [q1, Bool.not_not]
      have HS : Hid (bothTo a (canOf can) 2 = z + if P && Q then 2 else 0) := by
        have h := HZ.out
        show bothTo a (canOf can) 1 + _ = _
        rw [← h, hP, hQ]
        rfl
      clear hP hQ HZ
      cases P <;> cases Q
      all_goals
        simp only [Bool.not_true, Bool.not_false] at q1
        go_wp2
        go_round
        case rel => exact ⟨2, _, by omega, by omega, by omega, rfl, by go_num, Lib.hid (by have h := HS.out; simp only [Bool.and_true, Bool.and_false, Bool.true_and, Bool.false_and, if_true, if_false, Bool.false_eq_true, Int.add_zero] at h; exact h.symm)⟩
        case measure => simp [intOf]
    · obtain ⟨P, hP⟩ : ∃ P, P = hasB a 2 := ⟨_, rfl⟩
      obtain ⟨Q, hQ⟩ : ∃ Q, Q = hasB (canOf can) 2 := ⟨_, rfl⟩
      have p1 : (a / 8 % 2 == 1) = P := by
        rw [hP, Bool.eq_iff_iff, beq_iff_eq, hasB, decide_eq_true_iff, show bitV 2 = 8 from rfl] <;> omega
      have q1 : (bits .and .i64 can 8 == 0) = !Q := by rw [hQ]; exact HC.out 2 (by omega)
      have q2 : (bits .and .i64 can 8 != 0) = Q := by
        unfold bne
        rw [q1, Bool.not_not]
      have HS : Hid (bothTo a (canOf can) 3 = z + if P && Q then 8 else 0) := by
        have h := HZ.out
        show bothTo a (canOf can) 2 + _ = _
        rw [← h, hP, hQ]
        rfl
      clear hP hQ HZ
      cases P <;> cases Q
      all_goals
        simp only [Bool.not_true, Bool.not_false] at q1
        go_wp2
        go_round
        case rel => exact ⟨3, _, by omega, by omega, by omega, rfl, by go_num, Lib.hid (by have h := HS.out; simp only [Bool.and_true, Bool.and_false, Bool.true_and, Bool.false_and, if_true, if_false, Bool.false_eq_true, Int.add_zero] at h; exact h.symm)⟩
        case measure => simp [intOf]
    · obtain ⟨P, hP⟩ : ∃ P, P = hasB a 3 := ⟨_, rfl⟩
      obtain ⟨Q, hQ⟩ : ∃ Q, Q = hasB (canOf can) 3 := ⟨_, rfl⟩
      have p1 : (a / 16 % 2 == 1) = P := by
        rw [hP, Bool.eq_iff_iff, beq_iff_eq, hasB, decide_eq_true_iff, show bitV 3 = 16 from rfl] <;> omega
      have q1 : (bits .and .i64 can 16 == 0) = !Q := by rw [hQ]; exact HC.out 3 (by omega)
      have q2 : (bits .and .i64 can 16 != 0) = Q := by
        unfold bne
        rw [q1, Bool.not_not]
      have HS : Hid (bothTo a (canOf can) 4 = z + if P && Q then 16 else 0) := by
        have h := HZ.out
        show bothTo a (canOf can) 3 + _ = _
        rw [← h, hP, hQ]
        rfl
      clear hP hQ HZ
      cases P <;> cases Q
      all_goals
        simp only [Bool.not_true, Bool.not_false] at q1
        go_wp2
        go_round
        case rel => exact ⟨4, _, by omega, by omega, by omega, rfl, by go_num, Lib.hid (by have h := HS.out; simp only [Bool.and_true, Bool.and_false, Bool.true_and, Bool.false_and, if_true, if_false, Bool.false_eq_true, Int.add_zero] at h; exact h.symm)⟩
        case measure => simp [intOf]
    · go_wp2
      go_ret
      refine ⟨?_, HO.out⟩
      rw [HZ.out]
      rfl
end Go.Proofs.YtefcgbkbgkllaaaDoor
