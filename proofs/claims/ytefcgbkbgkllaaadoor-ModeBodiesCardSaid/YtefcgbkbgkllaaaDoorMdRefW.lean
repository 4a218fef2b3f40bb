/- The document's words of a mask. -/
import Derived.Test.YtefcgbkbgkllaaaDoorMdRef
import Derived.Test.YtefcgbkbgkllaaaDoorAlloc
namespace Go.Proofs.YtefcgbkbgkllaaaDoor
open Go Go.RowKit
set_option maxRecDepth 100000
set_option maxHeartbeats 4000000

theorem textTo_skip {m : Int} {k : Nat} (h : hasB m k = false) : textTo m (k + 1) = textTo m k := by simp [textTo, h]
theorem textTo_first {m : Int} {k : Nat} (h : hasB m k = true) (h0 : textTo m k = []) : textTo m (k + 1) = wordM k := by simp [textTo, h, h0]
theorem textTo_more {m : Int} {k : Nat} (h : hasB m k = true) (h0 : textTo m k ≠ []) : textTo m (k + 1) = (textTo m k ++ [43]) ++ wordM k := by simp [textTo, h, h0]
theorem sum_any {P : Program} (x y z : List UInt8) (h : x ++ y = z) (hl : x.length + y.length ≤ 9223372036854775807) : ∀ W, (Op.stringOp .add (ByteArray.mk x.toArray) (ByteArray.mk y.toArray)).run P W = .ok (.string (ByteArray.mk z.toArray)) W := fun _ => sum_texts x y z h hl
theorem mrWords_any (w : World) {m : Int} (hm : isMask m = true) :
    Calls Tryd.prog 10 #[.int .i64 m] w fun e w' => e = .returned (.string ⟨(textM m).toArray⟩) ∧ Hid (Only (fun _ => False) w w') := by
  obtain ⟨h0, h32, _⟩ := isMask_iff.1 hm
  have HB := Lib.hid (Blk.new w 3 [.int .i64 1, .int .i64 2, .int .i64 8, .int .i64 16])
  have HO := Lib.hid ((Only.refl (fun _ => False) w).alloc (.cells #[.int .i64 1, .int .i64 2, .int .i64 8, .int .i64 16] 3))
  clear hm
  go_enter Tryd.func10, Tryd.ntmps10
  go_wp2
  generalize w.alloc (.cells #[.int .i64 1, .int .i64 2, .int .i64 8, .int .i64 16] 3) = w1 at *
  generalize w.heap.size = N at *
  go_loopw [3, 8] (fun v i W => ∃ (k : Nat) (ts : List UInt8), k ≤ 4 ∧ v = .string ⟨ts.toArray⟩ ∧ i = .int .i64 (k : Int) ∧ Hid (ts = textTo m k ∧ ts.length ≤ 5 * k ∧ Only (fun _ => False) w1 W)) (fun _ i _ => 4 - (intOf i).toNat)
  case atStart => exact ⟨0, [], by omega, rfl, rfl, rfl, Nat.le_refl _, Only.refl _ _⟩
  case round =>
    obtain ⟨k, ts, hk, rfl, rfl, HZ⟩ := hrel
    have HB1 := Lib.hid (HB.out.only HZ.out.2.2 (fun h => h))
    have c0 : wr.cell? ⟨N, 0, none⟩ = some (.int .i64 1) := HB1.out.cell 0
    have c1 : wr.cell? ⟨N, 1, none⟩ = some (.int .i64 2) := HB1.out.cell 1
    have c2 : wr.cell? ⟨N, 2, none⟩ = some (.int .i64 8) := HB1.out.cell 2
    have c3 : wr.cell? ⟨N, 3, none⟩ = some (.int .i64 16) := HB1.out.cell 3
    obtain ⟨n, hn⟩ : ∃ n, n = ts.length := ⟨_, rfl⟩
    have hz : (ByteArray.mk ts.toArray).size = n := by rw [hn]; rfl
    have hn20 : n ≤ 20 := by have := HZ.out.2.1; omega
    have HN := Lib.hid hn
    clear hn
    rcases (by omega : k = 0 ∨ k = 1 ∨ k = 2 ∨ k = 3 ∨ k = 4) with rfl | rfl | rfl | rfl | rfl
    · cases hP : hasB m 0 with
      | false =>
        have p1 : (m % 2 == 1) = false := by
          rw [← hP, Bool.eq_iff_iff, beq_iff_eq, hasB, decide_eq_true_iff, show bitV 0 = 1 from rfl] <;> omega
        have HP := Lib.hid hP
        clear hP
        go_wp2
        go_roundw
        case rel => exact ⟨1, ts, by omega, rfl, by go_num, by rw [textTo_skip HP.out]; exact HZ.out.1, by have := HZ.out.2.1; omega, HZ.out.2.2⟩
        case measure => simp [intOf]
      | true =>
        have p1 : (m % 2 == 1) = true := by
          rw [← hP, Bool.eq_iff_iff, beq_iff_eq, hasB, decide_eq_true_iff, show bitV 0 = 1 from rfl] <;> omega
        have HP := Lib.hid hP
        clear hP
        by_cases h : n = 0
        · subst h
          have HE : Hid (ts = []) := List.eq_nil_of_length_eq_zero HN.out.symm
          obtain ⟨V, hV⟩ : ∃ V, V = wordM 0 := ⟨_, rfl⟩
          have hsum : ∀ W, (Op.stringOp .add (ByteArray.mk ts.toArray) (ByteArray.mk #[101, 100, 105, 116])).run Tryd.prog W = .ok (.string (ByteArray.mk V.toArray)) W := sum_any (P := Tryd.prog) ts (wordM 0) V (by rw [HE.out, hV]; rfl) (by rw [HE.out]; decide)
          have HU : Hid (V = textTo m 1) := by
            have e := textTo_first HP.out (by rw [← HZ.out.1]; exact HE.out)
            rw [← hV] at e
            exact e.symm
          have HL : Hid (V.length ≤ 5 * 1) := by
            rw [hV]
            exact show (wordM 0).length ≤ 5 * 1 from by decide
          clear hV
          go_wp2
          go_roundw
          case rel => exact ⟨1, V, by omega, rfl, by go_num, HU.out, HL.out, HZ.out.2.2.alloc _⟩
          case measure => simp [intOf]
        · have hd : 0 < n := by omega
          obtain ⟨U, hU⟩ : ∃ U, U = ts ++ [43] := ⟨_, rfl⟩
          obtain ⟨V, hV⟩ : ∃ V, V = U ++ wordM 0 := ⟨_, rfl⟩
          have hs1 : ∀ W, (Op.stringOp .add (ByteArray.mk ts.toArray) (ByteArray.mk #[43])).run Tryd.prog W = .ok (.string (ByteArray.mk U.toArray)) W := sum_any (P := Tryd.prog) ts [43] U hU.symm (by have := HN.out; simp; omega)
          have hs2 : ∀ W, (Op.stringOp .add (ByteArray.mk U.toArray) (ByteArray.mk #[101, 100, 105, 116])).run Tryd.prog W = .ok (.string (ByteArray.mk V.toArray)) W := sum_any (P := Tryd.prog) U (wordM 0) V hV.symm (by have := HN.out; rw [hU]; simp [wordM]; omega)
          have HU : Hid (V = textTo m 1) := by
            have hne : textTo m 0 ≠ [] := by
              rw [← HZ.out.1]
              intro e
              have := HN.out
              rw [e] at this
              exact h this
            have e := textTo_more HP.out hne
            rw [← HZ.out.1, ← hU, ← hV] at e
            exact e.symm
          have HL : Hid (V.length ≤ 5 * 1) := by
            have h1 := HZ.out.2.1
            have : V.length = ts.length + 1 + (wordM 0).length := by rw [hV, hU]; simp; omega
            have h4 : (wordM 0).length ≤ 4 := by decide
            show _ ≤ _
            omega
          clear hU hV h
          go_wp2
          go_roundw
          case rel => exact ⟨1, V, by omega, rfl, by go_num, HU.out, HL.out, HZ.out.2.2.alloc _⟩
          case measure => simp [intOf]
    · cases hP : hasB m 1 with
      | false =>
        have p1 : (m / 2 % 2 == 1) = false := by
          rw [← hP, Bool.eq_iff_iff, beq_iff_eq, hasB, decide_eq_true_iff, show bitV 1 = 2 from rfl] <;> omega
        have HP := Lib.hid hP
        clear hP
        go_wp2
        go_roundw
        case rel => exact ⟨2, ts, by omega, rfl, by go_num, by rw [textTo_skip HP.out]; exact HZ.out.1, by have := HZ.out.2.1; omega, HZ.out.2.2⟩
        case measure => simp [intOf]
      | true =>
        have p1 : (m / 2 % 2 == 1) = true := by
          rw [← hP, Bool.eq_iff_iff, beq_iff_eq, hasB, decide_eq_true_iff, show bitV 1 = 2 from rfl] <;> omega
        have HP := Lib.hid hP
        clear hP
        by_cases h : n = 0
        · subst h
          have HE : Hid (ts = []) := List.eq_nil_of_length_eq_zero HN.out.symm
          obtain ⟨V, hV⟩ : ∃ V, V = wordM 1 := ⟨_, rfl⟩
          have hsum : ∀ W, (Op.stringOp .add (ByteArray.mk ts.toArray) (ByteArray.mk #[116, 114, 97, 112])).run Tryd.prog W = .ok (.string (ByteArray.mk V.toArray)) W := sum_any (P := Tryd.prog) ts (wordM 1) V (by rw [HE.out, hV]; rfl) (by rw [HE.out]; decide)
          have HU : Hid (V = textTo m 2) := by
            have e := textTo_first HP.out (by rw [← HZ.out.1]; exact HE.out)
            rw [← hV] at e
            exact e.symm
          have HL : Hid (V.length ≤ 5 * 2) := by
            rw [hV]
            exact show (wordM 1).length ≤ 5 * 2 from by decide
          clear hV
          go_wp2
          go_roundw
          case rel => exact ⟨2, V, by omega, rfl, by go_num, HU.out, HL.out, HZ.out.2.2.alloc _⟩
          case measure => simp [intOf]
        · have hd : 0 < n := by omega
          obtain ⟨U, hU⟩ : ∃ U, U = ts ++ [43] := ⟨_, rfl⟩
          obtain ⟨V, hV⟩ : ∃ V, V = U ++ wordM 1 := ⟨_, rfl⟩
          have hs1 : ∀ W, (Op.stringOp .add (ByteArray.mk ts.toArray) (ByteArray.mk #[43])).run Tryd.prog W = .ok (.string (ByteArray.mk U.toArray)) W := sum_any (P := Tryd.prog) ts [43] U hU.symm (by have := HN.out; simp; omega)
          have hs2 : ∀ W, (Op.stringOp .add (ByteArray.mk U.toArray) (ByteArray.mk #[116, 114, 97, 112])).run Tryd.prog W = .ok (.string (ByteArray.mk V.toArray)) W := sum_any (P := Tryd.prog) U (wordM 1) V hV.symm (by have := HN.out; rw [hU]; simp [wordM]; omega)
          have HU : Hid (V = textTo m 2) := by
            have hne : textTo m 1 ≠ [] := by
              rw [← HZ.out.1]
              intro e
              have := HN.out
              rw [e] at this
              exact h this
            have e := textTo_more HP.out hne
            rw [← HZ.out.1, ← hU, ← hV] at e
            exact e.symm
          have HL : Hid (V.length ≤ 5 * 2) := by
            have h1 := HZ.out.2.1
            have : V.length = ts.length + 1 + (wordM 1).length := by rw [hV, hU]; simp; omega
            have h4 : (wordM 1).length ≤ 4 := by decide
            show _ ≤ _
            omega
          clear hU hV h
          go_wp2
          go_roundw
          case rel => exact ⟨2, V, by omega, rfl, by go_num, HU.out, HL.out, HZ.out.2.2.alloc _⟩
          case measure => simp [intOf]
    · cases hP : hasB m 2 with
      | false =>
        have p1 : (m / 8 % 2 == 1) = false := by
          rw [← hP, Bool.eq_iff_iff, beq_iff_eq, hasB, decide_eq_true_iff, show bitV 2 = 8 from rfl] <;> omega
        have HP := Lib.hid hP
        clear hP
        go_wp2
        go_roundw
        case rel => exact ⟨3, ts, by omega, rfl, by go_num, by rw [textTo_skip HP.out]; exact HZ.out.1, by have := HZ.out.2.1; omega, HZ.out.2.2⟩
        case measure => simp [intOf]
      | true =>
        have p1 : (m / 8 % 2 == 1) = true := by
          rw [← hP, Bool.eq_iff_iff, beq_iff_eq, hasB, decide_eq_true_iff, show bitV 2 = 8 from rfl] <;> omega
        have HP := Lib.hid hP
        clear hP
        by_cases h : n = 0
        · subst h
          have HE : Hid (ts = []) := List.eq_nil_of_length_eq_zero HN.out.symm
          obtain ⟨V, hV⟩ : ∃ V, V = wordM 2 := ⟨_, rfl⟩
          have hsum : ∀ W, (Op.stringOp .add (ByteArray.mk ts.toArray) (ByteArray.mk #[115, 111, 102, 116])).run Tryd.prog W = .ok (.string (ByteArray.mk V.toArray)) W := sum_any (P := Tryd.prog) ts (wordM 2) V (by rw [HE.out, hV]; rfl) (by rw [HE.out]; decide)
          have HU : Hid (V = textTo m 3) := by
            have e := textTo_first HP.out (by rw [← HZ.out.1]; exact HE.out)
            rw [← hV] at e
            exact e.symm
          have HL : Hid (V.length ≤ 5 * 3) := by
            rw [hV]
            exact show (wordM 2).length ≤ 5 * 3 from by decide
          clear hV
          go_wp2
          go_roundw
          case rel => exact ⟨3, V, by omega, rfl, by go_num, HU.out, HL.out, HZ.out.2.2.alloc _⟩
          case measure => simp [intOf]
        · have hd : 0 < n := by omega
          obtain ⟨U, hU⟩ : ∃ U, U = ts ++ [43] := ⟨_, rfl⟩
          obtain ⟨V, hV⟩ : ∃ V, V = U ++ wordM 2 := ⟨_, rfl⟩
          have hs1 : ∀ W, (Op.stringOp .add (ByteArray.mk ts.toArray) (ByteArray.mk #[43])).run Tryd.prog W = .ok (.string (ByteArray.mk U.toArray)) W := sum_any (P := Tryd.prog) ts [43] U hU.symm (by have := HN.out; simp; omega)
          have hs2 : ∀ W, (Op.stringOp .add (ByteArray.mk U.toArray) (ByteArray.mk #[115, 111, 102, 116])).run Tryd.prog W = .ok (.string (ByteArray.mk V.toArray)) W := sum_any (P := Tryd.prog) U (wordM 2) V hV.symm (by have := HN.out; rw [hU]; simp [wordM]; omega)
          have HU : Hid (V = textTo m 3) := by
            have hne : textTo m 2 ≠ [] := by
              rw [← HZ.out.1]
              intro e
              have := HN.out
              rw [e] at this
              exact h this
            have e := textTo_more HP.out hne
            rw [← HZ.out.1, ← hU, ← hV] at e
            exact e.symm
          have HL : Hid (V.length ≤ 5 * 3) := by
            have h1 := HZ.out.2.1
            have : V.length = ts.length + 1 + (wordM 2).length := by rw [hV, hU]; simp; omega
            have h4 : (wordM 2).length ≤ 4 := by decide
            show _ ≤ _
            omega
          clear hU hV h
          go_wp2
          go_roundw
          case rel => exact ⟨3, V, by omega, rfl, by go_num, HU.out, HL.out, HZ.out.2.2.alloc _⟩
          case measure => simp [intOf]
    · cases hP : hasB m 3 with
      | false =>
        have p1 : (m / 16 % 2 == 1) = false := by
          rw [← hP, Bool.eq_iff_iff, beq_iff_eq, hasB, decide_eq_true_iff, show bitV 3 = 16 from rfl] <;> omega
        have HP := Lib.hid hP
        clear hP
        go_wp2
        go_roundw
        case rel => exact ⟨4, ts, by omega, rfl, by go_num, by rw [textTo_skip HP.out]; exact HZ.out.1, by have := HZ.out.2.1; omega, HZ.out.2.2⟩
        case measure => simp [intOf]
      | true =>
        have p1 : (m / 16 % 2 == 1) = true := by
          rw [← hP, Bool.eq_iff_iff, beq_iff_eq, hasB, decide_eq_true_iff, show bitV 3 = 16 from rfl] <;> omega
        have HP := Lib.hid hP
        clear hP
        by_cases h : n = 0
        · subst h
          have HE : Hid (ts = []) := List.eq_nil_of_length_eq_zero HN.out.symm
          obtain ⟨V, hV⟩ : ∃ V, V = wordM 3 := ⟨_, rfl⟩
          have hsum : ∀ W, (Op.stringOp .add (ByteArray.mk ts.toArray) (ByteArray.mk #[108, 105, 116])).run Tryd.prog W = .ok (.string (ByteArray.mk V.toArray)) W := sum_any (P := Tryd.prog) ts (wordM 3) V (by rw [HE.out, hV]; rfl) (by rw [HE.out]; decide)
          have HU : Hid (V = textTo m 4) := by
            have e := textTo_first HP.out (by rw [← HZ.out.1]; exact HE.out)
            rw [← hV] at e
            exact e.symm
          have HL : Hid (V.length ≤ 5 * 4) := by
            rw [hV]
            exact show (wordM 3).length ≤ 5 * 4 from by decide
          clear hV
          go_wp2
          go_roundw
          case rel => exact ⟨4, V, by omega, rfl, by go_num, HU.out, HL.out, HZ.out.2.2.alloc _⟩
          case measure => simp [intOf]
        · have hd : 0 < n := by omega
          obtain ⟨U, hU⟩ : ∃ U, U = ts ++ [43] := ⟨_, rfl⟩
          obtain ⟨V, hV⟩ : ∃ V, V = U ++ wordM 3 := ⟨_, rfl⟩
          have hs1 : ∀ W, (Op.stringOp .add (ByteArray.mk ts.toArray) (ByteArray.mk #[43])).run Tryd.prog W = .ok (.string (ByteArray.mk U.toArray)) W := sum_any (P := Tryd.prog) ts [43] U hU.symm (by have := HN.out; simp; omega)
          have hs2 : ∀ W, (Op.stringOp .add (ByteArray.mk U.toArray) (ByteArray.mk #[108, 105, 116])).run Tryd.prog W = .ok (.string (ByteArray.mk V.toArray)) W := sum_any (P := Tryd.prog) U (wordM 3) V hV.symm (by have := HN.out; rw [hU]; simp [wordM]; omega)
          have HU : Hid (V = textTo m 4) := by
            have hne : textTo m 3 ≠ [] := by
              rw [← HZ.out.1]
              intro e
              have := HN.out
              rw [e] at this
              exact h this
            have e := textTo_more HP.out hne
            rw [← HZ.out.1, ← hU, ← hV] at e
            exact e.symm
          have HL : Hid (V.length ≤ 5 * 4) := by
            have h1 := HZ.out.2.1
            have : V.length = ts.length + 1 + (wordM 3).length := by rw [hV, hU]; simp; omega
            have h4 : (wordM 3).length ≤ 4 := by decide
            show _ ≤ _
            omega
          clear hU hV h
          go_wp2
          go_roundw
          case rel => exact ⟨4, V, by omega, rfl, by go_num, HU.out, HL.out, HZ.out.2.2.alloc _⟩
          case measure => simp [intOf]
    · by_cases h : n = 0
      · subst h
        go_wp2
        go_ret
        refine ⟨?_, HO.out.trans HZ.out.2.2 (fun _ h => h.elim)⟩
        rw [textM, if_pos (by rw [← HZ.out.1]; exact List.eq_nil_of_length_eq_zero HN.out.symm)]
        rfl
      · have hd : ((n : Int) == 0) = false := by simp; omega
        go_wp2
        go_ret
        refine ⟨?_, HO.out.trans HZ.out.2.2 (fun _ h => h.elim)⟩
        rw [textM, if_neg (by rw [← HZ.out.1]; intro e; have := HN.out; rw [e] at this; exact h this), ← HZ.out.1]
        rfl
end Go.Proofs.YtefcgbkbgkllaaaDoor
