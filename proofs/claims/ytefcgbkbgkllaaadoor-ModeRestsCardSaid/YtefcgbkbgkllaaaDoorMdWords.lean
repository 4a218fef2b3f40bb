/- The program's words of a number. -/
import Derived.Test.YtefcgbkbgkllaaaDoorMd
import Derived.Test.YtefcgbkbgkllaaaDoorPlain
import Derived.Test.YtefcgbkbgkllaaaDoorTexts
import Derived.Test.YtefcgbkbgkllaaaDoorRow1
import Derived.Test.YtefcgbkbgkllaaaDoorShelf
namespace Go.Proofs.YtefcgbkbgkllaaaDoor
open Go Go.RowKit
set_option maxRecDepth 100000
set_option maxHeartbeats 4000000

/-- The bits and their words, as they lie. -/
@[reducible] def bitsC : List Value := [.int .i64 1, S8 (wordM 0), .int .i64 2, S8 (wordM 1), .int .i64 8, S8 (wordM 2), .int .i64 16, S8 (wordM 3)]
def BitsAt (W : World) : Prop := W.rangeAt 4 0 bitsC
theorem BitsAt.only {W W' : World} (h : BitsAt W) (ho : Only (fun _ => False) W W') : BitsAt W' := range_only h ho
theorem size_bits : (Tryd.prog.info? 57).map (·.size) = some 8 := by kernel_rfl
theorem size_mbit : (Tryd.prog.info? 56).map (·.size) = some 2 := by kernel_rfl

/-- strings.Join with a +, of a row of the call's own. -/
theorem join_own {W : World} {B : Nat} {A : Option Addr} {n c : Nat} {l : List (List UInt8)} (hr : W.ownsRow B 9 1 (.slice A n c) n (l.map S8)) (hn : l.length = n) (h0 : 0 < n) (h4 : n ≤ 1000) (hl : (Lib.join l [43]).length ≤ 1000) :
    Calls Tryd.prog 25 #[.slice A n c, .string ⟨#[43]⟩] W fun e w' => e = .returned (.string ⟨(Lib.join l [43]).toArray⟩) ∧ Only (fun _ => False) W w' := by
  obtain ⟨g, rfl, _, hgl, hc⟩ := own_at hr h0
  have hle := (own_le hr).1
  have hm : (l.map fun s => (⟨s.toArray⟩ : ByteArray)).map (·.data.toList) = l := by
    rw [List.map_map]
    exact (List.map_congr_left (fun s _ => by simp)).trans (List.map_id l)
  have hlen : (l.map fun s => (⟨s.toArray⟩ : ByteArray)).length = n := by rw [List.length_map, hn]
  have h := Tryd.strings_Join g 0 c (l.map fun s => ⟨s.toArray⟩) ⟨#[43]⟩ W (fun j x hx => by
    rw [Nat.zero_add]
    refine hc j (.string x) ?_
    rw [List.getElem?_map] at hx ⊢
    cases hs : l[j]? with
    | none => rw [hs] at hx; cases hx
    | some s =>
      rw [hs] at hx
      injection hx with hx
      subst hx
      rfl) hgl (by rw [hlen]; omega) (by rw [hlen]; exact hle) (by rw [hm]; exact Nat.le_trans hl (by decide))
  rw [hm, hlen] at h
  refine h.mono ?_
  rintro e w' ⟨rfl, hb⟩
  exact ⟨rfl, hb.os, hb.tape, hb.output, hb.size, fun k hk _ => hb.block k hk⟩

theorem words_join {m : Int} (hm : isMask m = true) (h0 : m ≠ 0) : Lib.join (wordsTo m 4) [43] = textM m ∧ 0 < (wordsTo m 4).length ∧ (Lib.join (wordsTo m 4) [43]).length ≤ 1000 := by
  have key : ∀ n : Fin 28, isMask (n.val : Int) = true → (n.val : Int) ≠ 0 → Lib.join (wordsTo (n.val : Int) 4) [43] = textM (n.val : Int) ∧ 0 < (wordsTo (n.val : Int) 4).length ∧ (Lib.join (wordsTo (n.val : Int) 4) [43]).length ≤ 1000 := by decide +kernel
  exact mask_all (p := fun m => m ≠ 0 → Lib.join (wordsTo m 4) [43] = textM m ∧ 0 < (wordsTo m 4).length ∧ (Lib.join (wordsTo m 4) [43]).length ≤ 1000) key hm h0
theorem wordsTo_len (m : Int) : ∀ k, (wordsTo m k).length ≤ k
  | 0 => Nat.le_refl _
  | k + 1 => by
    have ih := wordsTo_len m k
    rw [wordsTo]
    split
    · rw [List.length_append, List.length_singleton]; omega
    · omega
theorem wordsTo_skip {m : Int} {k : Nat} (h : hasB m k = false) : wordsTo m (k + 1) = wordsTo m k := by simp [wordsTo, h]
theorem wordsTo_more {m : Int} {k : Nat} (h : hasB m k = true) : wordsTo m (k + 1) = wordsTo m k ++ [wordM k] := by simp [wordsTo, h]
theorem idx_bit (W : World) (k : Nat) (hk : k < 4) : (Instr.index 57 (.agg bitsC.toArray) (.int .i64 (k : Int))).run Tryd.prog W = .ok (.agg #[.int .i64 (bitV k), S8 (wordM k)]) W := by
  have hu := Tryd.underlying57
  have hs : ∀ W, (sizeOf 56).run Tryd.prog W = .ok 2 W := fun W => by kernel_rfl
  have hg : ∀ W, (isAgg 56).run Tryd.prog W = .ok true W := fun W => by kernel_rfl
  rcases (by omega : k = 0 ∨ k = 1 ∨ k = 2 ∨ k = 3) with rfl | rfl | rfl | rfl <;>
    simp [Instr.index, run_underlying hu, asIntOf, go_sem, part, hs, hg, bitV]
/-- The words of a mask that isn't 0. -/
theorem mdWords_mask {w : World} (hB : BitsAt w) {m : Int} (hm : isMask m = true) (h0 : m ≠ 0) :
    Calls Tryd.prog 13 #[.int .i64 m] w fun e w' => e = .returned (.string ⟨(textM m).toArray⟩) ∧ Only (fun _ => False) w w' := by
  obtain ⟨hlo, hhi, _⟩ := isMask_iff.1 hm
  have HB := Lib.hid hB
  have HR := Lib.hid (fun W => mdRight_any W (m := m) ⟨by omega, by omega⟩)
  rw [hm] at HR
  have HM := Lib.hid hm
  have HJ := Lib.hid (words_join hm h0)
  have hne : (m == 0) = false := by simp [h0]
  have hmb := fun k hk => mask_bit hm k hk
  have HMB := Lib.hid hmb
  have HI := Lib.hid (fun W k hk => idx_bit W k hk)
  obtain ⟨cs, hcs⟩ : ∃ cs, cs = bitsC := ⟨_, rfl⟩
  unfold BitsAt at HB
  rw [← hcs] at HI HB
  have hsz : (Tryd.prog.info? 57).map (·.size) = some cs.length := by rw [hcs]; exact size_bits
  have HSz := Lib.hid hsz
  clear hm hB hmb hcs hsz
  go_enter Tryd.func13, Tryd.ntmps13
  go_wp2_with (first
    | (go_at_call 12; (with_reducible refine (HR.out _).mono ?_); rintro e w1 ⟨rfl, e1⟩; subst w1)
    | ((with_reducible show wpList _ _ _ (⟨some 13, _, _, _, _, _⟩ :: _) _ _); refine wpList_load_mid rfl 57 _ rfl 4 0 rfl cs _ HB.out Tryd.underlying57 rfl HSz.out ?_)
    | fail)
  go_loopw [3, 14] (fun v i W => ∃ (k n c : Nat) (A : Option Addr), k ≤ 4 ∧ n ≤ 4 ∧ v = .slice A n c ∧ i = .int .i64 (k : Int) ∧ Hid ((wordsTo m k).length = n ∧ W.ownsRow w.heap.size 9 1 (.slice A n c) n ((wordsTo m k).map S8) ∧ Only (fun _ => False) w W)) (fun _ i _ => 4 - (intOf i).toNat)
  case atStart => exact ⟨0, 0, 0, none, by omega, by omega, rfl, rfl, rfl, own_nil _ _ _ _, Only.refl _ _⟩
  case round =>
    obtain ⟨k, n, c, A, hk, hn4, rfl, rfl, HZ⟩ := hrel
    rcases (by omega : k = 0 ∨ k = 1 ∨ k = 2 ∨ k = 3 ∨ k = 4) with rfl | rfl | rfl | rfl | rfl
    · have q1 := HMB.out 0 (by omega)
      have hx : ∀ W, (Instr.index 57 (.agg cs.toArray) (.int .i64 0)).run Tryd.prog W = .ok (.agg #[.int .i64 1, S8 (wordM 0)]) W := fun W => HI.out W 0 (by omega)
      rw [show bitV 0 = 1 from rfl] at q1
      have q2 : (bits .and .i64 m 1 != 0) = hasB m 0 := by
        unfold bne
        rw [q1, Bool.not_not]
      cases hP : hasB m 0 with
      | false =>
        rw [hP] at q1 q2
        simp only [Bool.not_false] at q1
        have HP := Lib.hid hP
        generalize wordM 0 = wd at hx
        clear hP
        go_wp2_with fail
        go_roundw
        case rel => exact ⟨1, n, c, A, by omega, by omega, rfl, by go_num, by rw [wordsTo_skip HP.out]; exact HZ.out.1, by rw [wordsTo_skip HP.out]; exact own_same HZ.out.2.1 ((Only.refl _ _).alloc _), HZ.out.2.2.alloc _⟩
        case measure => simp [intOf]
      | true =>
        rw [hP] at q1 q2
        simp only [Bool.not_true] at q1
        have HE := Lib.hid (wordsTo_more hP)
        have HL := Lib.hid (wordsTo_len m 0)
        generalize wordM 0 = wd at hx HE
        generalize hvs : (wordsTo m 0).map S8 = vs at HZ
        have HV := Lib.hid hvs
        clear hP hvs
        go_wp2_with (first
          | (at_builtin; refine step_one rfl _ _ 51 rfl 9 _ 16 Tryd.underlying51 info_str rfl (by omega) w.heap.size A n c vs rfl (own_same HZ.out.2.1 (((Only.refl _ _).alloc _).alloc _)) (wr.heap.size + 1) _ rfl ((Blk.new' _ 9 [S8 wd] (by simp)).cell 0) rfl (by omega) (by have := HZ.out.2.2.size; simp; omega) ?_; intro A' c' w6 hR6 hG6 hN6)
          | fail)
        go_roundw
        case rel =>
          refine ⟨1, n + 1, c', A', by omega, by have := HL.out; have := HZ.out.1; omega, rfl, by go_num, ?_, ?_, ((HZ.out.2.2.alloc _).alloc _).grown hG6.out (fun q hq => .inr (own_lt HZ.out.2.1 q hq).1)⟩
          · rw [HE.out, List.length_append, HZ.out.1]
            rfl
          · have h := hR6.out
            rw [HE.out, List.map_append, HV.out]
            exact h
        case measure => simp [intOf]
    · have q1 := HMB.out 1 (by omega)
      have hx : ∀ W, (Instr.index 57 (.agg cs.toArray) (.int .i64 1)).run Tryd.prog W = .ok (.agg #[.int .i64 2, S8 (wordM 1)]) W := fun W => HI.out W 1 (by omega)
      rw [show bitV 1 = 2 from rfl] at q1
      have q2 : (bits .and .i64 m 2 != 0) = hasB m 1 := by
        unfold bne
        rw [q1, Bool.not_not]
      cases hP : hasB m 1 with
      | false =>
        rw [hP] at q1 q2
        simp only [Bool.not_false] at q1
        have HP := Lib.hid hP
        generalize wordM 1 = wd at hx
        clear hP
        go_wp2_with fail
        go_roundw
        case rel => exact ⟨2, n, c, A, by omega, by omega, rfl, by go_num, by rw [wordsTo_skip HP.out]; exact HZ.out.1, by rw [wordsTo_skip HP.out]; exact own_same HZ.out.2.1 ((Only.refl _ _).alloc _), HZ.out.2.2.alloc _⟩
        case measure => simp [intOf]
      | true =>
        rw [hP] at q1 q2
        simp only [Bool.not_true] at q1
        have HE := Lib.hid (wordsTo_more hP)
        have HL := Lib.hid (wordsTo_len m 1)
        generalize wordM 1 = wd at hx HE
        generalize hvs : (wordsTo m 1).map S8 = vs at HZ
        have HV := Lib.hid hvs
        clear hP hvs
        go_wp2_with (first
          | (at_builtin; refine step_one rfl _ _ 51 rfl 9 _ 16 Tryd.underlying51 info_str rfl (by omega) w.heap.size A n c vs rfl (own_same HZ.out.2.1 (((Only.refl _ _).alloc _).alloc _)) (wr.heap.size + 1) _ rfl ((Blk.new' _ 9 [S8 wd] (by simp)).cell 0) rfl (by omega) (by have := HZ.out.2.2.size; simp; omega) ?_; intro A' c' w6 hR6 hG6 hN6)
          | fail)
        go_roundw
        case rel =>
          refine ⟨2, n + 1, c', A', by omega, by have := HL.out; have := HZ.out.1; omega, rfl, by go_num, ?_, ?_, ((HZ.out.2.2.alloc _).alloc _).grown hG6.out (fun q hq => .inr (own_lt HZ.out.2.1 q hq).1)⟩
          · rw [HE.out, List.length_append, HZ.out.1]
            rfl
          · have h := hR6.out
            rw [HE.out, List.map_append, HV.out]
            exact h
        case measure => simp [intOf]
    · have q1 := HMB.out 2 (by omega)
      have hx : ∀ W, (Instr.index 57 (.agg cs.toArray) (.int .i64 2)).run Tryd.prog W = .ok (.agg #[.int .i64 8, S8 (wordM 2)]) W := fun W => HI.out W 2 (by omega)
      rw [show bitV 2 = 8 from rfl] at q1
      have q2 : (bits .and .i64 m 8 != 0) = hasB m 2 := by
        unfold bne
        rw [q1, Bool.not_not]
      cases hP : hasB m 2 with
      | false =>
        rw [hP] at q1 q2
        simp only [Bool.not_false] at q1
        have HP := Lib.hid hP
        generalize wordM 2 = wd at hx
        clear hP
        go_wp2_with fail
        go_roundw
        case rel => exact ⟨3, n, c, A, by omega, by omega, rfl, by go_num, by rw [wordsTo_skip HP.out]; exact HZ.out.1, by rw [wordsTo_skip HP.out]; exact own_same HZ.out.2.1 ((Only.refl _ _).alloc _), HZ.out.2.2.alloc _⟩
        case measure => simp [intOf]
      | true =>
        rw [hP] at q1 q2
        simp only [Bool.not_true] at q1
        have HE := Lib.hid (wordsTo_more hP)
        have HL := Lib.hid (wordsTo_len m 2)
        generalize wordM 2 = wd at hx HE
        generalize hvs : (wordsTo m 2).map S8 = vs at HZ
        have HV := Lib.hid hvs
        clear hP hvs
        go_wp2_with (first
          | (at_builtin; refine step_one rfl _ _ 51 rfl 9 _ 16 Tryd.underlying51 info_str rfl (by omega) w.heap.size A n c vs rfl (own_same HZ.out.2.1 (((Only.refl _ _).alloc _).alloc _)) (wr.heap.size + 1) _ rfl ((Blk.new' _ 9 [S8 wd] (by simp)).cell 0) rfl (by omega) (by have := HZ.out.2.2.size; simp; omega) ?_; intro A' c' w6 hR6 hG6 hN6)
          | fail)
        go_roundw
        case rel =>
          refine ⟨3, n + 1, c', A', by omega, by have := HL.out; have := HZ.out.1; omega, rfl, by go_num, ?_, ?_, ((HZ.out.2.2.alloc _).alloc _).grown hG6.out (fun q hq => .inr (own_lt HZ.out.2.1 q hq).1)⟩
          · rw [HE.out, List.length_append, HZ.out.1]
            rfl
          · have h := hR6.out
            rw [HE.out, List.map_append, HV.out]
            exact h
        case measure => simp [intOf]
    · have q1 := HMB.out 3 (by omega)
      have hx : ∀ W, (Instr.index 57 (.agg cs.toArray) (.int .i64 3)).run Tryd.prog W = .ok (.agg #[.int .i64 16, S8 (wordM 3)]) W := fun W => HI.out W 3 (by omega)
      rw [show bitV 3 = 16 from rfl] at q1
      have q2 : (bits .and .i64 m 16 != 0) = hasB m 3 := by
        unfold bne
        rw [q1, Bool.not_not]
      cases hP : hasB m 3 with
      | false =>
        rw [hP] at q1 q2
        simp only [Bool.not_false] at q1
        have HP := Lib.hid hP
        generalize wordM 3 = wd at hx
        clear hP
        go_wp2_with fail
        go_roundw
        case rel => exact ⟨4, n, c, A, by omega, by omega, rfl, by go_num, by rw [wordsTo_skip HP.out]; exact HZ.out.1, by rw [wordsTo_skip HP.out]; exact own_same HZ.out.2.1 ((Only.refl _ _).alloc _), HZ.out.2.2.alloc _⟩
        case measure => simp [intOf]
      | true =>
        rw [hP] at q1 q2
        simp only [Bool.not_true] at q1
        have HE := Lib.hid (wordsTo_more hP)
        have HL := Lib.hid (wordsTo_len m 3)
        generalize wordM 3 = wd at hx HE
        generalize hvs : (wordsTo m 3).map S8 = vs at HZ
        have HV := Lib.hid hvs
        clear hP hvs
        go_wp2_with (first
          | (at_builtin; refine step_one rfl _ _ 51 rfl 9 _ 16 Tryd.underlying51 info_str rfl (by omega) w.heap.size A n c vs rfl (own_same HZ.out.2.1 (((Only.refl _ _).alloc _).alloc _)) (wr.heap.size + 1) _ rfl ((Blk.new' _ 9 [S8 wd] (by simp)).cell 0) rfl (by omega) (by have := HZ.out.2.2.size; simp; omega) ?_; intro A' c' w6 hR6 hG6 hN6)
          | fail)
        go_roundw
        case rel =>
          refine ⟨4, n + 1, c', A', by omega, by have := HL.out; have := HZ.out.1; omega, rfl, by go_num, ?_, ?_, ((HZ.out.2.2.alloc _).alloc _).grown hG6.out (fun q hq => .inr (own_lt HZ.out.2.1 q hq).1)⟩
          · rw [HE.out, List.length_append, HZ.out.1]
            rfl
          · have h := hR6.out
            rw [HE.out, List.map_append, HV.out]
            exact h
        case measure => simp [intOf]
    · have HJo := Lib.hid (join_own HZ.out.2.1 HZ.out.1 (by rw [← HZ.out.1]; exact HJ.out.2.1) (by omega) HJ.out.2.2)
      rw [HJ.out.1] at HJo
      go_wp2_with (go_at_call 25; (with_reducible refine HJo.out.mono ?_); rintro e w2 ⟨rfl, ho2⟩)
      go_ret
      exact ⟨rfl, HZ.out.2.2.trans ho2 (fun _ h => h.elim)⟩
end Go.Proofs.YtefcgbkbgkllaaaDoor
