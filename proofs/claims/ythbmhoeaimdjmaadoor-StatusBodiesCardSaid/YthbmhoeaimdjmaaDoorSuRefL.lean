/- Layer 17's document, walked: Line. -/
import Derived.Test.YthbmhoeaimdjmaaDoorSuOf
import Derived.Test.YthbmhoeaimdjmaaDoorCodesRefN
import Derived.Test.YthbmhoeaimdjmaaDoorTexts
import Derived.Deep.RegionHeld3
namespace Go.Proofs.YthbmhoeaimdjmaaDoor
open Go Go.RowKit
set_option maxRecDepth 100000
set_option maxHeartbeats 4000000

theorem rsuLine_any {w : World} {A : Option Addr} {n c : Nat} {l : List En} (h : EnAt w A n l) (hn : n ≤ 1000) :
    Calls Tryd.prog 11 #[.slice A n c] w fun e w' => e = .returned (.string ⟨(lineAt 0 l).toArray⟩) ∧ Only (fun _ => False) w w' := by
  have H := Lib.hid h
  have hT := lineAt_short l 0
  rw [h.1] at hT
  have hT2 : (lineAt 0 l).length ≤ 107000 := by omega
  clear h hT
  obtain ⟨T, hTe⟩ : ∃ T, T = lineAt 0 l := ⟨_, rfl⟩
  rw [← hTe] at hT2 ⊢
  have HT := Lib.hid hT2
  have HTe := Lib.hid hTe
  clear hT2 hTe
  go_enter Tryd.func11, Tryd.ntmps11
  go_wp2
  go_loopw [3, 10] (fun v i W => ∃ (k : Nat) (acc : List UInt8), k ≤ n ∧ v = .string ⟨acc.toArray⟩ ∧ i = .int .i64 (k : Int) ∧ Hid (acc ++ lineAt k (l.drop k) = T ∧ Only (fun _ => False) w W)) (fun _ i _ => n - (intOf i).toNat)
  case atStart => exact ⟨0, [], Nat.zero_le _, rfl, rfl, by rw [HTe.out]; rfl, Only.refl _ _⟩
  case round =>
    obtain ⟨k, acc, hk, rfl, rfl, hrel⟩ := hrel
    obtain ⟨hcat, hon⟩ := hrel.out
    have HOn := Lib.hid hon
    have HCat := Lib.hid hcat
    clear hrel hcat hon
    by_cases hlt : k < n
    · have hlt2 : (k : Int) < (n : Int) := by omega
      obtain ⟨x, hx⟩ : ∃ x, l[k]? = some x := ⟨_, List.getElem?_eq_getElem (by rw [H.out.1]; omega)⟩
      obtain ⟨g, off, rfl, hgl, hrg⟩ := (H.out.same HOn.out).2 k x hx
      have hd0 : l.drop k = x :: l.drop (k + 1) := by
        obtain ⟨h1, e⟩ := List.getElem?_eq_some_iff.1 hx
        rw [List.drop_eq_getElem_cons h1, e]
      have hc := HCat.out
      rw [hd0, lineAt] at hc
      have HRg := Lib.hid hrg
      obtain ⟨xv, xo⟩ := x
      obtain ⟨wa, hwa⟩ : ∃ a, a = wordOf xv := ⟨_, rfl⟩
      obtain ⟨wb, hwb⟩ : ∃ a, a = nameOf xo := ⟨_, rfl⟩
      obtain ⟨R, hR⟩ : ∃ R, R = lineAt (k + 1) (l.drop (k + 1)) := ⟨_, rfl⟩
      simp only at hc
      rw [← hwa, ← hwb, ← hR] at hc
      have HWd : Hid (∀ W, Calls Tryd.prog 32 #[.int .i64 xv] W fun e w' => e = .returned (.string ⟨wa.toArray⟩) ∧ Only (fun _ => False) W w') := fun W => by
        rw [hwa]; exact rWord W xv
      have HNm : Hid (∀ W, Calls Tryd.prog 33 #[.int .i64 xo] W fun e w' => e = .returned (.string ⟨wb.toArray⟩) ∧ Only (fun _ => False) W w') := fun W => by
        rw [hwb]; exact rName W xo
      have HR := Lib.hid hR
      obtain ⟨ma, hma⟩ : ∃ a, a = orM wa := ⟨_, rfl⟩
      obtain ⟨mb, hmb⟩ : ∃ a, a = orM wb := ⟨_, rfl⟩
      rw [← hma, ← hmb] at hc
      have HMa := Lib.hid hma
      have HMb := Lib.hid hmb
      obtain ⟨acc2, hacc2⟩ : ∃ acc2, acc2 = acc ++ sepAt k := ⟨_, rfl⟩
      have HA2 := Lib.hid hacc2
      have hct : acc2 ++ (ma ++ ([32] ++ (mb ++ R))) = T := by
        rw [hacc2, List.append_assoc]
        exact hc
      have hlen := congrArg List.length hct
      simp only [List.length_append, List.length_cons, List.length_nil] at hlen
      have HLn : Hid (acc2.length + (ma.length + (0 + 1 + (mb.length + R.length))) = T.length) := hlen
      have HCt := Lib.hid hct
      have HEn : Hid (Blk (wr.alloc (.cells #[.int .i64 xv, .int .i64 xo] 71)) wr.heap.size 71 [.int .i64 xv, .int .i64 xo]) := Blk.new _ _ [.int .i64 xv, .int .i64 xo]
      have HOe : Hid (Only (fun _ => False) w (wr.alloc (.cells #[.int .i64 xv, .int .i64 xo] 71))) := HOn.out.alloc _
      clear hx hrg hd0 hc hwa hwb hR hlen hma hmb hct hacc2 HCat HOn
      by_cases hk0 : k = 0
      focus
        have hkd : decide ((0 : Int) < (k : Int)) = false := by simp; omega
        have hkn : ¬ 0 < k := by omega
        obtain rfl : acc2 = acc := by rw [HA2.out, sepAt, if_pos hk0, List.append_nil]
        clear hk0
        go_wp2_with (first
          | ((with_reducible show wpList _ _ _ (⟨some 14, _, _, _, _, _⟩ :: _) _ _); refine wpList_load_mid rfl 71 _ rfl g (off + k * 2) rfl [.int .i64 xv, .int .i64 xo] _ HRg.out Tryd.underlying71 rfl size_ren ?_)
          | fail)
        clear hkd hkn
      rotate_left
      focus
        have hkd : decide ((0 : Int) < (k : Int)) = true := by simp; omega
        have hkn : 0 < k := by omega
        have hsep : acc ++ [44, 32] = acc2 := by rw [HA2.out, sepAt, if_neg hk0]
        have hal : acc.length + 2 ≤ 107000 := by
          have h1 := congrArg List.length hsep
          simp only [List.length_append, List.length_cons, List.length_nil] at h1
          have := HLn.out
          have := HT.out
          omega
        have hadd := fun W => sum_texts (P := Tryd.prog) (w := W) acc [44, 32] acc2 hsep (by simp; omega)
        clear hk0 hsep hal
        go_wp2_with (first
          | ((with_reducible show wpList _ _ _ (⟨some 14, _, _, _, _, _⟩ :: _) _ _); refine wpList_load_mid rfl 71 _ rfl g (off + k * 2) rfl [.int .i64 xv, .int .i64 xo] _ HRg.out Tryd.underlying71 rfl size_ren ?_)
          | fail)
        clear hkd hkn hadd
      all_goals
        obtain ⟨w4, hw4⟩ : ∃ w4, w4 = wr.alloc (.cells #[.int .i64 xv, .int .i64 xo] 71) := ⟨_, rfl⟩
        obtain ⟨N, hN⟩ : ∃ N, N = wr.heap.size := ⟨_, rfl⟩
        rw [← hw4, ← hN] at HEn
        rw [← hw4] at HOe
        rw [← hw4, ← hN]
        clear hw4 hN HRg
        have HK : Hid (∀ W, Only (fun _ => False) w4 W → W.cell? ⟨N, 0, none⟩ = some (.int .i64 xv) ∧ W.cell? ⟨N, 1, none⟩ = some (.int .i64 xo)) := fun W ho => ⟨(HEn.out.only ho (fun h => h)).cell 0, (HEn.out.only ho (fun h => h)).cell 1⟩
        go_region_held3 (fun w => w.cell? ⟨N, 0, none⟩ = some (.int .i64 xv) ∧ w.cell? ⟨N, 1, none⟩ = some (.int .i64 xo))
          (first | exact HK.out _ (Only.refl _ _).drew | exact HK.out _ HO5.out | exact HK.out _ HO6.out | exact HK.out _ (HO6.out.alloc _))
          (first
            | (go_at_call 32; refine (HWd.out _).mono ?_; rintro e w5 ⟨rfl, ho5⟩; have HO5 : Hid (Only (fun _ => False) w4 w5) := ((Only.refl _ w4).drew).trans ho5 (fun _ h => h.elim); clear ho5)
            | (go_at_call 33; refine (HNm.out _).mono ?_; rintro e w6 ⟨rfl, ho6⟩; have HO6 : Hid (Only (fun _ => False) w4 w6) := HO5.out.trans ho6 (fun _ h => h.elim); clear ho6))
        obtain ⟨w7, hw7⟩ : ∃ w7, w7 = w6.alloc (.cells #[S8 wa, S8 wb] 9) := ⟨_, rfl⟩
        obtain ⟨M, hM⟩ : ∃ M, M = w6.heap.size := ⟨_, rfl⟩
        have HBk : Hid (Blk w7 M 9 [S8 wa, S8 wb]) := by
          rw [hw7, hM]
          exact Blk.new _ _ [S8 wa, S8 wb]
        have HO7 : Hid (Only (fun _ => False) w w7) := by
          rw [hw7]
          exact (HOe.out.trans HO6.out (fun _ h => h.elim)).alloc _
        rw [← hw7, ← hM]
        clear hw7 hM HO5 HO6 HK HEn HOe HWd HNm
        go_wp2
        have HSa := Lib.hid (show acc2.length + ma.length + 1 + mb.length ≤ 107000 by have := HLn.out; have := HT.out; omega)
        have z0 : w7.cell? ⟨M, 0, none⟩ = some (.string ⟨wa.toArray⟩) := HBk.out.cell 0
        have z1 : w7.cell? ⟨M, 1, none⟩ = some (.string ⟨wb.toArray⟩) := HBk.out.cell 1
        obtain ⟨sa, hsa⟩ : ∃ s, (ByteArray.mk wa.toArray).size = s := ⟨_, rfl⟩
        obtain ⟨sb, hsb⟩ : ∃ s, (ByteArray.mk wb.toArray).size = s := ⟨_, rfl⟩
        obtain ⟨t1, ht1⟩ : ∃ t1, t1 = acc2 ++ ma := ⟨_, rfl⟩
        obtain ⟨t2, ht2⟩ : ∃ t2, t2 = t1 ++ [32] := ⟨_, rfl⟩
        obtain ⟨t3, ht3⟩ : ∃ t3, t3 = t2 ++ mb := ⟨_, rfl⟩
        have hl1 : t1.length = acc2.length + ma.length := by rw [ht1, List.length_append]
        have hl2 : t2.length = acc2.length + ma.length + 1 := by rw [ht2, List.length_append, hl1]; rfl
        have ad1 := fun W => sum_texts (P := Tryd.prog) (w := W) acc2 ma t1 ht1.symm (by have := HSa.out; omega)
        have ad2 := fun W => sum_texts (P := Tryd.prog) (w := W) t1 [32] t2 ht2.symm (by have := HSa.out; simp; omega)
        have ad3 := fun W => sum_texts (P := Tryd.prog) (w := W) t2 mb t3 ht3.symm (by have := HSa.out; omega)
        have HT3 : Hid (t3 ++ R = T) := by
          show t3 ++ R = T
          rw [ht3, ht2, ht1, ← HCt.out]
          simp [List.append_assoc]
        have wy1 : (sa = 0 ∧ ma = [63]) ∨ (sa ≠ 0 ∧ ma = wa) := by
          rw [← hsa, HMa.out]
          cases wa with
          | nil => exact .inl ⟨rfl, rfl⟩
          | cons x r => exact .inr ⟨by simp [ByteArray.size], by unfold orM; rw [if_neg (by simp)]⟩
        have wy2 : (sb = 0 ∧ mb = [63]) ∨ (sb ≠ 0 ∧ mb = wb) := by
          rw [← hsb, HMb.out]
          cases wb with
          | nil => exact .inl ⟨rfl, rfl⟩
          | cons x r => exact .inr ⟨by simp [ByteArray.size], by unfold orM; rw [if_neg (by simp)]⟩
        have HW1 := Lib.hid wy1
        have HW2 := Lib.hid wy2
        clear ht1 ht2 ht3 hl1 hl2 wy1 wy2
        go_loop [3, 27] (fun v i => ∃ (j : Nat) (t : List UInt8), j ≤ 2 ∧ v = .string ⟨t.toArray⟩ ∧ i = .int .i64 (j : Int) ∧ Hid ((j = 0 → t = acc2) ∧ (j = 1 → t = t1) ∧ (j = 2 → t = t3))) (fun _ i => 2 - (intOf i).toNat)
        case atStart => exact ⟨0, acc2, by omega, rfl, rfl, fun _ => rfl, fun h => absurd h (by decide), fun h => absurd h (by decide)⟩
        case round =>
          obtain ⟨j, t, hj, rfl, rfl, hrel⟩ := hrel
          rcases (by omega : j = 0 ∨ j = 1 ∨ j = 2) with rfl | rfl | rfl
          · obtain rfl : acc2 = t := (hrel.out.1 rfl).symm
            clear ad2 ad3
            rcases HW1.out with ⟨h0, hm⟩ | ⟨h0, hm⟩
            · have e1 : ((sa : Int) == 0) = true := by simp; omega
              rw [hm] at ad1
              clear h0 hm
              go_wp2
              go_round
              case rel => exact ⟨1, t1, by omega, rfl, by go_num, fun h => absurd h (by decide), fun _ => rfl, fun h => absurd h (by decide)⟩
              case measure => simp [intOf]
            · have e1 : ((sa : Int) == 0) = false := by simp; omega
              rw [hm] at ad1
              clear h0 hm
              go_wp2
              go_round
              case rel => exact ⟨1, t1, by omega, rfl, by go_num, fun h => absurd h (by decide), fun _ => rfl, fun h => absurd h (by decide)⟩
              case measure => simp [intOf]
          · obtain rfl : t1 = t := (hrel.out.2.1 rfl).symm
            clear ad1
            rcases HW2.out with ⟨h0, hm⟩ | ⟨h0, hm⟩
            · have e1 : ((sb : Int) == 0) = true := by simp; omega
              rw [hm] at ad3
              clear h0 hm
              go_wp2
              go_round
              case rel => exact ⟨2, t3, by omega, rfl, by go_num, fun h => absurd h (by decide), fun h => absurd h (by decide), fun _ => rfl⟩
              case measure => simp [intOf]
            · have e1 : ((sb : Int) == 0) = false := by simp; omega
              rw [hm] at ad3
              clear h0 hm
              go_wp2
              go_round
              case rel => exact ⟨2, t3, by omega, rfl, by go_num, fun h => absurd h (by decide), fun h => absurd h (by decide), fun _ => rfl⟩
              case measure => simp [intOf]
          · obtain rfl : t3 = t := (hrel.out.2.2 rfl).symm
            clear ad1 ad2 ad3
            go_wp2
            go_roundw
            case rel => exact ⟨k + 1, t3, by omega, rfl, by go_num, by rw [← HR.out]; exact HT3.out, HO7.out⟩
            case measure => simp [intOf]; omega
    · obtain rfl : k = n := by omega
      have hT5 : Hid (acc = T) := by
        show acc = T
        have := HCat.out
        rw [List.drop_eq_nil_of_le (by rw [H.out.1]; exact Nat.le_refl _), lineAt, List.append_nil] at this
        exact this
      go_wp2
      go_ret
      exact ⟨by rw [hT5.out]; rfl, HOn.out⟩
end Go.Proofs.YthbmhoeaimdjmaaDoor
